/- The program's Same, of machines that may be. -/
import Derived.Test.YthkollnlmnbidaaGn
import Derived.Deep.RegionHeld3
namespace Go.Proofs.Ythkollnlmnbidaa.A
open Go.RowKit Go.Maps
set_option linter.unusedVariables false

theorem keepB {Y Y' : World} (h : Below Y.heap.size Y Y') {g : Nat} {b : Obj} (hg : Y.heap[g]? = some b) : Y'.heap[g]? = some b :=
  (h.block g (Array.getElem?_eq_some_iff.1 hg).1).trans hg
theorem alloc_step {W Y : World} (hb : Below W.heap.size W Y) : ∃ (g : Nat) (Y' : World), Y.heap.size = g ∧ Y.alloc (.cells #[.slice none 0 0, .slice none 0 0] 25) = Y' ∧ Below W.heap.size W Y' ∧ Below Y.heap.size Y Y' ∧ Y'.heap[g]? = some (.cells #[.slice none 0 0, .slice none 0 0] 25 (0, 0)) ∧ W.heap.size ≤ g ∧ ∀ (g' : Nat) (b : Obj), Y.heap[g']? = some b → g' ≠ g :=
  ⟨_, _, rfl, rfl, hb.alloc hb.size _, (Below.refl _ _).alloc (Nat.le_refl _) _, nil2 Y, hb.size, fun g' b h => Nat.ne_of_lt (Array.getElem?_eq_some_iff.1 h).1⟩
theorem store_step {W X : World} {B ga gb k1 k2 : Nat} {v0 v1 c0 c1 : Value} {x0 x1 y0 y1 : Option Addr} {x y : List (List Int)} {r s : List Int} (ha : X.heap[ga]? = some (.cells #[.slice none 0 0, .slice none 0 0] 25 (0, 0))) (hb : X.heap[gb]? = some (.cells #[c0, c1] 25 (0, 0))) (hne : gb ≠ ga)
    (hd1 : Dm X x0 x1 k1 k1 x r) (hd2 : Dm X y0 y1 k2 k2 y s) (hbw : Below B W X) (hs : B ≤ ga) :
    ∃ Y' : World, (X.setCell ⟨ga, 0, none⟩ v0).setCell ⟨ga, 1, none⟩ v1 = Y' ∧ Y'.heap[ga]? = some (.cells #[v0, v1] 25 (0, 0)) ∧ Y'.heap[gb]? = some (.cells #[c0, c1] 25 (0, 0)) ∧ Dm Y' x0 x1 k1 k1 x r ∧ Dm Y' y0 y1 k2 k2 y s ∧ Below B W Y' := by
  have a5 := blk_set ha 0 v0
  have c5 := (d_cells ha).1
  have c51 : (X.setCell ⟨ga, 0, none⟩ v0).cell? ⟨ga, 1, none⟩ = some (.slice none 0 0) := by rw [cell_of_row _ _ _ _ _ _ a5]; rfl
  refine ⟨_, rfl, set2 (x := v0) (y := v1) ha, ?_, dm_set (dm_set hd1 c5 v0) c51 v1, dm_set (dm_set hd2 c5 v0) c51 v1, (hbw.setCell (p := ⟨ga, 0, none⟩) hs v0).setCell (p := ⟨ga, 1, none⟩) hs v1⟩
  rw [Below.heap_setCell _ _ _ _ hne, Below.heap_setCell _ _ _ _ hne]; exact hb
set_option maxRecDepth 100000 in
set_option maxHeartbeats 64000000 in
theorem msame_yes (a0 a1 b0 b1 : Option Addr) (n m c0 c1 d0 d1 M : Nat) (nx nx2 : List (List Int)) (ru ru2 : List Int) (w : World) (hM : M = 201) (hm : Dm w a0 a1 n n nx ru) (hm2 : Dm w b0 b1 m m nx2 ru2) (hr : rightD nx ru = true) (hr2 : rightD nx2 ru2 = true) (hx : Mx nx ru n) (hx2 : Mx nx2 ru2 m) :
    Calls Try.prog 18 #[.agg #[.slice a0 n c0, .slice a1 n c1], .agg #[.slice b0 m d0, .slice b1 m d1]] w fun e w' => ∃ (x x2 : List (List Int)) (r r2 : List Int), SmM nx ru n M x r ∧ SmM nx2 ru2 m M x2 r2 ∧ e = .returned (.bool (decide (x = x2 ∧ r = r2))) ∧ Below w.heap.size w w' := by
  have hX := four28 w (.slice a0 n c0) (.slice a1 n c1) (.slice b0 m d0) (.slice b1 m d1)
  have hb0 := ((Below.refl w.heap.size w).alloc (Nat.le_refl _) (.cells #[.slice a0 n c0, .slice a1 n c1] 25)).alloc (by simp) (.cells #[.slice b0 m d0, .slice b1 m d1] 25)
  have HB0 := hide hb0
  have HX := hide hX
  have HL := hide (show ((w.alloc (.cells #[.slice a0 n c0, .slice a1 n c1] 25)).alloc (.cells #[.slice b0 m d0, .slice b1 m d1] 25)).heap.size = w.heap.size + 2 by simp)
  have HMA := hide (dm_below' hb0 hm)
  have HMB := hide (dm_below' hb0 hm2)
  have HCA := hide (dright_any a0 a1 n n c0 c1 nx ru _ HMA.out.l0 HMA.out.l1 HMA.out.dr HMA.out.wd HMA.out.m0 HMA.out.m1)
  rw [hr] at HCA
  have HR := hide hr
  have HR2 := hide hr2
  have HXA := hide hx
  have HXB := hide hx2
  have HMM := hide hM
  obtain ⟨p0, p1, -⟩ := d_cells hX.1
  obtain ⟨p2, p3, -⟩ := d_cells hX.2
  clear hX hb0 hm hm2 hr hr2 hx hx2 hM
  go_enter Try.func18, Try.ntmps18
  go_wp2_with fail
  refine HCA.out.mono ?_
  generalize (w.alloc (.cells #[.slice a0 n c0, .slice a1 n c1] 25)).alloc (.cells #[.slice b0 m d0, .slice b1 m d1] 25) = W at *
  rintro e w1 ⟨rfl, hb1⟩
  have HWW := hide (show ∀ wr, Below W.heap.size W wr → (wr.cell? ⟨w.heap.size, 0, none⟩ = some (.slice a0 n c0) ∧ wr.cell? ⟨w.heap.size, 1, none⟩ = some (.slice a1 n c1) ∧ wr.cell? ⟨w.heap.size + 1, 0, none⟩ = some (.slice b0 m d0) ∧ wr.cell? ⟨w.heap.size + 1, 1, none⟩ = some (.slice b1 m d1)) ∧ Dm wr a0 a1 n n nx ru ∧ Dm wr b0 b1 m m nx2 ru2 from fun wr hb => by
    have hl := HL.out
    obtain ⟨q0, q1, -⟩ := d_cells ((hb.block w.heap.size (by omega)).trans HX.out.1)
    obtain ⟨q2, q3, -⟩ := d_cells ((hb.block (w.heap.size + 1) (by omega)).trans HX.out.2)
    exact ⟨⟨q0, q1, q2, q3⟩, dm_below' hb HMA.out, dm_below' hb HMB.out⟩)
  have HB1 := hide hb1
  have hmB := (HWW.out w1 hb1).2.2
  have HCB := hide (dright_any b0 b1 m m d0 d1 nx2 ru2 w1 hmB.l0 hmB.l1 hmB.dr hmB.wd hmB.m0 hmB.m1)
  rw [HR2.out] at HCB
  clear p0 p1 p2 p3
  obtain ⟨p0, p1, p2, p3⟩ := (HWW.out w1 hb1).1
  clear hb1 HCA hmB
  go_wp2_with fail
  refine HCB.out.mono ?_
  rintro e w2 ⟨rfl, hb2⟩
  have HB2 := hide (HB1.out.trans (hb2.mono HB1.out.size))
  clear p0 p1 p2 p3 hb2 HCB
  obtain ⟨p0, p1, p2, p3⟩ := (HWW.out w2 HB2.out).1
  have HB2D := hide (HB2.out.trans ((below_drew1 w2).mono HB2.out.size))
  go_wp2_with fail
  go_cut [5, 6] from 15 to 18 (fun s5 s6 wx => ∃ (x y : List (List Int)) (r s : List Int) (k1 k2 g5 g6 : Nat) (x0 x1 y0 y1 : Option Addr) (u0 u1 z0 z1 : Nat), s5 = .pointer (some ⟨g5, 0, none⟩) ∧ s6 = .pointer (some ⟨g6, 0, none⟩) ∧ SmM nx ru n M x r ∧ SmM nx2 ru2 m M y s ∧ Mx x r k1 ∧ Mx y s k2 ∧ wx.heap[g5]? = some (.cells #[.slice x0 k1 u0, .slice x1 k1 u1] 25 (0, 0)) ∧ wx.heap[g6]? = some (.cells #[.slice y0 k2 z0, .slice y1 k2 z1] 25 (0, 0)) ∧ Dm wx x0 x1 k1 k1 x r ∧ Dm wx y0 y1 k2 k2 y s ∧ Below W.heap.size W wx)
  case first =>
    have HB := hide HB2D.out
    clear p0 p1 p2 p3 HB2D HB2 HB1 HMA HMB HL HX HB0
    refine wp_region_held_drew (S := (fun wr => wr.cell? ⟨w.heap.size, 0, none⟩ = some (.slice a0 n c0) ∧ wr.cell? ⟨w.heap.size, 1, none⟩ = some (.slice a1 n c1) ∧ wr.cell? ⟨w.heap.size + 1, 0, none⟩ = some (.slice b0 m d0) ∧ wr.cell? ⟨w.heap.size + 1, 1, none⟩ = some (.slice b1 m d1))) (by kernel_rfl) (HWW.out _ HB.out).1 (fun hHeld => ?_)
    try simp only [List.size_toArray]
    refine wpAnyH_take (i := 0) (oi := { dst := some 15, op := Op.load 25 (Operand.tmp 2), type := 25, pos := "mini.go:63", after := #[], guard := none }) (v := ?v0) rfl (by kernel_rfl) (by kernel_rfl) (by kernel_rfl) (fun _ _ _ h => h) (Or.inl ⟨by rfl, ?y0⟩) (by assumption) ?r0
    case y0 => (intro w hSw; (try dsimp only at hSw); obtain ⟨qq0, qq1, qq2, qq3⟩ := hSw; go_simp) <;> with_reducible rfl
    try simp only [Act.put, List.setIfInBounds_toArray, List.set_cons_zero, List.set_cons_succ]
    refine wpAnyH_take (i := 2) (oi := { dst := some 17, op := Op.load 25 (Operand.tmp 3), type := 25, pos := "mini.go:63", after := #[], guard := none }) (v := ?v2) rfl (by kernel_rfl) (by kernel_rfl) (by kernel_rfl) (fun _ _ _ h => h) (Or.inl ⟨by rfl, ?y2⟩) (by assumption) ?r2
    case y2 => (intro w hSw; (try dsimp only at hSw); obtain ⟨qq0, qq1, qq2, qq3⟩ := hSw; go_simp) <;> with_reducible rfl
    try simp only [Act.put, List.setIfInBounds_toArray, List.set_cons_zero, List.set_cons_succ]
    clear hHeld
    generalize w2.drew = Y0 at *
    refine wpAnyH_ready (rs := [1, 4, 5]) (by kernel_rfl) (by simp) ?_
    refine AllReadyH.cons rfl (fun K hK => ?_) ?_
    · go_simp
      go_at_call 15
      refine (msmall_any a0 a1 n c0 c1 M nx ru _ HMM.out (HWW.out _ HB.out).2.1 HR.out HXA.out).mono ?_
      rintro e Y' ⟨x, r, k1, x0, x1, u0, u1, hs1, hmx1, rfl, hd1, hk1, hb'⟩
      have HS1 := hide hs1
      have HMX1 := hide hmx1
      have D1 := hide hd1
      clear hs1 hmx1 hd1 hk1
      replace HB := hide (HB.out.trans (hb'.mono HB.out.size))
      clear hb'
      go_wp2_with fail
      refine hK.out _ _ (HWW.out _ HB.out).1 (fun _ => ?_)
      clear hK K
      try simp only [Act.put, List.setIfInBounds_toArray, List.set_cons_zero, List.set_cons_succ]
      refine wpAnyH_ready (rs := [3, 4, 5]) (by kernel_rfl) (by simp) ?_
      refine AllReadyH.cons rfl (fun K hK => ?_) ?_
      · go_simp
        go_at_call 15
        refine (msmall_any b0 b1 m d0 d1 M nx2 ru2 _ HMM.out (HWW.out _ HB.out).2.2 HR2.out HXB.out).mono ?_
        rintro e Y' ⟨y, s, k2, y0, y1, z0, z1, hs2, hmx2, rfl, hd2, hk2, hb'⟩
        have HS2 := hide hs2
        have HMX2 := hide hmx2
        have D2 := hide hd2
        replace D1 := hide (dm_below' hb' D1.out)
        clear hs2 hmx2 hd2 hk2
        replace HB := hide (HB.out.trans (hb'.mono HB.out.size))
        clear hb'
        go_wp2_with fail
        refine hK.out _ _ (HWW.out _ HB.out).1 (fun _ => ?_)
        clear hK K
        try simp only [Act.put, List.setIfInBounds_toArray, List.set_cons_zero, List.set_cons_succ]
        refine wpAnyH_ready (rs := [4, 5]) (by kernel_rfl) (by simp) ?_
        refine AllReadyH.cons rfl (fun K hK => ?_) ?_
        · go_simp
          obtain ⟨g5, Y', e1, e2, hb', hy, hg, hl, hne⟩ := alloc_step HB.out
          rw [e2, e1]
          have L5 := hide hl
          replace D1 := hide (dm_below' hy D1.out)
          replace D2 := hide (dm_below' hy D2.out)
          have G5 := hide hg
          replace HB := hide hb'
          clear hb' hy hg hl hne e1 e2
          refine hK.out _ _ (HWW.out _ HB.out).1 (fun _ => ?_)
          clear hK K
          try simp only [Act.put, List.setIfInBounds_toArray, List.set_cons_zero, List.set_cons_succ]
          refine wpAnyH_ready (rs := [5]) (by kernel_rfl) (by simp) ?_
          refine AllReadyH.cons rfl (fun K hK => ?_) ?_
          · go_simp
            obtain ⟨g6, Y', e1, e2, hb', hy, hg, hl, hne⟩ := alloc_step HB.out
            rw [e2, e1]
            have L6 := hide hl
            have NE := hide (hne _ _ G5.out)
            replace G5 := hide (keepB hy G5.out)
            replace D1 := hide (dm_below' hy D1.out)
            replace D2 := hide (dm_below' hy D2.out)
            have G6 := hide hg
            replace HB := hide hb'
            clear hb' hy hg hl hne e1 e2
            refine hK.out _ _ (HWW.out _ HB.out).1 (fun _ => ?_)
            clear hK K
            try simp only [Act.put, List.setIfInBounds_toArray, List.set_cons_zero, List.set_cons_succ]
            refine wpAnyH_ready (rs := [6]) (by kernel_rfl) (by simp) ?_
            refine AllReadyH.cons rfl (fun K hK => ?_) ?_
            · obtain ⟨cb0, cb1, cb2, cb3⟩ := (blk_facts G5.out).1
              go_simp
              clear cb0 cb1 cb2 cb3
              obtain ⟨Y', e1, h5, h6, hd1, hd2, hb'⟩ := store_step (v0 := .slice x0 k1 u0) (v1 := .slice x1 k1 u1) G5.out G6.out (Ne.symm NE.out) D1.out D2.out HB.out L5.out
              rw [e1]
              replace G5 := hide h5
              replace G6 := hide h6
              replace D1 := hide hd1
              replace D2 := hide hd2
              replace HB := hide hb'
              clear e1 h5 h6 hd1 hd2 hb'
              refine hK.out _ _ (HWW.out _ HB.out).1 (fun _ => ?_)
              clear hK K
              try simp only [Act.put, List.setIfInBounds_toArray, List.set_cons_zero, List.set_cons_succ]
              refine wpAnyH_ready (rs := [7]) (by kernel_rfl) (by simp) ?_
              refine AllReadyH.cons rfl (fun K hK => ?_) ?_
              · obtain ⟨cb0, cb1, cb2, cb3⟩ := (blk_facts G6.out).1
                go_simp
                clear cb0 cb1 cb2 cb3
                obtain ⟨Y', e1, h6, h5, hd1, hd2, hb'⟩ := store_step (v0 := .slice y0 k2 z0) (v1 := .slice y1 k2 z1) G6.out G5.out NE.out D1.out D2.out HB.out L6.out
                rw [e1]
                replace G5 := hide h5
                replace G6 := hide h6
                replace D1 := hide hd1
                replace D2 := hide hd2
                replace HB := hide hb'
                clear e1 h5 h6 hd1 hd2 hb'
                refine hK.out _ _ (HWW.out _ HB.out).1 (fun _ => ?_)
                clear hK K
                try simp only [Act.put, List.setIfInBounds_toArray, List.set_cons_zero, List.set_cons_succ]
                refine wpAnyH_done (by kernel_rfl) ?_ _
                go_wp2_with fail
                go_meet
                exact ⟨x, y, r, s, k1, k2, g5, g6, x0, x1, y0, y1, u0, u1, z0, z1, rfl, rfl, HS1.out, HS2.out, HMX1.out, HMX2.out, G5.out, G6.out, D1.out, D2.out, HB.out⟩
              exact AllReadyH.nil
            exact AllReadyH.nil
          exact AllReadyH.nil
        refine AllReadyH.cons rfl (fun K hK => ?_) ?_
        · go_simp
          obtain ⟨g6, Y', e1, e2, hb', hy, hg, hl, hne⟩ := alloc_step HB.out
          rw [e2, e1]
          have L6 := hide hl
          replace D1 := hide (dm_below' hy D1.out)
          replace D2 := hide (dm_below' hy D2.out)
          have G6 := hide hg
          replace HB := hide hb'
          clear hb' hy hg hl hne e1 e2
          refine hK.out _ _ (HWW.out _ HB.out).1 (fun _ => ?_)
          clear hK K
          try simp only [Act.put, List.setIfInBounds_toArray, List.set_cons_zero, List.set_cons_succ]
          refine wpAnyH_ready (rs := [4]) (by kernel_rfl) (by simp) ?_
          refine AllReadyH.cons rfl (fun K hK => ?_) ?_
          · go_simp
            obtain ⟨g5, Y', e1, e2, hb', hy, hg, hl, hne⟩ := alloc_step HB.out
            rw [e2, e1]
            have L5 := hide hl
            have NE := hide (Ne.symm (hne _ _ G6.out))
            replace G6 := hide (keepB hy G6.out)
            replace D1 := hide (dm_below' hy D1.out)
            replace D2 := hide (dm_below' hy D2.out)
            have G5 := hide hg
            replace HB := hide hb'
            clear hb' hy hg hl hne e1 e2
            refine hK.out _ _ (HWW.out _ HB.out).1 (fun _ => ?_)
            clear hK K
            try simp only [Act.put, List.setIfInBounds_toArray, List.set_cons_zero, List.set_cons_succ]
            refine wpAnyH_ready (rs := [6]) (by kernel_rfl) (by simp) ?_
            refine AllReadyH.cons rfl (fun K hK => ?_) ?_
            · obtain ⟨cb0, cb1, cb2, cb3⟩ := (blk_facts G5.out).1
              go_simp
              clear cb0 cb1 cb2 cb3
              obtain ⟨Y', e1, h5, h6, hd1, hd2, hb'⟩ := store_step (v0 := .slice x0 k1 u0) (v1 := .slice x1 k1 u1) G5.out G6.out (Ne.symm NE.out) D1.out D2.out HB.out L5.out
              rw [e1]
              replace G5 := hide h5
              replace G6 := hide h6
              replace D1 := hide hd1
              replace D2 := hide hd2
              replace HB := hide hb'
              clear e1 h5 h6 hd1 hd2 hb'
              refine hK.out _ _ (HWW.out _ HB.out).1 (fun _ => ?_)
              clear hK K
              try simp only [Act.put, List.setIfInBounds_toArray, List.set_cons_zero, List.set_cons_succ]
              refine wpAnyH_ready (rs := [7]) (by kernel_rfl) (by simp) ?_
              refine AllReadyH.cons rfl (fun K hK => ?_) ?_
              · obtain ⟨cb0, cb1, cb2, cb3⟩ := (blk_facts G6.out).1
                go_simp
                clear cb0 cb1 cb2 cb3
                obtain ⟨Y', e1, h6, h5, hd1, hd2, hb'⟩ := store_step (v0 := .slice y0 k2 z0) (v1 := .slice y1 k2 z1) G6.out G5.out NE.out D1.out D2.out HB.out L6.out
                rw [e1]
                replace G5 := hide h5
                replace G6 := hide h6
                replace D1 := hide hd1
                replace D2 := hide hd2
                replace HB := hide hb'
                clear e1 h5 h6 hd1 hd2 hb'
                refine hK.out _ _ (HWW.out _ HB.out).1 (fun _ => ?_)
                clear hK K
                try simp only [Act.put, List.setIfInBounds_toArray, List.set_cons_zero, List.set_cons_succ]
                refine wpAnyH_done (by kernel_rfl) ?_ _
                go_wp2_with fail
                go_meet
                exact ⟨x, y, r, s, k1, k2, g5, g6, x0, x1, y0, y1, u0, u1, z0, z1, rfl, rfl, HS1.out, HS2.out, HMX1.out, HMX2.out, G5.out, G6.out, D1.out, D2.out, HB.out⟩
              exact AllReadyH.nil
            exact AllReadyH.nil
          exact AllReadyH.nil
        exact AllReadyH.nil
      refine AllReadyH.cons rfl (fun K hK => ?_) ?_
      · go_simp
        obtain ⟨g5, Y', e1, e2, hb', hy, hg, hl, hne⟩ := alloc_step HB.out
        rw [e2, e1]
        have L5 := hide hl
        replace D1 := hide (dm_below' hy D1.out)
        have G5 := hide hg
        replace HB := hide hb'
        clear hb' hy hg hl hne e1 e2
        refine hK.out _ _ (HWW.out _ HB.out).1 (fun _ => ?_)
        clear hK K
        try simp only [Act.put, List.setIfInBounds_toArray, List.set_cons_zero, List.set_cons_succ]
        refine wpAnyH_ready (rs := [3, 5]) (by kernel_rfl) (by simp) ?_
        refine AllReadyH.cons rfl (fun K hK => ?_) ?_
        · go_simp
          go_at_call 15
          refine (msmall_any b0 b1 m d0 d1 M nx2 ru2 _ HMM.out (HWW.out _ HB.out).2.2 HR2.out HXB.out).mono ?_
          rintro e Y' ⟨y, s, k2, y0, y1, z0, z1, hs2, hmx2, rfl, hd2, hk2, hb'⟩
          have HS2 := hide hs2
          have HMX2 := hide hmx2
          have D2 := hide hd2
          replace D1 := hide (dm_below' hb' D1.out)
          clear hs2 hmx2 hd2 hk2
          replace G5 := hide (keepB hb' G5.out)
          replace HB := hide (HB.out.trans (hb'.mono HB.out.size))
          clear hb'
          go_wp2_with fail
          refine hK.out _ _ (HWW.out _ HB.out).1 (fun _ => ?_)
          clear hK K
          try simp only [Act.put, List.setIfInBounds_toArray, List.set_cons_zero, List.set_cons_succ]
          refine wpAnyH_ready (rs := [5]) (by kernel_rfl) (by simp) ?_
          refine AllReadyH.cons rfl (fun K hK => ?_) ?_
          · go_simp
            obtain ⟨g6, Y', e1, e2, hb', hy, hg, hl, hne⟩ := alloc_step HB.out
            rw [e2, e1]
            have L6 := hide hl
            have NE := hide (hne _ _ G5.out)
            replace G5 := hide (keepB hy G5.out)
            replace D1 := hide (dm_below' hy D1.out)
            replace D2 := hide (dm_below' hy D2.out)
            have G6 := hide hg
            replace HB := hide hb'
            clear hb' hy hg hl hne e1 e2
            refine hK.out _ _ (HWW.out _ HB.out).1 (fun _ => ?_)
            clear hK K
            try simp only [Act.put, List.setIfInBounds_toArray, List.set_cons_zero, List.set_cons_succ]
            refine wpAnyH_ready (rs := [6]) (by kernel_rfl) (by simp) ?_
            refine AllReadyH.cons rfl (fun K hK => ?_) ?_
            · obtain ⟨cb0, cb1, cb2, cb3⟩ := (blk_facts G5.out).1
              go_simp
              clear cb0 cb1 cb2 cb3
              obtain ⟨Y', e1, h5, h6, hd1, hd2, hb'⟩ := store_step (v0 := .slice x0 k1 u0) (v1 := .slice x1 k1 u1) G5.out G6.out (Ne.symm NE.out) D1.out D2.out HB.out L5.out
              rw [e1]
              replace G5 := hide h5
              replace G6 := hide h6
              replace D1 := hide hd1
              replace D2 := hide hd2
              replace HB := hide hb'
              clear e1 h5 h6 hd1 hd2 hb'
              refine hK.out _ _ (HWW.out _ HB.out).1 (fun _ => ?_)
              clear hK K
              try simp only [Act.put, List.setIfInBounds_toArray, List.set_cons_zero, List.set_cons_succ]
              refine wpAnyH_ready (rs := [7]) (by kernel_rfl) (by simp) ?_
              refine AllReadyH.cons rfl (fun K hK => ?_) ?_
              · obtain ⟨cb0, cb1, cb2, cb3⟩ := (blk_facts G6.out).1
                go_simp
                clear cb0 cb1 cb2 cb3
                obtain ⟨Y', e1, h6, h5, hd1, hd2, hb'⟩ := store_step (v0 := .slice y0 k2 z0) (v1 := .slice y1 k2 z1) G6.out G5.out NE.out D1.out D2.out HB.out L6.out
                rw [e1]
                replace G5 := hide h5
                replace G6 := hide h6
                replace D1 := hide hd1
                replace D2 := hide hd2
                replace HB := hide hb'
                clear e1 h5 h6 hd1 hd2 hb'
                refine hK.out _ _ (HWW.out _ HB.out).1 (fun _ => ?_)
                clear hK K
                try simp only [Act.put, List.setIfInBounds_toArray, List.set_cons_zero, List.set_cons_succ]
                refine wpAnyH_done (by kernel_rfl) ?_ _
                go_wp2_with fail
                go_meet
                exact ⟨x, y, r, s, k1, k2, g5, g6, x0, x1, y0, y1, u0, u1, z0, z1, rfl, rfl, HS1.out, HS2.out, HMX1.out, HMX2.out, G5.out, G6.out, D1.out, D2.out, HB.out⟩
              exact AllReadyH.nil
            exact AllReadyH.nil
          exact AllReadyH.nil
        refine AllReadyH.cons rfl (fun K hK => ?_) ?_
        · go_simp
          obtain ⟨g6, Y', e1, e2, hb', hy, hg, hl, hne⟩ := alloc_step HB.out
          rw [e2, e1]
          have L6 := hide hl
          have NE := hide (hne _ _ G5.out)
          replace G5 := hide (keepB hy G5.out)
          replace D1 := hide (dm_below' hy D1.out)
          have G6 := hide hg
          replace HB := hide hb'
          clear hb' hy hg hl hne e1 e2
          refine hK.out _ _ (HWW.out _ HB.out).1 (fun _ => ?_)
          clear hK K
          try simp only [Act.put, List.setIfInBounds_toArray, List.set_cons_zero, List.set_cons_succ]
          refine wpAnyH_ready (rs := [3]) (by kernel_rfl) (by simp) ?_
          refine AllReadyH.cons rfl (fun K hK => ?_) ?_
          · go_simp
            go_at_call 15
            refine (msmall_any b0 b1 m d0 d1 M nx2 ru2 _ HMM.out (HWW.out _ HB.out).2.2 HR2.out HXB.out).mono ?_
            rintro e Y' ⟨y, s, k2, y0, y1, z0, z1, hs2, hmx2, rfl, hd2, hk2, hb'⟩
            have HS2 := hide hs2
            have HMX2 := hide hmx2
            have D2 := hide hd2
            replace D1 := hide (dm_below' hb' D1.out)
            clear hs2 hmx2 hd2 hk2
            replace G5 := hide (keepB hb' G5.out)
            replace G6 := hide (keepB hb' G6.out)
            replace HB := hide (HB.out.trans (hb'.mono HB.out.size))
            clear hb'
            go_wp2_with fail
            refine hK.out _ _ (HWW.out _ HB.out).1 (fun _ => ?_)
            clear hK K
            try simp only [Act.put, List.setIfInBounds_toArray, List.set_cons_zero, List.set_cons_succ]
            refine wpAnyH_ready (rs := [6]) (by kernel_rfl) (by simp) ?_
            refine AllReadyH.cons rfl (fun K hK => ?_) ?_
            · obtain ⟨cb0, cb1, cb2, cb3⟩ := (blk_facts G5.out).1
              go_simp
              clear cb0 cb1 cb2 cb3
              obtain ⟨Y', e1, h5, h6, hd1, hd2, hb'⟩ := store_step (v0 := .slice x0 k1 u0) (v1 := .slice x1 k1 u1) G5.out G6.out (Ne.symm NE.out) D1.out D2.out HB.out L5.out
              rw [e1]
              replace G5 := hide h5
              replace G6 := hide h6
              replace D1 := hide hd1
              replace D2 := hide hd2
              replace HB := hide hb'
              clear e1 h5 h6 hd1 hd2 hb'
              refine hK.out _ _ (HWW.out _ HB.out).1 (fun _ => ?_)
              clear hK K
              try simp only [Act.put, List.setIfInBounds_toArray, List.set_cons_zero, List.set_cons_succ]
              refine wpAnyH_ready (rs := [7]) (by kernel_rfl) (by simp) ?_
              refine AllReadyH.cons rfl (fun K hK => ?_) ?_
              · obtain ⟨cb0, cb1, cb2, cb3⟩ := (blk_facts G6.out).1
                go_simp
                clear cb0 cb1 cb2 cb3
                obtain ⟨Y', e1, h6, h5, hd1, hd2, hb'⟩ := store_step (v0 := .slice y0 k2 z0) (v1 := .slice y1 k2 z1) G6.out G5.out NE.out D1.out D2.out HB.out L6.out
                rw [e1]
                replace G5 := hide h5
                replace G6 := hide h6
                replace D1 := hide hd1
                replace D2 := hide hd2
                replace HB := hide hb'
                clear e1 h5 h6 hd1 hd2 hb'
                refine hK.out _ _ (HWW.out _ HB.out).1 (fun _ => ?_)
                clear hK K
                try simp only [Act.put, List.setIfInBounds_toArray, List.set_cons_zero, List.set_cons_succ]
                refine wpAnyH_done (by kernel_rfl) ?_ _
                go_wp2_with fail
                go_meet
                exact ⟨x, y, r, s, k1, k2, g5, g6, x0, x1, y0, y1, u0, u1, z0, z1, rfl, rfl, HS1.out, HS2.out, HMX1.out, HMX2.out, G5.out, G6.out, D1.out, D2.out, HB.out⟩
              exact AllReadyH.nil
            exact AllReadyH.nil
          exact AllReadyH.nil
        exact AllReadyH.nil
      refine AllReadyH.cons rfl (fun K hK => ?_) ?_
      · go_simp
        obtain ⟨g6, Y', e1, e2, hb', hy, hg, hl, hne⟩ := alloc_step HB.out
        rw [e2, e1]
        have L6 := hide hl
        replace D1 := hide (dm_below' hy D1.out)
        have G6 := hide hg
        replace HB := hide hb'
        clear hb' hy hg hl hne e1 e2
        refine hK.out _ _ (HWW.out _ HB.out).1 (fun _ => ?_)
        clear hK K
        try simp only [Act.put, List.setIfInBounds_toArray, List.set_cons_zero, List.set_cons_succ]
        refine wpAnyH_ready (rs := [3, 4]) (by kernel_rfl) (by simp) ?_
        refine AllReadyH.cons rfl (fun K hK => ?_) ?_
        · go_simp
          go_at_call 15
          refine (msmall_any b0 b1 m d0 d1 M nx2 ru2 _ HMM.out (HWW.out _ HB.out).2.2 HR2.out HXB.out).mono ?_
          rintro e Y' ⟨y, s, k2, y0, y1, z0, z1, hs2, hmx2, rfl, hd2, hk2, hb'⟩
          have HS2 := hide hs2
          have HMX2 := hide hmx2
          have D2 := hide hd2
          replace D1 := hide (dm_below' hb' D1.out)
          clear hs2 hmx2 hd2 hk2
          replace G6 := hide (keepB hb' G6.out)
          replace HB := hide (HB.out.trans (hb'.mono HB.out.size))
          clear hb'
          go_wp2_with fail
          refine hK.out _ _ (HWW.out _ HB.out).1 (fun _ => ?_)
          clear hK K
          try simp only [Act.put, List.setIfInBounds_toArray, List.set_cons_zero, List.set_cons_succ]
          refine wpAnyH_ready (rs := [4]) (by kernel_rfl) (by simp) ?_
          refine AllReadyH.cons rfl (fun K hK => ?_) ?_
          · go_simp
            obtain ⟨g5, Y', e1, e2, hb', hy, hg, hl, hne⟩ := alloc_step HB.out
            rw [e2, e1]
            have L5 := hide hl
            have NE := hide (Ne.symm (hne _ _ G6.out))
            replace G6 := hide (keepB hy G6.out)
            replace D1 := hide (dm_below' hy D1.out)
            replace D2 := hide (dm_below' hy D2.out)
            have G5 := hide hg
            replace HB := hide hb'
            clear hb' hy hg hl hne e1 e2
            refine hK.out _ _ (HWW.out _ HB.out).1 (fun _ => ?_)
            clear hK K
            try simp only [Act.put, List.setIfInBounds_toArray, List.set_cons_zero, List.set_cons_succ]
            refine wpAnyH_ready (rs := [6]) (by kernel_rfl) (by simp) ?_
            refine AllReadyH.cons rfl (fun K hK => ?_) ?_
            · obtain ⟨cb0, cb1, cb2, cb3⟩ := (blk_facts G5.out).1
              go_simp
              clear cb0 cb1 cb2 cb3
              obtain ⟨Y', e1, h5, h6, hd1, hd2, hb'⟩ := store_step (v0 := .slice x0 k1 u0) (v1 := .slice x1 k1 u1) G5.out G6.out (Ne.symm NE.out) D1.out D2.out HB.out L5.out
              rw [e1]
              replace G5 := hide h5
              replace G6 := hide h6
              replace D1 := hide hd1
              replace D2 := hide hd2
              replace HB := hide hb'
              clear e1 h5 h6 hd1 hd2 hb'
              refine hK.out _ _ (HWW.out _ HB.out).1 (fun _ => ?_)
              clear hK K
              try simp only [Act.put, List.setIfInBounds_toArray, List.set_cons_zero, List.set_cons_succ]
              refine wpAnyH_ready (rs := [7]) (by kernel_rfl) (by simp) ?_
              refine AllReadyH.cons rfl (fun K hK => ?_) ?_
              · obtain ⟨cb0, cb1, cb2, cb3⟩ := (blk_facts G6.out).1
                go_simp
                clear cb0 cb1 cb2 cb3
                obtain ⟨Y', e1, h6, h5, hd1, hd2, hb'⟩ := store_step (v0 := .slice y0 k2 z0) (v1 := .slice y1 k2 z1) G6.out G5.out NE.out D1.out D2.out HB.out L6.out
                rw [e1]
                replace G5 := hide h5
                replace G6 := hide h6
                replace D1 := hide hd1
                replace D2 := hide hd2
                replace HB := hide hb'
                clear e1 h5 h6 hd1 hd2 hb'
                refine hK.out _ _ (HWW.out _ HB.out).1 (fun _ => ?_)
                clear hK K
                try simp only [Act.put, List.setIfInBounds_toArray, List.set_cons_zero, List.set_cons_succ]
                refine wpAnyH_done (by kernel_rfl) ?_ _
                go_wp2_with fail
                go_meet
                exact ⟨x, y, r, s, k1, k2, g5, g6, x0, x1, y0, y1, u0, u1, z0, z1, rfl, rfl, HS1.out, HS2.out, HMX1.out, HMX2.out, G5.out, G6.out, D1.out, D2.out, HB.out⟩
              exact AllReadyH.nil
            exact AllReadyH.nil
          exact AllReadyH.nil
        refine AllReadyH.cons rfl (fun K hK => ?_) ?_
        · go_simp
          obtain ⟨g5, Y', e1, e2, hb', hy, hg, hl, hne⟩ := alloc_step HB.out
          rw [e2, e1]
          have L5 := hide hl
          have NE := hide (Ne.symm (hne _ _ G6.out))
          replace G6 := hide (keepB hy G6.out)
          replace D1 := hide (dm_below' hy D1.out)
          have G5 := hide hg
          replace HB := hide hb'
          clear hb' hy hg hl hne e1 e2
          refine hK.out _ _ (HWW.out _ HB.out).1 (fun _ => ?_)
          clear hK K
          try simp only [Act.put, List.setIfInBounds_toArray, List.set_cons_zero, List.set_cons_succ]
          refine wpAnyH_ready (rs := [3]) (by kernel_rfl) (by simp) ?_
          refine AllReadyH.cons rfl (fun K hK => ?_) ?_
          · go_simp
            go_at_call 15
            refine (msmall_any b0 b1 m d0 d1 M nx2 ru2 _ HMM.out (HWW.out _ HB.out).2.2 HR2.out HXB.out).mono ?_
            rintro e Y' ⟨y, s, k2, y0, y1, z0, z1, hs2, hmx2, rfl, hd2, hk2, hb'⟩
            have HS2 := hide hs2
            have HMX2 := hide hmx2
            have D2 := hide hd2
            replace D1 := hide (dm_below' hb' D1.out)
            clear hs2 hmx2 hd2 hk2
            replace G5 := hide (keepB hb' G5.out)
            replace G6 := hide (keepB hb' G6.out)
            replace HB := hide (HB.out.trans (hb'.mono HB.out.size))
            clear hb'
            go_wp2_with fail
            refine hK.out _ _ (HWW.out _ HB.out).1 (fun _ => ?_)
            clear hK K
            try simp only [Act.put, List.setIfInBounds_toArray, List.set_cons_zero, List.set_cons_succ]
            refine wpAnyH_ready (rs := [6]) (by kernel_rfl) (by simp) ?_
            refine AllReadyH.cons rfl (fun K hK => ?_) ?_
            · obtain ⟨cb0, cb1, cb2, cb3⟩ := (blk_facts G5.out).1
              go_simp
              clear cb0 cb1 cb2 cb3
              obtain ⟨Y', e1, h5, h6, hd1, hd2, hb'⟩ := store_step (v0 := .slice x0 k1 u0) (v1 := .slice x1 k1 u1) G5.out G6.out (Ne.symm NE.out) D1.out D2.out HB.out L5.out
              rw [e1]
              replace G5 := hide h5
              replace G6 := hide h6
              replace D1 := hide hd1
              replace D2 := hide hd2
              replace HB := hide hb'
              clear e1 h5 h6 hd1 hd2 hb'
              refine hK.out _ _ (HWW.out _ HB.out).1 (fun _ => ?_)
              clear hK K
              try simp only [Act.put, List.setIfInBounds_toArray, List.set_cons_zero, List.set_cons_succ]
              refine wpAnyH_ready (rs := [7]) (by kernel_rfl) (by simp) ?_
              refine AllReadyH.cons rfl (fun K hK => ?_) ?_
              · obtain ⟨cb0, cb1, cb2, cb3⟩ := (blk_facts G6.out).1
                go_simp
                clear cb0 cb1 cb2 cb3
                obtain ⟨Y', e1, h6, h5, hd1, hd2, hb'⟩ := store_step (v0 := .slice y0 k2 z0) (v1 := .slice y1 k2 z1) G6.out G5.out NE.out D1.out D2.out HB.out L6.out
                rw [e1]
                replace G5 := hide h5
                replace G6 := hide h6
                replace D1 := hide hd1
                replace D2 := hide hd2
                replace HB := hide hb'
                clear e1 h5 h6 hd1 hd2 hb'
                refine hK.out _ _ (HWW.out _ HB.out).1 (fun _ => ?_)
                clear hK K
                try simp only [Act.put, List.setIfInBounds_toArray, List.set_cons_zero, List.set_cons_succ]
                refine wpAnyH_done (by kernel_rfl) ?_ _
                go_wp2_with fail
                go_meet
                exact ⟨x, y, r, s, k1, k2, g5, g6, x0, x1, y0, y1, u0, u1, z0, z1, rfl, rfl, HS1.out, HS2.out, HMX1.out, HMX2.out, G5.out, G6.out, D1.out, D2.out, HB.out⟩
              exact AllReadyH.nil
            exact AllReadyH.nil
          exact AllReadyH.nil
        exact AllReadyH.nil
      exact AllReadyH.nil
    refine AllReadyH.cons rfl (fun K hK => ?_) ?_
    · go_simp
      obtain ⟨g5, Y', e1, e2, hb', hy, hg, hl, hne⟩ := alloc_step HB.out
      rw [e2, e1]
      have L5 := hide hl
      have G5 := hide hg
      replace HB := hide hb'
      clear hb' hy hg hl hne e1 e2
      refine hK.out _ _ (HWW.out _ HB.out).1 (fun _ => ?_)
      clear hK K
      try simp only [Act.put, List.setIfInBounds_toArray, List.set_cons_zero, List.set_cons_succ]
      refine wpAnyH_ready (rs := [1, 5]) (by kernel_rfl) (by simp) ?_
      refine AllReadyH.cons rfl (fun K hK => ?_) ?_
      · go_simp
        go_at_call 15
        refine (msmall_any a0 a1 n c0 c1 M nx ru _ HMM.out (HWW.out _ HB.out).2.1 HR.out HXA.out).mono ?_
        rintro e Y' ⟨x, r, k1, x0, x1, u0, u1, hs1, hmx1, rfl, hd1, hk1, hb'⟩
        have HS1 := hide hs1
        have HMX1 := hide hmx1
        have D1 := hide hd1
        clear hs1 hmx1 hd1 hk1
        replace G5 := hide (keepB hb' G5.out)
        replace HB := hide (HB.out.trans (hb'.mono HB.out.size))
        clear hb'
        go_wp2_with fail
        refine hK.out _ _ (HWW.out _ HB.out).1 (fun _ => ?_)
        clear hK K
        try simp only [Act.put, List.setIfInBounds_toArray, List.set_cons_zero, List.set_cons_succ]
        refine wpAnyH_ready (rs := [3, 5]) (by kernel_rfl) (by simp) ?_
        refine AllReadyH.cons rfl (fun K hK => ?_) ?_
        · go_simp
          go_at_call 15
          refine (msmall_any b0 b1 m d0 d1 M nx2 ru2 _ HMM.out (HWW.out _ HB.out).2.2 HR2.out HXB.out).mono ?_
          rintro e Y' ⟨y, s, k2, y0, y1, z0, z1, hs2, hmx2, rfl, hd2, hk2, hb'⟩
          have HS2 := hide hs2
          have HMX2 := hide hmx2
          have D2 := hide hd2
          replace D1 := hide (dm_below' hb' D1.out)
          clear hs2 hmx2 hd2 hk2
          replace G5 := hide (keepB hb' G5.out)
          replace HB := hide (HB.out.trans (hb'.mono HB.out.size))
          clear hb'
          go_wp2_with fail
          refine hK.out _ _ (HWW.out _ HB.out).1 (fun _ => ?_)
          clear hK K
          try simp only [Act.put, List.setIfInBounds_toArray, List.set_cons_zero, List.set_cons_succ]
          refine wpAnyH_ready (rs := [5]) (by kernel_rfl) (by simp) ?_
          refine AllReadyH.cons rfl (fun K hK => ?_) ?_
          · go_simp
            obtain ⟨g6, Y', e1, e2, hb', hy, hg, hl, hne⟩ := alloc_step HB.out
            rw [e2, e1]
            have L6 := hide hl
            have NE := hide (hne _ _ G5.out)
            replace G5 := hide (keepB hy G5.out)
            replace D1 := hide (dm_below' hy D1.out)
            replace D2 := hide (dm_below' hy D2.out)
            have G6 := hide hg
            replace HB := hide hb'
            clear hb' hy hg hl hne e1 e2
            refine hK.out _ _ (HWW.out _ HB.out).1 (fun _ => ?_)
            clear hK K
            try simp only [Act.put, List.setIfInBounds_toArray, List.set_cons_zero, List.set_cons_succ]
            refine wpAnyH_ready (rs := [6]) (by kernel_rfl) (by simp) ?_
            refine AllReadyH.cons rfl (fun K hK => ?_) ?_
            · obtain ⟨cb0, cb1, cb2, cb3⟩ := (blk_facts G5.out).1
              go_simp
              clear cb0 cb1 cb2 cb3
              obtain ⟨Y', e1, h5, h6, hd1, hd2, hb'⟩ := store_step (v0 := .slice x0 k1 u0) (v1 := .slice x1 k1 u1) G5.out G6.out (Ne.symm NE.out) D1.out D2.out HB.out L5.out
              rw [e1]
              replace G5 := hide h5
              replace G6 := hide h6
              replace D1 := hide hd1
              replace D2 := hide hd2
              replace HB := hide hb'
              clear e1 h5 h6 hd1 hd2 hb'
              refine hK.out _ _ (HWW.out _ HB.out).1 (fun _ => ?_)
              clear hK K
              try simp only [Act.put, List.setIfInBounds_toArray, List.set_cons_zero, List.set_cons_succ]
              refine wpAnyH_ready (rs := [7]) (by kernel_rfl) (by simp) ?_
              refine AllReadyH.cons rfl (fun K hK => ?_) ?_
              · obtain ⟨cb0, cb1, cb2, cb3⟩ := (blk_facts G6.out).1
                go_simp
                clear cb0 cb1 cb2 cb3
                obtain ⟨Y', e1, h6, h5, hd1, hd2, hb'⟩ := store_step (v0 := .slice y0 k2 z0) (v1 := .slice y1 k2 z1) G6.out G5.out NE.out D1.out D2.out HB.out L6.out
                rw [e1]
                replace G5 := hide h5
                replace G6 := hide h6
                replace D1 := hide hd1
                replace D2 := hide hd2
                replace HB := hide hb'
                clear e1 h5 h6 hd1 hd2 hb'
                refine hK.out _ _ (HWW.out _ HB.out).1 (fun _ => ?_)
                clear hK K
                try simp only [Act.put, List.setIfInBounds_toArray, List.set_cons_zero, List.set_cons_succ]
                refine wpAnyH_done (by kernel_rfl) ?_ _
                go_wp2_with fail
                go_meet
                exact ⟨x, y, r, s, k1, k2, g5, g6, x0, x1, y0, y1, u0, u1, z0, z1, rfl, rfl, HS1.out, HS2.out, HMX1.out, HMX2.out, G5.out, G6.out, D1.out, D2.out, HB.out⟩
              exact AllReadyH.nil
            exact AllReadyH.nil
          exact AllReadyH.nil
        refine AllReadyH.cons rfl (fun K hK => ?_) ?_
        · go_simp
          obtain ⟨g6, Y', e1, e2, hb', hy, hg, hl, hne⟩ := alloc_step HB.out
          rw [e2, e1]
          have L6 := hide hl
          have NE := hide (hne _ _ G5.out)
          replace G5 := hide (keepB hy G5.out)
          replace D1 := hide (dm_below' hy D1.out)
          have G6 := hide hg
          replace HB := hide hb'
          clear hb' hy hg hl hne e1 e2
          refine hK.out _ _ (HWW.out _ HB.out).1 (fun _ => ?_)
          clear hK K
          try simp only [Act.put, List.setIfInBounds_toArray, List.set_cons_zero, List.set_cons_succ]
          refine wpAnyH_ready (rs := [3]) (by kernel_rfl) (by simp) ?_
          refine AllReadyH.cons rfl (fun K hK => ?_) ?_
          · go_simp
            go_at_call 15
            refine (msmall_any b0 b1 m d0 d1 M nx2 ru2 _ HMM.out (HWW.out _ HB.out).2.2 HR2.out HXB.out).mono ?_
            rintro e Y' ⟨y, s, k2, y0, y1, z0, z1, hs2, hmx2, rfl, hd2, hk2, hb'⟩
            have HS2 := hide hs2
            have HMX2 := hide hmx2
            have D2 := hide hd2
            replace D1 := hide (dm_below' hb' D1.out)
            clear hs2 hmx2 hd2 hk2
            replace G5 := hide (keepB hb' G5.out)
            replace G6 := hide (keepB hb' G6.out)
            replace HB := hide (HB.out.trans (hb'.mono HB.out.size))
            clear hb'
            go_wp2_with fail
            refine hK.out _ _ (HWW.out _ HB.out).1 (fun _ => ?_)
            clear hK K
            try simp only [Act.put, List.setIfInBounds_toArray, List.set_cons_zero, List.set_cons_succ]
            refine wpAnyH_ready (rs := [6]) (by kernel_rfl) (by simp) ?_
            refine AllReadyH.cons rfl (fun K hK => ?_) ?_
            · obtain ⟨cb0, cb1, cb2, cb3⟩ := (blk_facts G5.out).1
              go_simp
              clear cb0 cb1 cb2 cb3
              obtain ⟨Y', e1, h5, h6, hd1, hd2, hb'⟩ := store_step (v0 := .slice x0 k1 u0) (v1 := .slice x1 k1 u1) G5.out G6.out (Ne.symm NE.out) D1.out D2.out HB.out L5.out
              rw [e1]
              replace G5 := hide h5
              replace G6 := hide h6
              replace D1 := hide hd1
              replace D2 := hide hd2
              replace HB := hide hb'
              clear e1 h5 h6 hd1 hd2 hb'
              refine hK.out _ _ (HWW.out _ HB.out).1 (fun _ => ?_)
              clear hK K
              try simp only [Act.put, List.setIfInBounds_toArray, List.set_cons_zero, List.set_cons_succ]
              refine wpAnyH_ready (rs := [7]) (by kernel_rfl) (by simp) ?_
              refine AllReadyH.cons rfl (fun K hK => ?_) ?_
              · obtain ⟨cb0, cb1, cb2, cb3⟩ := (blk_facts G6.out).1
                go_simp
                clear cb0 cb1 cb2 cb3
                obtain ⟨Y', e1, h6, h5, hd1, hd2, hb'⟩ := store_step (v0 := .slice y0 k2 z0) (v1 := .slice y1 k2 z1) G6.out G5.out NE.out D1.out D2.out HB.out L6.out
                rw [e1]
                replace G5 := hide h5
                replace G6 := hide h6
                replace D1 := hide hd1
                replace D2 := hide hd2
                replace HB := hide hb'
                clear e1 h5 h6 hd1 hd2 hb'
                refine hK.out _ _ (HWW.out _ HB.out).1 (fun _ => ?_)
                clear hK K
                try simp only [Act.put, List.setIfInBounds_toArray, List.set_cons_zero, List.set_cons_succ]
                refine wpAnyH_done (by kernel_rfl) ?_ _
                go_wp2_with fail
                go_meet
                exact ⟨x, y, r, s, k1, k2, g5, g6, x0, x1, y0, y1, u0, u1, z0, z1, rfl, rfl, HS1.out, HS2.out, HMX1.out, HMX2.out, G5.out, G6.out, D1.out, D2.out, HB.out⟩
              exact AllReadyH.nil
            exact AllReadyH.nil
          exact AllReadyH.nil
        exact AllReadyH.nil
      refine AllReadyH.cons rfl (fun K hK => ?_) ?_
      · go_simp
        obtain ⟨g6, Y', e1, e2, hb', hy, hg, hl, hne⟩ := alloc_step HB.out
        rw [e2, e1]
        have L6 := hide hl
        have NE := hide (hne _ _ G5.out)
        replace G5 := hide (keepB hy G5.out)
        have G6 := hide hg
        replace HB := hide hb'
        clear hb' hy hg hl hne e1 e2
        refine hK.out _ _ (HWW.out _ HB.out).1 (fun _ => ?_)
        clear hK K
        try simp only [Act.put, List.setIfInBounds_toArray, List.set_cons_zero, List.set_cons_succ]
        refine wpAnyH_ready (rs := [1]) (by kernel_rfl) (by simp) ?_
        refine AllReadyH.cons rfl (fun K hK => ?_) ?_
        · go_simp
          go_at_call 15
          refine (msmall_any a0 a1 n c0 c1 M nx ru _ HMM.out (HWW.out _ HB.out).2.1 HR.out HXA.out).mono ?_
          rintro e Y' ⟨x, r, k1, x0, x1, u0, u1, hs1, hmx1, rfl, hd1, hk1, hb'⟩
          have HS1 := hide hs1
          have HMX1 := hide hmx1
          have D1 := hide hd1
          clear hs1 hmx1 hd1 hk1
          replace G5 := hide (keepB hb' G5.out)
          replace G6 := hide (keepB hb' G6.out)
          replace HB := hide (HB.out.trans (hb'.mono HB.out.size))
          clear hb'
          go_wp2_with fail
          refine hK.out _ _ (HWW.out _ HB.out).1 (fun _ => ?_)
          clear hK K
          try simp only [Act.put, List.setIfInBounds_toArray, List.set_cons_zero, List.set_cons_succ]
          refine wpAnyH_ready (rs := [3]) (by kernel_rfl) (by simp) ?_
          refine AllReadyH.cons rfl (fun K hK => ?_) ?_
          · go_simp
            go_at_call 15
            refine (msmall_any b0 b1 m d0 d1 M nx2 ru2 _ HMM.out (HWW.out _ HB.out).2.2 HR2.out HXB.out).mono ?_
            rintro e Y' ⟨y, s, k2, y0, y1, z0, z1, hs2, hmx2, rfl, hd2, hk2, hb'⟩
            have HS2 := hide hs2
            have HMX2 := hide hmx2
            have D2 := hide hd2
            replace D1 := hide (dm_below' hb' D1.out)
            clear hs2 hmx2 hd2 hk2
            replace G5 := hide (keepB hb' G5.out)
            replace G6 := hide (keepB hb' G6.out)
            replace HB := hide (HB.out.trans (hb'.mono HB.out.size))
            clear hb'
            go_wp2_with fail
            refine hK.out _ _ (HWW.out _ HB.out).1 (fun _ => ?_)
            clear hK K
            try simp only [Act.put, List.setIfInBounds_toArray, List.set_cons_zero, List.set_cons_succ]
            refine wpAnyH_ready (rs := [6]) (by kernel_rfl) (by simp) ?_
            refine AllReadyH.cons rfl (fun K hK => ?_) ?_
            · obtain ⟨cb0, cb1, cb2, cb3⟩ := (blk_facts G5.out).1
              go_simp
              clear cb0 cb1 cb2 cb3
              obtain ⟨Y', e1, h5, h6, hd1, hd2, hb'⟩ := store_step (v0 := .slice x0 k1 u0) (v1 := .slice x1 k1 u1) G5.out G6.out (Ne.symm NE.out) D1.out D2.out HB.out L5.out
              rw [e1]
              replace G5 := hide h5
              replace G6 := hide h6
              replace D1 := hide hd1
              replace D2 := hide hd2
              replace HB := hide hb'
              clear e1 h5 h6 hd1 hd2 hb'
              refine hK.out _ _ (HWW.out _ HB.out).1 (fun _ => ?_)
              clear hK K
              try simp only [Act.put, List.setIfInBounds_toArray, List.set_cons_zero, List.set_cons_succ]
              refine wpAnyH_ready (rs := [7]) (by kernel_rfl) (by simp) ?_
              refine AllReadyH.cons rfl (fun K hK => ?_) ?_
              · obtain ⟨cb0, cb1, cb2, cb3⟩ := (blk_facts G6.out).1
                go_simp
                clear cb0 cb1 cb2 cb3
                obtain ⟨Y', e1, h6, h5, hd1, hd2, hb'⟩ := store_step (v0 := .slice y0 k2 z0) (v1 := .slice y1 k2 z1) G6.out G5.out NE.out D1.out D2.out HB.out L6.out
                rw [e1]
                replace G5 := hide h5
                replace G6 := hide h6
                replace D1 := hide hd1
                replace D2 := hide hd2
                replace HB := hide hb'
                clear e1 h5 h6 hd1 hd2 hb'
                refine hK.out _ _ (HWW.out _ HB.out).1 (fun _ => ?_)
                clear hK K
                try simp only [Act.put, List.setIfInBounds_toArray, List.set_cons_zero, List.set_cons_succ]
                refine wpAnyH_done (by kernel_rfl) ?_ _
                go_wp2_with fail
                go_meet
                exact ⟨x, y, r, s, k1, k2, g5, g6, x0, x1, y0, y1, u0, u1, z0, z1, rfl, rfl, HS1.out, HS2.out, HMX1.out, HMX2.out, G5.out, G6.out, D1.out, D2.out, HB.out⟩
              exact AllReadyH.nil
            exact AllReadyH.nil
          exact AllReadyH.nil
        exact AllReadyH.nil
      exact AllReadyH.nil
    refine AllReadyH.cons rfl (fun K hK => ?_) ?_
    · go_simp
      obtain ⟨g6, Y', e1, e2, hb', hy, hg, hl, hne⟩ := alloc_step HB.out
      rw [e2, e1]
      have L6 := hide hl
      have G6 := hide hg
      replace HB := hide hb'
      clear hb' hy hg hl hne e1 e2
      refine hK.out _ _ (HWW.out _ HB.out).1 (fun _ => ?_)
      clear hK K
      try simp only [Act.put, List.setIfInBounds_toArray, List.set_cons_zero, List.set_cons_succ]
      refine wpAnyH_ready (rs := [1, 4]) (by kernel_rfl) (by simp) ?_
      refine AllReadyH.cons rfl (fun K hK => ?_) ?_
      · go_simp
        go_at_call 15
        refine (msmall_any a0 a1 n c0 c1 M nx ru _ HMM.out (HWW.out _ HB.out).2.1 HR.out HXA.out).mono ?_
        rintro e Y' ⟨x, r, k1, x0, x1, u0, u1, hs1, hmx1, rfl, hd1, hk1, hb'⟩
        have HS1 := hide hs1
        have HMX1 := hide hmx1
        have D1 := hide hd1
        clear hs1 hmx1 hd1 hk1
        replace G6 := hide (keepB hb' G6.out)
        replace HB := hide (HB.out.trans (hb'.mono HB.out.size))
        clear hb'
        go_wp2_with fail
        refine hK.out _ _ (HWW.out _ HB.out).1 (fun _ => ?_)
        clear hK K
        try simp only [Act.put, List.setIfInBounds_toArray, List.set_cons_zero, List.set_cons_succ]
        refine wpAnyH_ready (rs := [3, 4]) (by kernel_rfl) (by simp) ?_
        refine AllReadyH.cons rfl (fun K hK => ?_) ?_
        · go_simp
          go_at_call 15
          refine (msmall_any b0 b1 m d0 d1 M nx2 ru2 _ HMM.out (HWW.out _ HB.out).2.2 HR2.out HXB.out).mono ?_
          rintro e Y' ⟨y, s, k2, y0, y1, z0, z1, hs2, hmx2, rfl, hd2, hk2, hb'⟩
          have HS2 := hide hs2
          have HMX2 := hide hmx2
          have D2 := hide hd2
          replace D1 := hide (dm_below' hb' D1.out)
          clear hs2 hmx2 hd2 hk2
          replace G6 := hide (keepB hb' G6.out)
          replace HB := hide (HB.out.trans (hb'.mono HB.out.size))
          clear hb'
          go_wp2_with fail
          refine hK.out _ _ (HWW.out _ HB.out).1 (fun _ => ?_)
          clear hK K
          try simp only [Act.put, List.setIfInBounds_toArray, List.set_cons_zero, List.set_cons_succ]
          refine wpAnyH_ready (rs := [4]) (by kernel_rfl) (by simp) ?_
          refine AllReadyH.cons rfl (fun K hK => ?_) ?_
          · go_simp
            obtain ⟨g5, Y', e1, e2, hb', hy, hg, hl, hne⟩ := alloc_step HB.out
            rw [e2, e1]
            have L5 := hide hl
            have NE := hide (Ne.symm (hne _ _ G6.out))
            replace G6 := hide (keepB hy G6.out)
            replace D1 := hide (dm_below' hy D1.out)
            replace D2 := hide (dm_below' hy D2.out)
            have G5 := hide hg
            replace HB := hide hb'
            clear hb' hy hg hl hne e1 e2
            refine hK.out _ _ (HWW.out _ HB.out).1 (fun _ => ?_)
            clear hK K
            try simp only [Act.put, List.setIfInBounds_toArray, List.set_cons_zero, List.set_cons_succ]
            refine wpAnyH_ready (rs := [6]) (by kernel_rfl) (by simp) ?_
            refine AllReadyH.cons rfl (fun K hK => ?_) ?_
            · obtain ⟨cb0, cb1, cb2, cb3⟩ := (blk_facts G5.out).1
              go_simp
              clear cb0 cb1 cb2 cb3
              obtain ⟨Y', e1, h5, h6, hd1, hd2, hb'⟩ := store_step (v0 := .slice x0 k1 u0) (v1 := .slice x1 k1 u1) G5.out G6.out (Ne.symm NE.out) D1.out D2.out HB.out L5.out
              rw [e1]
              replace G5 := hide h5
              replace G6 := hide h6
              replace D1 := hide hd1
              replace D2 := hide hd2
              replace HB := hide hb'
              clear e1 h5 h6 hd1 hd2 hb'
              refine hK.out _ _ (HWW.out _ HB.out).1 (fun _ => ?_)
              clear hK K
              try simp only [Act.put, List.setIfInBounds_toArray, List.set_cons_zero, List.set_cons_succ]
              refine wpAnyH_ready (rs := [7]) (by kernel_rfl) (by simp) ?_
              refine AllReadyH.cons rfl (fun K hK => ?_) ?_
              · obtain ⟨cb0, cb1, cb2, cb3⟩ := (blk_facts G6.out).1
                go_simp
                clear cb0 cb1 cb2 cb3
                obtain ⟨Y', e1, h6, h5, hd1, hd2, hb'⟩ := store_step (v0 := .slice y0 k2 z0) (v1 := .slice y1 k2 z1) G6.out G5.out NE.out D1.out D2.out HB.out L6.out
                rw [e1]
                replace G5 := hide h5
                replace G6 := hide h6
                replace D1 := hide hd1
                replace D2 := hide hd2
                replace HB := hide hb'
                clear e1 h5 h6 hd1 hd2 hb'
                refine hK.out _ _ (HWW.out _ HB.out).1 (fun _ => ?_)
                clear hK K
                try simp only [Act.put, List.setIfInBounds_toArray, List.set_cons_zero, List.set_cons_succ]
                refine wpAnyH_done (by kernel_rfl) ?_ _
                go_wp2_with fail
                go_meet
                exact ⟨x, y, r, s, k1, k2, g5, g6, x0, x1, y0, y1, u0, u1, z0, z1, rfl, rfl, HS1.out, HS2.out, HMX1.out, HMX2.out, G5.out, G6.out, D1.out, D2.out, HB.out⟩
              exact AllReadyH.nil
            exact AllReadyH.nil
          exact AllReadyH.nil
        refine AllReadyH.cons rfl (fun K hK => ?_) ?_
        · go_simp
          obtain ⟨g5, Y', e1, e2, hb', hy, hg, hl, hne⟩ := alloc_step HB.out
          rw [e2, e1]
          have L5 := hide hl
          have NE := hide (Ne.symm (hne _ _ G6.out))
          replace G6 := hide (keepB hy G6.out)
          replace D1 := hide (dm_below' hy D1.out)
          have G5 := hide hg
          replace HB := hide hb'
          clear hb' hy hg hl hne e1 e2
          refine hK.out _ _ (HWW.out _ HB.out).1 (fun _ => ?_)
          clear hK K
          try simp only [Act.put, List.setIfInBounds_toArray, List.set_cons_zero, List.set_cons_succ]
          refine wpAnyH_ready (rs := [3]) (by kernel_rfl) (by simp) ?_
          refine AllReadyH.cons rfl (fun K hK => ?_) ?_
          · go_simp
            go_at_call 15
            refine (msmall_any b0 b1 m d0 d1 M nx2 ru2 _ HMM.out (HWW.out _ HB.out).2.2 HR2.out HXB.out).mono ?_
            rintro e Y' ⟨y, s, k2, y0, y1, z0, z1, hs2, hmx2, rfl, hd2, hk2, hb'⟩
            have HS2 := hide hs2
            have HMX2 := hide hmx2
            have D2 := hide hd2
            replace D1 := hide (dm_below' hb' D1.out)
            clear hs2 hmx2 hd2 hk2
            replace G5 := hide (keepB hb' G5.out)
            replace G6 := hide (keepB hb' G6.out)
            replace HB := hide (HB.out.trans (hb'.mono HB.out.size))
            clear hb'
            go_wp2_with fail
            refine hK.out _ _ (HWW.out _ HB.out).1 (fun _ => ?_)
            clear hK K
            try simp only [Act.put, List.setIfInBounds_toArray, List.set_cons_zero, List.set_cons_succ]
            refine wpAnyH_ready (rs := [6]) (by kernel_rfl) (by simp) ?_
            refine AllReadyH.cons rfl (fun K hK => ?_) ?_
            · obtain ⟨cb0, cb1, cb2, cb3⟩ := (blk_facts G5.out).1
              go_simp
              clear cb0 cb1 cb2 cb3
              obtain ⟨Y', e1, h5, h6, hd1, hd2, hb'⟩ := store_step (v0 := .slice x0 k1 u0) (v1 := .slice x1 k1 u1) G5.out G6.out (Ne.symm NE.out) D1.out D2.out HB.out L5.out
              rw [e1]
              replace G5 := hide h5
              replace G6 := hide h6
              replace D1 := hide hd1
              replace D2 := hide hd2
              replace HB := hide hb'
              clear e1 h5 h6 hd1 hd2 hb'
              refine hK.out _ _ (HWW.out _ HB.out).1 (fun _ => ?_)
              clear hK K
              try simp only [Act.put, List.setIfInBounds_toArray, List.set_cons_zero, List.set_cons_succ]
              refine wpAnyH_ready (rs := [7]) (by kernel_rfl) (by simp) ?_
              refine AllReadyH.cons rfl (fun K hK => ?_) ?_
              · obtain ⟨cb0, cb1, cb2, cb3⟩ := (blk_facts G6.out).1
                go_simp
                clear cb0 cb1 cb2 cb3
                obtain ⟨Y', e1, h6, h5, hd1, hd2, hb'⟩ := store_step (v0 := .slice y0 k2 z0) (v1 := .slice y1 k2 z1) G6.out G5.out NE.out D1.out D2.out HB.out L6.out
                rw [e1]
                replace G5 := hide h5
                replace G6 := hide h6
                replace D1 := hide hd1
                replace D2 := hide hd2
                replace HB := hide hb'
                clear e1 h5 h6 hd1 hd2 hb'
                refine hK.out _ _ (HWW.out _ HB.out).1 (fun _ => ?_)
                clear hK K
                try simp only [Act.put, List.setIfInBounds_toArray, List.set_cons_zero, List.set_cons_succ]
                refine wpAnyH_done (by kernel_rfl) ?_ _
                go_wp2_with fail
                go_meet
                exact ⟨x, y, r, s, k1, k2, g5, g6, x0, x1, y0, y1, u0, u1, z0, z1, rfl, rfl, HS1.out, HS2.out, HMX1.out, HMX2.out, G5.out, G6.out, D1.out, D2.out, HB.out⟩
              exact AllReadyH.nil
            exact AllReadyH.nil
          exact AllReadyH.nil
        exact AllReadyH.nil
      refine AllReadyH.cons rfl (fun K hK => ?_) ?_
      · go_simp
        obtain ⟨g5, Y', e1, e2, hb', hy, hg, hl, hne⟩ := alloc_step HB.out
        rw [e2, e1]
        have L5 := hide hl
        have NE := hide (Ne.symm (hne _ _ G6.out))
        replace G6 := hide (keepB hy G6.out)
        have G5 := hide hg
        replace HB := hide hb'
        clear hb' hy hg hl hne e1 e2
        refine hK.out _ _ (HWW.out _ HB.out).1 (fun _ => ?_)
        clear hK K
        try simp only [Act.put, List.setIfInBounds_toArray, List.set_cons_zero, List.set_cons_succ]
        refine wpAnyH_ready (rs := [1]) (by kernel_rfl) (by simp) ?_
        refine AllReadyH.cons rfl (fun K hK => ?_) ?_
        · go_simp
          go_at_call 15
          refine (msmall_any a0 a1 n c0 c1 M nx ru _ HMM.out (HWW.out _ HB.out).2.1 HR.out HXA.out).mono ?_
          rintro e Y' ⟨x, r, k1, x0, x1, u0, u1, hs1, hmx1, rfl, hd1, hk1, hb'⟩
          have HS1 := hide hs1
          have HMX1 := hide hmx1
          have D1 := hide hd1
          clear hs1 hmx1 hd1 hk1
          replace G5 := hide (keepB hb' G5.out)
          replace G6 := hide (keepB hb' G6.out)
          replace HB := hide (HB.out.trans (hb'.mono HB.out.size))
          clear hb'
          go_wp2_with fail
          refine hK.out _ _ (HWW.out _ HB.out).1 (fun _ => ?_)
          clear hK K
          try simp only [Act.put, List.setIfInBounds_toArray, List.set_cons_zero, List.set_cons_succ]
          refine wpAnyH_ready (rs := [3]) (by kernel_rfl) (by simp) ?_
          refine AllReadyH.cons rfl (fun K hK => ?_) ?_
          · go_simp
            go_at_call 15
            refine (msmall_any b0 b1 m d0 d1 M nx2 ru2 _ HMM.out (HWW.out _ HB.out).2.2 HR2.out HXB.out).mono ?_
            rintro e Y' ⟨y, s, k2, y0, y1, z0, z1, hs2, hmx2, rfl, hd2, hk2, hb'⟩
            have HS2 := hide hs2
            have HMX2 := hide hmx2
            have D2 := hide hd2
            replace D1 := hide (dm_below' hb' D1.out)
            clear hs2 hmx2 hd2 hk2
            replace G5 := hide (keepB hb' G5.out)
            replace G6 := hide (keepB hb' G6.out)
            replace HB := hide (HB.out.trans (hb'.mono HB.out.size))
            clear hb'
            go_wp2_with fail
            refine hK.out _ _ (HWW.out _ HB.out).1 (fun _ => ?_)
            clear hK K
            try simp only [Act.put, List.setIfInBounds_toArray, List.set_cons_zero, List.set_cons_succ]
            refine wpAnyH_ready (rs := [6]) (by kernel_rfl) (by simp) ?_
            refine AllReadyH.cons rfl (fun K hK => ?_) ?_
            · obtain ⟨cb0, cb1, cb2, cb3⟩ := (blk_facts G5.out).1
              go_simp
              clear cb0 cb1 cb2 cb3
              obtain ⟨Y', e1, h5, h6, hd1, hd2, hb'⟩ := store_step (v0 := .slice x0 k1 u0) (v1 := .slice x1 k1 u1) G5.out G6.out (Ne.symm NE.out) D1.out D2.out HB.out L5.out
              rw [e1]
              replace G5 := hide h5
              replace G6 := hide h6
              replace D1 := hide hd1
              replace D2 := hide hd2
              replace HB := hide hb'
              clear e1 h5 h6 hd1 hd2 hb'
              refine hK.out _ _ (HWW.out _ HB.out).1 (fun _ => ?_)
              clear hK K
              try simp only [Act.put, List.setIfInBounds_toArray, List.set_cons_zero, List.set_cons_succ]
              refine wpAnyH_ready (rs := [7]) (by kernel_rfl) (by simp) ?_
              refine AllReadyH.cons rfl (fun K hK => ?_) ?_
              · obtain ⟨cb0, cb1, cb2, cb3⟩ := (blk_facts G6.out).1
                go_simp
                clear cb0 cb1 cb2 cb3
                obtain ⟨Y', e1, h6, h5, hd1, hd2, hb'⟩ := store_step (v0 := .slice y0 k2 z0) (v1 := .slice y1 k2 z1) G6.out G5.out NE.out D1.out D2.out HB.out L6.out
                rw [e1]
                replace G5 := hide h5
                replace G6 := hide h6
                replace D1 := hide hd1
                replace D2 := hide hd2
                replace HB := hide hb'
                clear e1 h5 h6 hd1 hd2 hb'
                refine hK.out _ _ (HWW.out _ HB.out).1 (fun _ => ?_)
                clear hK K
                try simp only [Act.put, List.setIfInBounds_toArray, List.set_cons_zero, List.set_cons_succ]
                refine wpAnyH_done (by kernel_rfl) ?_ _
                go_wp2_with fail
                go_meet
                exact ⟨x, y, r, s, k1, k2, g5, g6, x0, x1, y0, y1, u0, u1, z0, z1, rfl, rfl, HS1.out, HS2.out, HMX1.out, HMX2.out, G5.out, G6.out, D1.out, D2.out, HB.out⟩
              exact AllReadyH.nil
            exact AllReadyH.nil
          exact AllReadyH.nil
        exact AllReadyH.nil
      exact AllReadyH.nil
    exact AllReadyH.nil
  case rest =>
  obtain ⟨wP, rfl⟩ : ∃ y, y = wc := ⟨_, rfl⟩
  obtain ⟨x, y, r, s, k1, k2, g5, g6, x0, x1, y0, y1, u0, u1, z0, z1, rfl, rfl, hs1, hs2, hmx1, hmx2, h5, h6, hd1, hd2, hb⟩ := hcut
  have HS1 := hide hs1
  have HS2 := hide hs2
  have HBP := hide hb
  have H5 := hide h5
  have H6 := hide h6
  have hm1 := hmx1.most
  have hm2 := hmx2.most
  have HER := hide (equalR_any x0 y0 k1 k2 u0 z0 x y wP hd1.l0 hd2.l0 (by omega) (by omega) hd1.dr hd2.dr (mx_fit hmx1) (mx_fit hmx2))
  have HD1 := hide hd1
  have HD2 := hide hd2
  obtain ⟨e0, e1, -⟩ := d_cells h5
  obtain ⟨f0, f1, -⟩ := d_cells h6
  clear hs1 hs2 hb hmx1 hmx2 hd1 hd2 h5 h6 p0 p1 p2 p3
  by_cases c : x = y
  · rw [decide_eq_true c] at HER
    go_wp2_with fail
    refine HER.out.mono ?_
    rintro e w7 ⟨rfl, hb7⟩
    have HB7 := hide (HBP.out.trans (hb7.mono HBP.out.size))
    have hd1 := dm_below' hb7 HD1.out
    have hd2 := dm_below' hb7 HD2.out
    have HEI := hide (equalI_any x1 y1 k1 k2 u1 z1 r s w7 hd1.l1 hd2.l1 (by omega) (by omega) hd1.wd hd2.wd)
    clear e0 e1 f0 f1
    obtain ⟨e0, e1, -⟩ := d_cells ((hb7.block g5 (Array.getElem?_eq_some_iff.1 H5.out).1).trans H5.out)
    obtain ⟨f0, f1, -⟩ := d_cells ((hb7.block g6 (Array.getElem?_eq_some_iff.1 H6.out).1).trans H6.out)
    have HC := hide c
    clear hb7 hd1 hd2 HER c
    go_wp2_with fail
    refine HEI.out.mono ?_
    rintro e w8 ⟨rfl, hb8⟩
    have HB8 := hide (HB7.out.trans (hb8.mono HB7.out.size))
    have HE := hide (show decide (x = y ∧ r = s) = decide (r = s) by simp [HC.out])
    clear hb8 HEI
    generalize decide (r = s) = v at *
    go_wp2
    go_ret
    exact ⟨x, y, r, s, HS1.out, HS2.out, by rw [HE.out]; rfl, HB0.out.trans (HB8.out.mono HB0.out.size)⟩
  · rw [decide_eq_false c] at HER
    have HE := hide (show decide (x = y ∧ r = s) = false from decide_eq_false fun q => c q.1)
    clear c
    go_wp2_with fail
    refine HER.out.mono ?_
    rintro e w7 ⟨rfl, hb7⟩
    have HB7 := hide (HBP.out.trans (hb7.mono HBP.out.size))
    clear hb7 HER
    go_wp2
    go_ret
    exact ⟨x, y, r, s, HS1.out, HS2.out, by rw [HE.out]; rfl, HB0.out.trans (HB7.out.mono HB0.out.size)⟩

theorem same_yes : SameYes := msame_yes
end Go.Proofs.Ythkollnlmnbidaa.A
