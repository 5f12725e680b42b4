/- The program's duplicate, walked. -/
import Derived.Test.YtgjjmcgmdlfdaaaDoorX
import Derived.Deep.RegionLaw
namespace Go.Proofs.YtgjjmcgmdlfdaaaDoor.A
open Go.RowKit

theorem below_drew1 (w : World) : Below w.heap.size w w.drew := (Below.refl _ _).drew
theorem cell_alloc {w : World} {a : Addr} {v : Value} (h : w.cell? a = some v) (o : Obj) : (w.alloc o).cell? a = some v := (World.cell?_of_block (Below.heap_alloc w o a.block (cell_lt h))).trans h
set_option maxRecDepth 100000 in
set_option maxHeartbeats 12800000 in
theorem dup_any : ∀ (n : Nat) (t : Ex n) (v : Value) (w : World), Rx w n t v → shapesE n t = true → realN n t ≤ 100 →
    Calls Tryd.prog 81 #[v] w fun e w' => Makes w n t e w' := by
  intro n
  induction n with
  | zero => intro t v w h; exact h.elim
  | succ n ih =>
    intro t v w h hsh hrn
    obtain ⟨i0, hi0, hz0, hz1, hz2⟩ := info_parts info40
    have hrl := real_len (rx_full _ _ _ h)
    have HRK := hide (fun (x : Ex n) (hx : x ∈ ks t) => Nat.le_trans (real_kid hx) hrn)
    obtain ⟨a, len, cap, rfl, hk, hs, hl, h6, hkids⟩ := rx_open h
    obtain ⟨hok, hall⟩ : okE (kd t) (st t) (ks t).length = true ∧ ∀ x ∈ ks t, shapesE n x = true := by
      have e : (okE (kd t) (st t) (ks t).length && (ks t).all (fun x => shapesE n x)) = true := hsh
      rw [Bool.and_eq_true, List.all_eq_true] at e
      exact e
    have HE := hide (show t = ((kd t, st t, ks t) : Ex (n + 1)) from rfl)
    rw [h6] at hok hrl
    have hlen : len ≤ 100 := by omega
    generalize kd t = kk at *
    generalize st t = ss at *
    generalize ks t = l at *
    have HK := hide hkids
    have HS := hide hall
    have HL := hide h6
    obtain ⟨q, hq⟩ : ∃ q, w.heap.size = q := ⟨_, rfl⟩
    have hW1 := ((((Below.refl w.heap.size w).alloc (Nat.le_refl _) (.cells #[.int .u8 kk, .int .u16 ss, .slice a len cap] 40)).alloc (by simp) (.cells #[.int .u8 0, .int .u16 0, .slice none 0 0] 40)).alloc (by simp; omega) (.cells #[.int .u8 kk, .int .u16 ss, .slice none 0 0] 40))
    have hW2 : (((w.alloc (.cells #[.int .u8 kk, .int .u16 ss, .slice a len cap] 40)).alloc (.cells #[.int .u8 0, .int .u16 0, .slice none 0 0] 40)).alloc (.cells #[.int .u8 kk, .int .u16 ss, .slice none 0 0] 40)).heap.size = q + 3 := by simp [hq]
    have hW3 : St3 (((w.alloc (.cells #[.int .u8 kk, .int .u16 ss, .slice a len cap] 40)).alloc (.cells #[.int .u8 0, .int .u16 0, .slice none 0 0] 40)).alloc (.cells #[.int .u8 kk, .int .u16 ss, .slice none 0 0] 40)) (q + 2) kk ss (.slice none 0 0) := by
      have e := heap_alloc_last ((w.alloc (.cells #[.int .u8 kk, .int .u16 ss, .slice a len cap] 40)).alloc (.cells #[.int .u8 0, .int .u16 0, .slice none 0 0] 40)) (.cells #[.int .u8 kk, .int .u16 ss, .slice none 0 0] 40)
      rw [show ((w.alloc (.cells #[.int .u8 kk, .int .u16 ss, .slice a len cap] 40)).alloc (.cells #[.int .u8 0, .int .u16 0, .slice none 0 0] 40)).heap.size = q + 2 by simp [hq]] at e
      exact e
    have hW4 : St3 (((w.alloc (.cells #[.int .u8 kk, .int .u16 ss, .slice a len cap] 40)).alloc (.cells #[.int .u8 0, .int .u16 0, .slice none 0 0] 40)).alloc (.cells #[.int .u8 kk, .int .u16 ss, .slice none 0 0] 40)) q kk ss (.slice a len cap) := by
      have e := heap_alloc_last w (.cells #[.int .u8 kk, .int .u16 ss, .slice a len cap] 40)
      rw [hq] at e
      exact (Below.heap_alloc _ _ _ (by simp [hq]; omega)).trans ((Below.heap_alloc _ _ _ (by simp [hq])).trans e)
    have hW5 : St3 (((w.alloc (.cells #[.int .u8 kk, .int .u16 ss, .slice a len cap] 40)).alloc (.cells #[.int .u8 0, .int .u16 0, .slice none 0 0] 40)).alloc (.cells #[.int .u8 kk, .int .u16 ss, .slice none 0 0] 40)) (q + 1) 0 0 (.slice none 0 0) := by
      have e := heap_alloc_last (w.alloc (.cells #[.int .u8 kk, .int .u16 ss, .slice a len cap] 40)) (.cells #[.int .u8 0, .int .u16 0, .slice none 0 0] 40)
      rw [show (w.alloc (.cells #[.int .u8 kk, .int .u16 ss, .slice a len cap] 40)).heap.size = q + 1 by simp [hq]] at e
      exact (Below.heap_alloc _ _ _ (by simp [hq])).trans e
    have HW := hide (And.intro hW1 (And.intro hW2 (And.intro hW3 (And.intro hW4 hW5))))
    clear h hkids hsh hok hall h6 hrn hrl hl hW1 hW2 hW3 hW4 hW5
    go_enter Tryd.func81, Tryd.ntmps81
    go_wp2_with fail
    obtain ⟨hW1, hW2, hW3, hW4, hW5⟩ := HW.out
    clear HW
    generalize ((w.alloc (.cells #[.int .u8 kk, .int .u16 ss, .slice a len cap] 40)).alloc (.cells #[.int .u8 0, .int .u16 0, .slice none 0 0] 40)).alloc (.cells #[.int .u8 kk, .int .u16 ss, .slice none 0 0] 40) = W at *
    rw [hq] at hW1
    have HQ := hide hq
    obtain ⟨q2, hq2⟩ : ∃ q2, q + 1 + 1 = q2 := ⟨_, rfl⟩
    rw [hq2]
    rw [show q + 2 = q2 by omega] at hW3
    have HQ2 := hide (show q2 = q + 2 by omega)
    clear hq2
    have HW1 := hide hW1
    have HW2 := hide hW2
    have HW3 := hide hW3
    have HW4 := hide hW4
    have HW5 := hide hW5
    clear hq hW1 hW2 hW3 hW4 hW5
    go_loopw [5, 14] (fun _ u wr => ∃ (i : Nat) (vv : Value) (ys : List Nd) (Ss : List (List Nat)), i ≤ len ∧ u = .int .i64 i ∧ St3 wr q2 kk ss vv ∧ Mkg (q + 3) wr n (l.take i) vv ys Ss ∧ Below q2 W wr ∧ q + 3 ≤ wr.heap.size) (fun _ u _ => len - (intOf u).toNat)
    case atStart => exact ⟨0, _, [], [], Nat.zero_le _, rfl, HW3.out, mkg_nil _ _ _, Below.refl _ _, by rw [HW2.out]; exact Nat.le_refl _⟩
    case round =>
      obtain ⟨i, vv, ys, Ss, hi, rfl, hst, hmk, hb, hsz⟩ := hrel
      by_cases hlt : i < len
      · obtain ⟨x, b, off, c0, c1, c2, rfl, hx, k0, k1, k2, k3⟩ := HK.out wr (by rw [HQ.out]; exact HW1.out.trans (hb.mono (by have := HQ2.out; omega))) i hlt
        obtain ⟨kx, sx, ax, lx, cx, rfl, rfl, rfl⟩ := rx_cells k3
        have HMEM := hide (List.mem_of_getElem? hx)
        have HN := hide (take_at hx)
        have HLI := hide (show (l.take i).length = i by simp; have := HL.out; omega)
        have i3 : (0 : Int) ≤ (i : Int) := by omega
        have i4 : (i : Int) < (len : Int) := by omega
        have hbA := (Below.refl wr.heap.size wr).alloc (Nat.le_refl _) (.cells #[.int .u8 kx, .int .u16 sx, .slice ax lx cx] 40)
        have HXA := hide (rx_below hbA n x _ k3)
        have HST := hide (st3_below hst hbA (st3_lt hst))
        have HMK := hide (mkg_below hmk hbA)
        have HBA := hide (hb.alloc (by have := HQ2.out; omega) (.cells #[.int .u8 kx, .int .u16 sx, .slice ax lx cx] 40))
        have HSZ := hide (show q + 3 ≤ (wr.alloc (.cells #[.int .u8 kx, .int .u16 sx, .slice ax lx cx] 40)).heap.size by simp; omega)
        have HBX := hide (box3 wr (.int .u8 kx) (.int .u16 sx) (.slice ax lx cx) 40)
        have HSA := hide (show (wr.alloc (.cells #[.int .u8 kx, .int .u16 sx, .slice ax lx cx] 40)).heap.size = wr.heap.size + 1 by simp)
        clear hx k3 hbA hst hmk hb hsz
        go_wp2_with fail
        obtain ⟨t0, t1, t2⟩ := HBX.out
        clear HBX k0 k1 k2
        generalize wr.alloc (.cells #[.int .u8 kx, .int .u16 sx, .slice ax lx cx] 40) = V at *
        obtain ⟨z, hz⟩ : ∃ z, wr.heap.size = z := ⟨_, rfl⟩
        rw [hz] at t0 t1 t2 HSA
        rw [hz]
        clear hz
        obtain ⟨s0, s1, s2, s3⟩ := st3_cells HST.out
        have s4 := s3 2
        clear s0 s1 s3
        have HOW := hide (fun (w2 : World) (hb2 : Below V.drew.heap.size V.drew w2) (y : Nd) => show (w2.alloc (.cells #[.int .u8 y.k, .int .u16 y.s, .slice y.a y.l y.c] 40)).ownsRow (q + 3) 40 3 vv i (cellsN ys) ∧ (∀ j u, (cellsO y)[j]? = some u → (w2.alloc (.cells #[.int .u8 y.k, .int .u16 y.s, .slice y.a y.l y.c] 40)).cell? ((⟨w2.heap.size, 0, none⟩ : Addr).add j) = some u) ∧ q + 3 ≤ (w2.alloc (.cells #[.int .u8 y.k, .int .u16 y.s, .slice y.a y.l y.c] 40)).heap.size ∧ (w2.alloc (.cells #[.int .u8 y.k, .int .u16 y.s, .slice y.a y.l y.c] 40)).heap.size = w2.heap.size + 1 from
          ⟨by have := (own_below HMK.out.1 ((below_drew1 V).trans hb2)).alloc (.cells #[.int .u8 y.k, .int .u16 y.s, .slice y.a y.l y.c] 40); rw [HLI.out] at this; exact this, one_newN w2 y 40, by have := hb2.size; have := HSZ.out; simp at *; omega, by simp⟩)
        have HSW := hide (fun (w2 : World) (hb2 : Below V.drew.heap.size V.drew w2) (o : Obj) (w3 : World) (hgr : (w2.alloc o).grownBy w3 vv.ownBlock) => show w3.cell? ⟨q2, 2, none⟩ = some vv ∧ w3.frozen? ⟨q2, 2, none⟩ = false from by
          have b1 := (below_drew1 V).trans hb2
          have st1 := st3_below HST.out b1 (st3_lt HST.out)
          have st2 : St3 (w2.alloc o) q2 kk ss vv := (Below.heap_alloc _ _ _ (st3_lt st1)).trans st1
          have st3 := st3_grown st2 hgr (fun e => by have := (HMK.out.1.lt q2 e.symm).1; have := HQ2.out; omega)
          obtain ⟨_, _, j2, j3⟩ := st3_cells st3
          exact ⟨j2, j3 2⟩)
        go_region_law ((first | (refine step_append_lies _ (by rfl) (.tmp 19) (.tmp 22) 38 (by rfl) (q + 3) 40 i0 (.agg #[.int .u8 0, .int .u16 0, .slice none 0 0]) 3 32 Tryd.underlying38 hi0 hz0 hz1 hz2 rfl (by omega) vv i (cellsN ys) (by rfl) (HOW.out w2 hb2 y).1 ⟨w2.heap.size, 0, none⟩ 1 1 (cellsO y) (by rfl) rfl (HOW.out w2 hb2 y).2.1 (cellsO_one' y) (by omega) (by unfold maxLen; omega) (by omega) (HOW.out w2 hb2 y).2.2.1 _ (HOW.out w2 hb2 y).2.2.2 ?_; intro g cap' w3 hown3 hgrow3 hat3 hlt3; obtain ⟨g5, g6⟩ := HSW.out w2 hb2 _ w3 hgrow3) | (go_simp; go_at_call 81; refine (ih x _ _ (rx_below (below_drew1 V) n x _ HXA.out) (HS.out x HMEM.out) (HRK.out x HMEM.out)).mono ?_; rintro e w2 ⟨y, T, rfl, hT1, hT2, hT3, hb2⟩; have u2 := (hb2.cell (p := ⟨q2, 2, none⟩) (cell_lt s2)).trans s2; have u3 := fun o => cell_alloc u2 o; go_simp)))
        all_goals
          have HR := hide (mkg_next HMK.out HST.out (by have := HQ2.out; omega) (lo := V.heap.size) (Nat.le_refl _) HSZ.out hT1 hT2 hT3 ((below_drew1 V).trans hb2) _ (by rw [HLI.out]; exact hown3) hgrow3 hat3)
          have HZ3 := hide (show q + 3 ≤ w3.heap.size by have := hgrow3.size; have := hb2.size; have := HSZ.out; simp at *; omega)
          rw [HLI.out] at HR
          clear hown3 hgrow3 hat3 hlt3 g5 g6 hT1 hT2 hT3 hb2 HSW HOW u2 u3
          go_wp2
          go_roundw
          case rel => exact ⟨i + 1, _, _, _, by omega, by go_num, HR.out.2.1, by rw [HN.out]; exact HR.out.1, HBA.out.trans (HR.out.2.2.mono (Nat.le_refl _)), by simpa using HZ3.out⟩
          case measure => simp [intOf]; omega
      · have e : i = len := by omega
        subst e
        have HT := hide (show l.take i = l from List.take_of_length_le (by have := HL.out; omega))
        rw [HT.out] at hmk
        have h1 := st3_cells (st3_below HW5.out hb (by have := HQ2.out; omega))
        obtain ⟨m0, m1, m2, m3⟩ := h1
        have m4 := m3 0
        have m5 := m3 1
        have m6 := m3 2
        clear m3
        obtain ⟨n0, -, -, -⟩ := st3_cells (st3_below HW4.out hb (by have := HQ2.out; omega))
        have HBW := hide (show Below q w wr from HW1.out.trans (hb.mono (by have := HQ2.out; omega)))
        have hqq : q + 1 ≠ q2 := by have := HQ2.out; omega
        have hqs := hqq.symm
        obtain ⟨a', len', cap', S, rfl, hTr, hSn, hSl⟩ := mkg_end hmk hk hs
        obtain ⟨o0, o1, o2, o3⟩ := st3_cells hst
        have HTR := hide hTr
        have HSN := hide hSn
        have HSL := hide hSl
        have HEE := hide (show t = ((kk, ss, l) : Ex (n + 1)) from HE.out)
        clear hmk hTr hSn hSl o3 hb hst
        go_wp2
        refine bodyPost_ret (v := .agg #[.int .u8 kk, .int .u16 ss, .slice a' len' cap']) (by simp [results, Tryd.results81, go_sem, m0, m1, m2]) rfl ?_
        refine ⟨⟨kk, ss, a', len', cap'⟩, S, rfl, ?_, HSN.out, fun b hb => by have := HSL.out b hb; rw [HQ.out]; omega, ?_⟩
        · rw [HEE.out]
          exact tr_keep _ _ _ _ (fun b hb => by
            have := HSL.out b hb
            rw [Below.heap_setCell _ _ _ _ (by simp; omega), Below.heap_setCell _ _ _ _ (by simp; omega), Below.heap_setCell _ _ _ _ (by simp; omega)]) HTR.out
        · rw [HQ.out]
          exact ((HBW.out.setCell (by simp) _).setCell (by simp) _).setCell (by simp) _
end Go.Proofs.YtgjjmcgmdlfdaaaDoor.A
