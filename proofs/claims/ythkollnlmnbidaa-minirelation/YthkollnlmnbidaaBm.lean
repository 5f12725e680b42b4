/- The law's own bound, and its example. -/
import Derived.Test.YthkollnlmnbidaaBj
namespace Go.Proofs.Ythkollnlmnbidaa.A
open Go.RowKit
set_option linter.unusedVariables false
attribute [local go_sem ↓] wp_build25s wp_load63s
attribute [local go_sem] isBlk_agg cells_agg rowM_drew rowMok_drew

set_option maxRecDepth 100000 in
set_option maxHeartbeats 800000 in
theorem great8_any (a0 a1 : Option Addr) (n0 n1 c0 c1 : Nat) (w : World) (h0 : n0 ≤ maxLen) (h1 : n1 ≤ maxLen) :
    Calls Try.prog 9 #[.agg #[.slice a0 n0 c0, .slice a1 n1 c1]] w fun e w' => e = .returned (.bool (decide (40 < n0) || decide (300 < n1))) ∧ Below w.heap.size w w' := by
  have HBX := hide (heap_alloc_last w (.cells #[.slice a0 n0 c0, .slice a1 n1 c1] 25))
  have HB0 := hide ((Below.refl w.heap.size w).alloc (Nat.le_refl _) (.cells #[.slice a0 n0 c0, .slice a1 n1 c1] 25))
  obtain ⟨p0, p1, -⟩ := d_cells HBX.out
  by_cases c : 40 < n0
  · have d0 : decide ((40 : Int) < (n0 : Int)) = true := by simp; omega
    go_enter Try.func9, Try.ntmps9
    go_wp2
    go_ret
    exact ⟨by rw [decide_eq_true c]; rfl, HB0.out⟩
  · have d0 : decide ((40 : Int) < (n0 : Int)) = false := by simp; omega
    by_cases k : 300 < n1
    · have d1 : decide ((300 : Int) < (n1 : Int)) = true := by simp; omega
      go_enter Try.func9, Try.ntmps9
      go_wp2
      go_ret
      exact ⟨by rw [decide_eq_true k, Bool.or_true]; rfl, HB0.out⟩
    · have d1 : decide ((300 : Int) < (n1 : Int)) = false := by simp; omega
      go_enter Try.func9, Try.ntmps9
      go_wp2
      go_ret
      exact ⟨by rw [decide_eq_false c, decide_eq_false k]; rfl, HB0.out⟩

def rowE : List Int := List.replicate 16 (-1)
def ruE : List Int := [-1, 0, -1, 0]
def nxE : List (List Int) := [(rowE.set 1 1), (rowE.set 4 2), (rowE.set 1 3), (rowE.set 4 2)]
def zA : Nat → Nat → Bool := fun _ _ => false
theorem own_cell {w : World} {base g n cap j : Nat} {e : TypeId} {size : Nat} {xs : List Value} {v : Value} (h : w.ownsRow base e size (.slice (some ⟨g, 0, none⟩) n cap) n xs) (hj : j < n * size) (hv : xs[j]? = some v) : w.cell? ⟨g, j, none⟩ = some v ∧ w.frozen? ⟨g, j, none⟩ = false := by
  refine ⟨(h.cellAt j hj).trans hv, ?_⟩
  rcases h.2 with ⟨h', _⟩ | ⟨g', cap', cur, h', _, hg, _⟩
  · simp at h'
  · simp only [Value.slice.injEq, Option.some.injEq, Addr.mk.injEq, and_true, true_and] at h'
    obtain ⟨rfl, rfl⟩ := h'
    simp [World.frozen?, hg]

/-- The example's machine while its rows are written. -/
structure E5 (w : World) (d gn cn : Nat) (rv : Value) (xs : List Value) : Prop where
  own : w.ownsRow d 41 16 (.slice (some ⟨gn, 0, none⟩) 4 cn) 4 xs
  db : w.heap[d]? = some (.cells #[.slice (some ⟨gn, 0, none⟩) 4 cn, rv] 25 (0, 0))
  r : w.ownsRow d 3 1 rv 4 (ruE.map (Value.int .i64))
theorem e5_set {w : World} {d gn cn : Nat} {rv : Value} {xs : List Value} (h : E5 w d gn cn rv xs) (j : Nat) (u : Value) : E5 (w.setCell ⟨gn, j, none⟩ u) d gn cn rv (xs.set j u) := by
  have hd : d ≠ gn := fun e => own_not h.own h.db (by decide) (by rw [e]; rfl)
  refine ⟨(h.own.stored j u).1, by rw [Below.heap_setCell _ _ _ _ hd]; exact h.db, set_far h.r (fun e => ?_)⟩
  obtain ⟨_, _, cs, h1⟩ := own_type h.r e
  obtain ⟨_, _, cs2, h2⟩ := own_type h.own (k := gn) rfl
  rw [h1] at h2
  cases h2

set_option maxRecDepth 100000 in
set_option maxHeartbeats 6400000 in
theorem example_any (w : World) :
    Calls Try.prog 22 #[] w fun e w' => ∃ b0 b1 d0 d1, e = .returned (.agg #[.slice b0 4 d0, .slice b1 4 d1]) ∧ Dr w' b0 nxE ∧ Wd w' b1 ruE ∧ Below w.heap.size w w' := by
  obtain ⟨i38, hi38, hz38, hs38, hb38⟩ := info_parts info41'
  obtain ⟨i3, hi3, hz3, hs3, hb3⟩ := info_parts info3
  have HN1 := hide (nil2 w)
  have hs1 : (w.alloc (.cells #[.slice none 0 0, .slice none 0 0] 25)).heap.size = w.heap.size + 1 := by simp
  have HSM := hide (show Sm ((w.alloc (.cells #[.slice none 0 0, .slice none 0 0] 25)).alloc (.cells #[.slice none 0 0, .slice none 0 0] 25)) (w.heap.size + 1) 0 (w.heap.size + 1) zA (.slice none 0 0) (.slice none 0 0) (.slice none 0 0) [] [] [] [] from
    ⟨World.ownsRow_nil _ _ _ _, rfl, fun i z s hz hs => by simp at hz, by rw [← hs1]; exact heap_alloc_last _ _, Nat.le_refl _, World.ownsRow_nil _ _ _ _, World.ownsRow_nil _ _ _ _, fun k h _ => by simp [Value.ownBlock] at h⟩)
  have HB1 := hide ((Below.refl w.heap.size w).alloc (Nat.le_refl _) (.cells #[.slice none 0 0, .slice none 0 0] 25))
  have HBA := hide ((Below.refl (w.heap.size + 1) (w.alloc (.cells #[.slice none 0 0, .slice none 0 0] 25))).alloc (by simp) (.cells #[.slice none 0 0, .slice none 0 0] 25))
  go_enter Try.func22, Try.ntmps22
  go_wp2_with fail
  generalize (w.alloc (.cells #[.slice none 0 0, .slice none 0 0] 25)).alloc (.cells #[.slice none 0 0, .slice none 0 0] 25) = W2 at *
  generalize w.alloc (.cells #[.slice none 0 0, .slice none 0 0] 25) = W1 at *
  generalize hd : w.heap.size + 1 = d at *
  go_loopw [2] (fun i wr => ∃ (k : Nat) (nv rv : Value), k ≤ 4 ∧ i = .int .i64 k ∧ Sm wr d 0 d zA (.slice none 0 0) nv rv [] [] (List.replicate k rowE) (ruE.take k) ∧ Below d W1 wr) (fun i _ => 4 - (intOf i).toNat)
  case atStart => exact ⟨0, _, _, by omega, rfl, HSM.out, HBA.out⟩
  case round =>
    obtain ⟨k, nv, rv, hk, rfl, hsm, hb⟩ := hrel
    have HSM' := hide hsm
    have HB := hide hb
    clear hsm hb HSM HBA
    by_cases hlt : k < 4
    · have i1 : (0 : Int) ≤ (k : Int) := by omega
      have i2 : (k : Int) < 4 := by omega
      have hdw := sm_lt HSM'.out
      have HNV := hide (show nv.ownBlock ≠ some wr.heap.size from fun e => by
        have := (own_type HSM'.out.n' e).2.1
        omega)
      have HDR := hide (show d ≤ wr.heap.size by omega)
      obtain ⟨hv38, hi38'⟩ := zero_of_info zero63
      rw [rowG_zero] at hv38
      have HSMA := hide (sm_below ((Below.refl _ _).alloc (Nat.le_refl _) (.cells (rowG fun _ => 0) 41)) HSM'.out)
      have HBWA := hide (HB.out.alloc (show d ≤ wr.heap.size by omega) (.cells (rowG fun _ => 0) 41))
      have HRGA := hide (show Rg (wr.alloc (.cells (rowG fun _ => 0) 41)) wr.heap.size (fun _ => 0) from heap_alloc_last _ _)
      clear hdw
      go_wp2_with fail
      generalize hwr : wr.alloc (.cells (rowG fun _ => 0) 41) = WA at *
      generalize hrb : wr.heap.size = rb at *
      clear hv38 hi38' hwr
      go_loopw [4] (fun c wr2 => ∃ m : Nat, m ≤ 16 ∧ c = .int .i64 m ∧ Rg wr2 rb (fun i => if i < m then -1 else 0) ∧ Sm wr2 d 0 d zA (.slice none 0 0) nv rv [] [] (List.replicate k rowE) (ruE.take k) ∧ Below d W1 wr2) (fun c _ => 16 - (intOf c).toNat)
      case atStart => exact ⟨0, by omega, rfl, rg_congr HRGA.out (fun j _ => by simp), HSMA.out, HBWA.out⟩
      case round =>
        obtain ⟨m, hm16, rfl, hrg, hsm2, hb2⟩ := hrel
        have HRG := hide hrg
        have HSM2 := hide hsm2
        have HB2 := hide hb2
        clear hrg hsm2 hb2 HRGA HSMA HBWA
        by_cases hmlt : m < 16
        · have i5 : (0 : Int) ≤ (m : Int) := by omega
          have i6 : (m : Int) < 16 := by omega
          obtain ⟨r5, f5⟩ := rg_cell HRG.out hmlt
          rw [if_neg (by omega)] at r5
          have HRG1 := hide (rg_congr (rg_set HRG.out hmlt (-1)) (f' := fun i => if i < m + 1 then -1 else 0) (fun j _ => by
            by_cases e : j = m
            · subst e; simp
            · by_cases c : j < m <;> simp [e, c] <;> omega))
          have HSM3 := hide (sm_row HSM2.out HRG.out HNV.out m (.int .i64 (-1)))
          have HB3 := hide (HB2.out.setCell (p := ⟨rb, m, none⟩) HDR.out (.int .i64 (-1)))
          go_wp2
          go_roundw
          case rel => exact ⟨m + 1, by omega, by go_num, HRG1.out, HSM3.out, HB3.out⟩
          case measure => simp [intOf]; omega
        · have em : m = 16 := by omega
          subst em
          have HRGF := hide (show Rg wr rb (fnL rowE) from rg_congr HRG.out (fun j hj => by
            rw [if_pos hj]
            unfold fnL rowE
            rw [List.getD_eq_getElem?_getD, List.getElem?_replicate, if_pos hj]; rfl))
          have hl16 : rowE.length = 16 := rfl
          obtain ⟨an, cn, hnv⟩ := own_form HSM2.out.n'
          rw [List.length_replicate] at hnv
          subst hnv
          obtain ⟨e0, e1, ez⟩ := d_cells HSM2.out.db
          have f0 := ez 0
          obtain ⟨rM1, rM2⟩ := rowM_at (rg_range HRGF.out hl16) (by rw [cI_len]; exact hl16)
          have hcl : (cI rowE).length = 16 := by rw [cI_len]; exact hl16
          have hone : ∀ u ∈ cI rowE, u.oneCell' = true := fun u hu => by
            obtain ⟨z, _, rfl⟩ := List.mem_map.1 hu
            rfl
          have HON := hide (show wr.ownsRow d 41 16 (.slice an k cn) k (cellsR (List.replicate k rowE)) from by
            have := HSM2.out.n'
            rw [List.length_replicate] at this
            exact this)
          obtain ⟨cx, hcx⟩ : ∃ cx, cI rowE = cx := ⟨_, rfl⟩
          have HCX := hide hcx
          rw [hcx] at rM1 hcl hone
          have HSZ := hide (show d ≤ (wr.alloc (.cells cx.toArray 41)).heap.size by have h1 := sm_lt HSM2.out; simp; omega)
          have HDC := hide (fun (w3 : World) (hgr : (wr.alloc (.cells cx.toArray 41)).grownBy w3 (Value.slice an k cn).ownBlock) => show w3.cell? ⟨d, 0, none⟩ = some (.slice an k cn) ∧ w3.frozen? ⟨d, 0, none⟩ = false from by
            have hdl := sm_lt HSM2.out
            have h2 : w3.heap[d]? = some (.cells #[.slice an k cn, rv] 25 (0, 0)) := by
              rw [hgr.block d (by simp; omega) (fun e => own_not HON.out HSM2.out.db (by decide) e.symm), Below.heap_alloc _ _ _ hdl]; exact HSM2.out.db
            exact ⟨(d_cells h2).1, (d_cells h2).2.2 0⟩)
          clear hcx ez
          go_upto_region 11 with (first
            | (at_builtin; refine wpList_append_lies _ rfl _ _ 22 rfl d 41 i38 (.agg (Array.replicate 16 (.int .i64 0))) 16 128 Try.underlying22 hi38 hz38 hs38 hb38 (by simp [Value.cells]) (by decide) _ k (cellsR (List.replicate k rowE)) rfl (HON.out.alloc _) ⟨_, 0, none⟩ 1 1 cx rfl (by omega) (World.news_of_block (cs := cx.toArray) (heap_alloc_last wr _)) hone (by decide) (by unfold maxLen; omega) (by omega) HSZ.out _ rfl ?_; intro g' cap' w3 hown3 hg3 hat3 hlt3; obtain ⟨g5, g6⟩ := HDC.out w3 hg3))
          have hsmN := sm_next (l := rowE) HSM2.out hg3 (by rw [List.length_replicate, HCX.out]; exact hown3)
          rw [List.length_replicate] at hsmN
          have HSMN := hide hsmN
          have HBN := hide (((HB2.out.alloc (by have h1 := sm_lt HSM2.out; omega) (.cells cx.toArray 41)).grown hg3 HSZ.out (fun kk hkk => (own_type HON.out hkk).1)).setCell (p := ⟨d, 0, none⟩) (Nat.le_refl d) (.slice (some ⟨g', 0, none⟩) (k + 1) cap'))
          clear hsmN hown3 hg3 hat3 hlt3 e0 e1 f0 rM1 rM2 g5 g6 hcl hone HON HSZ HDC HSM2 HB2 HRG HRGF
          generalize w3.setCell ⟨d, 0, none⟩ (.slice (some ⟨g', 0, none⟩) (k + 1) cap') = wF at *
          obtain ⟨ar, cr, hrv⟩ := own_form HSMN.out.r
          have hlr : (ruE.take k).length = k := by simp [ruE]; omega
          rw [hlr] at hrv
          obtain ⟨e0, e1, ez⟩ := d_cells HSMN.out.db
          have f1 := ez 1
          have HDC := hide (fun (o : Obj) (w7 : World) (hgr : (wF.alloc o).grownBy w7 rv.ownBlock) => show w7.cell? ⟨d, 1, none⟩ = some rv ∧ w7.frozen? ⟨d, 1, none⟩ = false from by
            have hd5 := HSMN.out.db
            have hdl := (Array.getElem?_eq_some_iff.1 hd5).1
            have h2 : w7.heap[d]? = some (.cells #[.slice (some ⟨g', 0, none⟩) (k + 1) cap', rv] 25 (0, 0)) := by
              rw [hgr.block d (by simp; omega) (fun e => own_not HSMN.out.r hd5 (by decide) e.symm)]
              exact (Below.heap_alloc wF o d hdl).trans hd5
            exact ⟨(d_cells h2).2.1, (d_cells h2).2.2 1⟩)
          have HLE := hide (show d ≤ wF.heap.size by have := sm_lt HSMN.out; omega)
          have HSZ := hide (fun o => show d ≤ (wF.alloc o).heap.size by have := HLE.out; simp; omega)
          clear ez hlr
          subst hrv
          have hk4 : k = 0 ∨ k = 1 ∨ k = 2 ∨ k = 3 := by omega
          clear i1 i2 hlt hk
          rcases hk4 with rfl | rfl | rfl | rfl
          · skip
            have HRO := hide (show wF.ownsRow d 3 1 (.slice ar 0 cr) 0 ((ruE.take 0).map (Value.int .i64)) from HSMN.out.r)
            go_wp2_with (first
              | (at_builtin; refine wpList_append_lies _ rfl _ _ 23 rfl d 3 i3 (.int .i64 0) 1 8 Try.underlying23 hi3 hz3 hs3 hb3 rfl (by decide) _ 0 ((ruE.take 0).map (Value.int .i64)) rfl (HRO.out.alloc _) ⟨_, 0, none⟩ 1 1 [.int .i64 (-1)] rfl rfl (one_new _ _ _) (fun u hu => by simp only [List.mem_singleton] at hu; subst hu; rfl) (by decide) (by unfold maxLen; omega) (by omega) (HSZ.out _) _ rfl ?_; intro g'' cap'' w7 hown7 hg7 hat7 hlt7; obtain ⟨g5, g6⟩ := HDC.out _ w7 hg7))
            have hsz7 : (wF.alloc (.cells #[.int .i64 (-1)] 3)).heap.size = wF.heap.size + 1 := by simp
            have HSM8 := hide (sm_rule HSMN.out hg7 hown7 (by rcases hat7 with h | h; exact .inl h; right; omega))
            have HB8 := hide (((HBN.out.alloc HLE.out (.cells #[.int .i64 (-1)] 3)).grown hg7 (HSZ.out _) (fun kk hkk => (own_type HRO.out hkk).1)).setCell (p := ⟨d, 1, none⟩) (Nat.le_refl d) (.slice (some ⟨g'', 0, none⟩) (0 + 1) cap''))
            clear hown7 hg7 hat7 hsz7
            go_roundw
            case rel => exact ⟨0 + 1, _, _, by omega, rfl, HSM8.out, HB8.out⟩
            case measure => simp [intOf]
          · skip
            have HRO := hide (show wF.ownsRow d 3 1 (.slice ar 1 cr) 1 ((ruE.take 1).map (Value.int .i64)) from HSMN.out.r)
            go_wp2_with (first
              | (at_builtin; refine wpList_append_lies _ rfl _ _ 23 rfl d 3 i3 (.int .i64 0) 1 8 Try.underlying23 hi3 hz3 hs3 hb3 rfl (by decide) _ 1 ((ruE.take 1).map (Value.int .i64)) rfl (HRO.out.alloc _) ⟨_, 0, none⟩ 1 1 [.int .i64 (0)] rfl rfl (one_new _ _ _) (fun u hu => by simp only [List.mem_singleton] at hu; subst hu; rfl) (by decide) (by unfold maxLen; omega) (by omega) (HSZ.out _) _ rfl ?_; intro g'' cap'' w7 hown7 hg7 hat7 hlt7; obtain ⟨g5, g6⟩ := HDC.out _ w7 hg7))
            have hsz7 : (wF.alloc (.cells #[.int .i64 (0)] 3)).heap.size = wF.heap.size + 1 := by simp
            have HSM8 := hide (sm_rule HSMN.out hg7 hown7 (by rcases hat7 with h | h; exact .inl h; right; omega))
            have HB8 := hide (((HBN.out.alloc HLE.out (.cells #[.int .i64 (0)] 3)).grown hg7 (HSZ.out _) (fun kk hkk => (own_type HRO.out hkk).1)).setCell (p := ⟨d, 1, none⟩) (Nat.le_refl d) (.slice (some ⟨g'', 0, none⟩) (1 + 1) cap''))
            clear hown7 hg7 hat7 hsz7
            go_roundw
            case rel => exact ⟨1 + 1, _, _, by omega, rfl, HSM8.out, HB8.out⟩
            case measure => simp [intOf]
          · skip
            have HRO := hide (show wF.ownsRow d 3 1 (.slice ar 2 cr) 2 ((ruE.take 2).map (Value.int .i64)) from HSMN.out.r)
            go_wp2_with (first
              | (at_builtin; refine wpList_append_lies _ rfl _ _ 23 rfl d 3 i3 (.int .i64 0) 1 8 Try.underlying23 hi3 hz3 hs3 hb3 rfl (by decide) _ 2 ((ruE.take 2).map (Value.int .i64)) rfl (HRO.out.alloc _) ⟨_, 0, none⟩ 1 1 [.int .i64 (-1)] rfl rfl (one_new _ _ _) (fun u hu => by simp only [List.mem_singleton] at hu; subst hu; rfl) (by decide) (by unfold maxLen; omega) (by omega) (HSZ.out _) _ rfl ?_; intro g'' cap'' w7 hown7 hg7 hat7 hlt7; obtain ⟨g5, g6⟩ := HDC.out _ w7 hg7))
            have hsz7 : (wF.alloc (.cells #[.int .i64 (-1)] 3)).heap.size = wF.heap.size + 1 := by simp
            have HSM8 := hide (sm_rule HSMN.out hg7 hown7 (by rcases hat7 with h | h; exact .inl h; right; omega))
            have HB8 := hide (((HBN.out.alloc HLE.out (.cells #[.int .i64 (-1)] 3)).grown hg7 (HSZ.out _) (fun kk hkk => (own_type HRO.out hkk).1)).setCell (p := ⟨d, 1, none⟩) (Nat.le_refl d) (.slice (some ⟨g'', 0, none⟩) (2 + 1) cap''))
            clear hown7 hg7 hat7 hsz7
            go_roundw
            case rel => exact ⟨2 + 1, _, _, by omega, rfl, HSM8.out, HB8.out⟩
            case measure => simp [intOf]
          · skip
            have HRO := hide (show wF.ownsRow d 3 1 (.slice ar 3 cr) 3 ((ruE.take 3).map (Value.int .i64)) from HSMN.out.r)
            go_wp2_with (first
              | (at_builtin; refine wpList_append_lies _ rfl _ _ 23 rfl d 3 i3 (.int .i64 0) 1 8 Try.underlying23 hi3 hz3 hs3 hb3 rfl (by decide) _ 3 ((ruE.take 3).map (Value.int .i64)) rfl (HRO.out.alloc _) ⟨_, 0, none⟩ 1 1 [.int .i64 (0)] rfl rfl (one_new _ _ _) (fun u hu => by simp only [List.mem_singleton] at hu; subst hu; rfl) (by decide) (by unfold maxLen; omega) (by omega) (HSZ.out _) _ rfl ?_; intro g'' cap'' w7 hown7 hg7 hat7 hlt7; obtain ⟨g5, g6⟩ := HDC.out _ w7 hg7))
            have hsz7 : (wF.alloc (.cells #[.int .i64 (0)] 3)).heap.size = wF.heap.size + 1 := by simp
            have HSM8 := hide (sm_rule HSMN.out hg7 hown7 (by rcases hat7 with h | h; exact .inl h; right; omega))
            have HB8 := hide (((HBN.out.alloc HLE.out (.cells #[.int .i64 (0)] 3)).grown hg7 (HSZ.out _) (fun kk hkk => (own_type HRO.out hkk).1)).setCell (p := ⟨d, 1, none⟩) (Nat.le_refl d) (.slice (some ⟨g'', 0, none⟩) (3 + 1) cap''))
            clear hown7 hg7 hat7 hsz7
            go_roundw
            case rel => exact ⟨3 + 1, _, _, by omega, rfl, HSM8.out, HB8.out⟩
            case measure => simp [intOf]
    · have ek : k = 4 := by omega
      subst ek
      obtain ⟨gn, cn, hnv, hgn, hgl⟩ := HSM'.out.n'.form (by decide)
      have hnv' : nv = .slice (some ⟨gn, 0, none⟩) 4 cn := hnv
      subst hnv'
      have HE := hide (show E5 wr d gn cn rv (cellsR (List.replicate 4 rowE)) from ⟨HSM'.out.n', HSM'.out.db, HSM'.out.r⟩)
      have HP := hide ((HB.out.block w.heap.size (by omega)).trans HN1.out)
      clear hnv
      have hd0 := (d_cells HE.out.db).1
      obtain ⟨c1, c2⟩ := own_cell HE.out.own (j := 1) (v := .int .i64 (-1)) (by decide) rfl
      have HE1 := hide (e5_set HE.out 1 (.int .i64 1))
      have HBx1 := hide (HB.out.setCell (p := ⟨gn, 1, none⟩) hgn (.int .i64 1))
      go_upto_region 13 with fail
      generalize wr.setCell ⟨gn, 1, none⟩ (.int .i64 1) = v1 at *
      clear hd0 c1 c2
      have hd0 := (d_cells HE1.out.db).1
      obtain ⟨c1, c2⟩ := own_cell HE1.out.own (j := 20) (v := .int .i64 (-1)) (by decide) rfl
      have HE2 := hide (e5_set HE1.out 20 (.int .i64 2))
      have HBx2 := hide (HBx1.out.setCell (p := ⟨gn, 20, none⟩) hgn (.int .i64 2))
      go_upto_region 14 with fail
      generalize v1.setCell ⟨gn, 20, none⟩ (.int .i64 2) = v2 at *
      clear hd0 c1 c2
      have hd0 := (d_cells HE2.out.db).1
      obtain ⟨c1, c2⟩ := own_cell HE2.out.own (j := 33) (v := .int .i64 (-1)) (by decide) rfl
      have HE3 := hide (e5_set HE2.out 33 (.int .i64 3))
      have HBx3 := hide (HBx2.out.setCell (p := ⟨gn, 33, none⟩) hgn (.int .i64 3))
      go_upto_region 15 with fail
      generalize v2.setCell ⟨gn, 33, none⟩ (.int .i64 3) = v3 at *
      clear hd0 c1 c2
      have hd0 := (d_cells HE3.out.db).1
      obtain ⟨c1, c2⟩ := own_cell HE3.out.own (j := 52) (v := .int .i64 (-1)) (by decide) rfl
      have HE4 := hide (e5_set HE3.out 52 (.int .i64 2))
      have HBx4 := hide (HBx3.out.setCell (p := ⟨gn, 52, none⟩) hgn (.int .i64 2))
      go_upto_region 16 with fail
      generalize v3.setCell ⟨gn, 52, none⟩ (.int .i64 2) = v4 at *
      clear hd0 c1 c2
      obtain ⟨ar, cr, rfl, hwr⟩ := own_len (s := ruE) HE4.out.r
      obtain ⟨e0, e1, -⟩ := d_cells HE4.out.db
      have hPX := (HBx4.out.block w.heap.size (by omega)).trans HN1.out
      obtain ⟨q0, q1, qz⟩ := d_cells hPX
      have y0 := qz 0
      have y1 := qz 1
      have HXS := hide (show (((((cellsR (List.replicate 4 rowE)).set 1 (.int .i64 1)).set 20 (.int .i64 2)).set 33 (.int .i64 3)).set 52 (.int .i64 2)) = cellsR nxE from rfl)
      have HON := hide (show v4.ownsRow d 41 16 (.slice (some ⟨gn, 0, none⟩) 4 cn) 4 (cellsR nxE) from HXS.out ▸ HE4.out.own)
      obtain ⟨an, cn', ean, hdr⟩ := own_dr HON.out (fun x hx => by
        unfold nxE at hx
        simp only [List.mem_cons, List.not_mem_nil, or_false] at hx
        rcases hx with rfl | rfl | rfl | rfl <;> rfl)
      obtain ⟨rfl, -, rfl⟩ := Value.slice.inj ean
      have HDR := hide (hdr rfl)
      have HWR := hide hwr
      have hbf : ∀ x y, Below w.heap.size w ((v4.setCell ⟨w.heap.size, 0, none⟩ x).setCell ⟨w.heap.size, 1, none⟩ y) := fun x y => below_set2 (HB1.out.trans (HBx4.out.mono (by omega))) (Nat.le_refl _)
      have HBF := hide hbf
      have HWF := hide (set2 (x := .slice (some ⟨gn, 0, none⟩) 4 cn) (y := .slice ar 4 cr) hPX)
      have HPD := hide (show ∀ (b i : Nat) (v : Value) (x y : Value), b ≠ w.heap.size → v4.cell? ⟨b, i, none⟩ = some v → ((v4.setCell ⟨w.heap.size, 0, none⟩ x).setCell ⟨w.heap.size, 1, none⟩ y).cell? ⟨b, i, none⟩ = some v from fun b i v x y hb h => by
        rw [World.cell?_setCell_other _ _ _ _ (fun e => hb (by cases e; rfl)), World.cell?_setCell_other _ _ _ _ (fun e => hb (by cases e; rfl))]; exact h)
      have HOR := hide (show v4.ownsRow d 3 1 (.slice ar 4 cr) 4 (ruE.map (Value.int .i64)) from HE4.out.r)
      clear qz hPX hbf ean hdr hwr
      replace e1 : v4.cell? ⟨d, 1, none⟩ = some (.slice ar 4 cr) := e1
      go_wp2
      obtain ⟨m0, m1, -⟩ := d_cells HWF.out
      refine bodyPost_ret (v := .agg #[.slice (some ⟨gn, 0, none⟩) 4 cn, .slice ar 4 cr]) (by simp [results, Try.results22, go_sem, m0, m1]) rfl ?_
      refine ⟨_, _, _, _, rfl, fun i row hr => ?_, fun i z hz => ?_, HBF.out _ _⟩
      · obtain ⟨h1, b, off, e, h2⟩ := HDR.out i row hr
        have hb := (own_type HON.out (k := b) (by rw [e]; rfl)).1
        exact ⟨h1, b, off, e, fun j v hj => HPD.out b _ v _ _ (by omega) (h2 j v hj)⟩
      · obtain ⟨b, off, e, h2⟩ := HWR.out i z hz
        have hb := (own_type HOR.out (k := b) (by rw [e]; rfl)).1
        exact ⟨b, off, e, HPD.out b _ _ _ _ (by omega) h2⟩
end Go.Proofs.Ythkollnlmnbidaa.A
