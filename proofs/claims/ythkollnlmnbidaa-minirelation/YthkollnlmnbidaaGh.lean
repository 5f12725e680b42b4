/- The program's Dead and Alike. -/
import Derived.Test.YthkollnlmnbidaaGg
import Derived.Test.YthkollnlmnbidaaBg
import Derived.BigRegion
namespace Go.Proofs.Ythkollnlmnbidaa.A
open Go.RowKit Go.Maps
set_option linter.unusedVariables false

theorem mdead_no (a0 a1 : Option Addr) (n0 n1 c0 c1 : Nat) (nx : List (List Int)) (ru : List Int) (w : World) (hm : Dm w a0 a1 n0 n1 nx ru) (hr : rightD nx ru = false) :
    Calls Try.prog 11 #[.agg #[.slice a0 n0 c0, .slice a1 n1 c1]] w fun e w' => e = .returned (.slice none 0 0) ∧ Below w.heap.size w w' := by
  have hb0 := (Below.refl w.heap.size w).alloc (Nat.le_refl _) (.cells #[.slice a0 n0 c0, .slice a1 n1 c1] 25)
  obtain ⟨p0, p1, -⟩ := d_cells (heap_alloc_last w (.cells #[.slice a0 n0 c0, .slice a1 n1 c1] 25))
  have hm2 := dm_below' hb0 hm
  have HB0 := hide hb0
  have HC := hide (dright_any a0 a1 n0 n1 c0 c1 nx ru _ hm2.l0 hm2.l1 hm2.dr hm2.wd hm2.m0 hm2.m1)
  rw [hr] at HC
  clear hb0 hm hm2 hr
  go_enter Try.func11, Try.ntmps11
  go_wp2_with fail
  refine HC.out.mono ?_
  rintro e w1 ⟨rfl, hb1⟩
  have HB1 := hide (HB0.out.trans (hb1.mono HB0.out.size))
  clear hb1 HC
  go_wp2
  go_ret
  exact ⟨rfl, HB1.out⟩

theorem mx_dm {w : World} {a0 a1 : Option Addr} {n0 n1 : Nat} {nx : List (List Int)} {ru : List Int} (hm : Dm w a0 a1 n0 n1 nx ru) (hr : rightD nx ru = true) : n1 = n0 ∧ Mx nx ru n0 := by
  have h1 := mx_of hr (dm_len hm)
  rw [hm.l0] at h1
  exact ⟨by rw [← hm.l1, h1.lr], h1⟩

theorem mdead_yes (a0 a1 : Option Addr) (n c0 c1 : Nat) (nx : List (List Int)) (ru : List Int) (w : World) (hm : Dm w a0 a1 n n nx ru) (hr : rightD nx ru = true) (hx : Mx nx ru n) :
    Calls Try.prog 11 #[.agg #[.slice a0 n c0, .slice a1 n c1]] w fun e w' => ∃ g, IsLive nx ru n g ∧ Gives w n (fun j => !g j) e w' := by
  have hb0 := (Below.refl w.heap.size w).alloc (Nat.le_refl _) (.cells #[.slice a0 n c0, .slice a1 n c1] 25)
  have HBX := hide (heap_alloc_last w (.cells #[.slice a0 n c0, .slice a1 n c1] 25))
  obtain ⟨p0, p1, -⟩ := d_cells HBX.out
  have hm2 := dm_below' hb0 hm
  have HB0 := hide hb0
  have HM := hide hm2
  have HX := hide hx
  have HC := hide (dright_any a0 a1 n n c0 c1 nx ru _ hm2.l0 hm2.l1 hm2.dr hm2.wd hm2.m0 hm2.m1)
  rw [hr] at HC
  clear hb0 hm hm2 hr hx
  go_enter Try.func11, Try.ntmps11
  go_wp2_with fail
  refine HC.out.mono ?_
  rintro e w1 ⟨rfl, hb1⟩
  have HB1 := hide (HB0.out.trans (hb1.mono HB0.out.size))
  have HM1 := hide (dm_below' hb1 HM.out)
  obtain ⟨p0', p1', -⟩ := d_cells ((hb1.block _ (by simp)).trans HBX.out)
  clear hb1 HC p0 p1
  go_wp2_with fail
  refine (deadS_any a0 a1 n c0 c1 nx ru w1 HX.out HM1.out).mono ?_
  rintro e w2 ⟨g, hlv, B, hB, rfl, hmk, hb2⟩
  have HLV := hide hlv
  have HMK := hide hmk
  have HB2 := hide (HB1.out.trans (hb2.mono HB1.out.size))
  have hwB : w.heap.size ≤ B := by have := HB1.out.size; omega
  clear hlv hmk hb2
  go_wp2
  go_ret
  exact ⟨g, HLV.out, B, hwB, rfl, HMK.out, HB2.out⟩

theorem malike_no (a0 a1 : Option Addr) (n0 n1 c0 c1 : Nat) (nx : List (List Int)) (ru : List Int) (w : World) (hm : Dm w a0 a1 n0 n1 nx ru) (hr : rightD nx ru = false) :
    Calls Try.prog 10 #[.agg #[.slice a0 n0 c0, .slice a1 n1 c1]] w fun e w' => e = .returned (.slice none 0 0) ∧ Below w.heap.size w w' := by
  have hb0 := (Below.refl w.heap.size w).alloc (Nat.le_refl _) (.cells #[.slice a0 n0 c0, .slice a1 n1 c1] 25)
  obtain ⟨p0, p1, -⟩ := d_cells (heap_alloc_last w (.cells #[.slice a0 n0 c0, .slice a1 n1 c1] 25))
  have hm2 := dm_below' hb0 hm
  have HB0 := hide hb0
  have HC := hide (dright_any a0 a1 n0 n1 c0 c1 nx ru _ hm2.l0 hm2.l1 hm2.dr hm2.wd hm2.m0 hm2.m1)
  rw [hr] at HC
  clear hb0 hm hm2 hr
  go_enter Try.func10, Try.ntmps10
  go_wp2_with fail
  refine HC.out.mono ?_
  rintro e w1 ⟨rfl, hb1⟩
  have HB1 := hide (HB0.out.trans (hb1.mono HB0.out.size))
  clear hb1 HC
  go_wp2
  go_ret
  exact ⟨rfl, HB1.out⟩

/-- The table of A while its row k is filled. -/
def AfG (A : Nat → Nat → Bool) (k q a b : Nat) : Bool := if a = k then decide (b < q) && A k b else A a b
theorem tmG_fill {A : Nat → Nat → Bool} {w : World} {T N k q : Nat} (h : Tm w T N (k + 1) (AfG A k q)) (hq : q < N) {v : Bool} (hv : A k q = v) : Tm (w.setCell ⟨T + 1 + k, q, none⟩ (.bool v)) T N (k + 1) (AfG A k (q + 1)) :=
  tm_congr (tm_set h (Nat.lt_succ_self k) hq v) fun i j _ _ => by
    unfold setA AfG
    by_cases e : i = k
    · subst e
      by_cases e2 : j = q
      · subst e2; simp [hv]
      · rw [if_neg (fun q => e2 q.2), if_pos rfl, if_pos rfl]
        have : decide (j < q + 1) = decide (j < q) := by by_cases c : j < q <;> simp [c] <;> omega
        rw [this]
    · rw [if_neg (fun q => e q.1), if_neg e, if_neg e]

set_option maxRecDepth 100000 in
set_option maxHeartbeats 6400000 in
theorem malike_yes (a0 a1 : Option Addr) (n c0 c1 : Nat) (nx : List (List Int)) (ru : List Int) (w : World) (hm : Dm w a0 a1 n n nx ru) (hr : rightD nx ru = true) (hx : Mx nx ru n) :
    Calls Try.prog 10 #[.agg #[.slice a0 n c0, .slice a1 n c1]] w fun e w' => ∃ (A : Nat → Nat → Bool) (T : Nat), IsAlk nx ru n A ∧ e = .returned (.slice (some ⟨T, 0, none⟩) n n) ∧ Tm w' T n n A ∧ w.heap.size ≤ T ∧ Below w.heap.size w w' := by
  have hn1 := hx.pos
  have hn2 := hx.most
  have hb0 := (Below.refl w.heap.size w).alloc (Nat.le_refl _) (.cells #[.slice a0 n c0, .slice a1 n c1] 25)
  have HBX := hide (heap_alloc_last w (.cells #[.slice a0 n c0, .slice a1 n c1] 25))
  obtain ⟨p0, p1, -⟩ := d_cells HBX.out
  have hm2 := dm_below' hb0 hm
  have HB0 := hide hb0
  have HM := hide hm2
  have HX := hide hx
  have HC := hide (dright_any a0 a1 n n c0 c1 nx ru _ hm2.l0 hm2.l1 hm2.dr hm2.wd hm2.m0 hm2.m1)
  rw [hr] at HC
  clear hb0 hm hm2 hr hx
  go_enter Try.func10, Try.ntmps10
  go_wp2_with fail
  refine HC.out.mono ?_
  rintro e w1 ⟨rfl, hb1⟩
  have HB1 := hide (HB0.out.trans (hb1.mono HB0.out.size))
  have HM1 := hide (dm_below' hb1 HM.out)
  obtain ⟨p0', p1', -⟩ := d_cells ((hb1.block _ (by simp)).trans HBX.out)
  clear hb1 HC p0 p1
  go_wp2_with fail
  refine (classes_any a0 a1 n c0 c1 nx ru w1 HX.out HM1.out).mono ?_
  rintro e w2 ⟨F, C, hcl, rfl, hik, hC, hb2⟩
  have HCL := hide (isCls_alk hcl)
  have HIK := hide hik
  have HB2 := hide (HB1.out.trans (hb2.mono HB1.out.size))
  have HMT := hide (fun T => makeT n (by omega) T)
  have hmkT := HMT.out w2.heap.size
  have hmkB := make39 n (by omega)
  have HT3 := hide (heap_alloc_last w2 (.cells (rowT n w2.heap.size 0) 30))
  have HBT := hide ((Below.refl w2.heap.size w2).alloc (Nat.le_refl _) (.cells (rowT n w2.heap.size 0) 30))
  have HST := hide (show (w2.alloc (.cells (rowT n w2.heap.size 0) 30)).heap.size = w2.heap.size + 1 by simp)
  have hCT : C < w2.heap.size := ik_lt hik
  have HWT := hide (show w.heap.size ≤ w2.heap.size from HB2.out.size)
  clear hcl hik hb2 p0' p1'
  obtain ⟨A, hAd⟩ : ∃ A : Nat → Nat → Bool, A = fun i k => decide (F i = F k) := ⟨_, rfl⟩
  rw [← hAd] at HCL
  have HAD := hide hAd
  clear hAd
  go_wp2_with fail
  clear hmkT
  generalize w2.alloc (.cells (rowT n w2.heap.size 0) 30) = W4 at *
  generalize hT : w2.heap.size = T at *
  go_loopw [5, 6, 17, 28] (fun _ _ i _ wr => ∃ k : Nat, k ≤ n ∧ i = .int .i64 k ∧ Tm wr T n k A ∧ wr.heap.size = T + 1 + k ∧ Below T w2 wr) (fun _ _ i _ _ => n - (intOf i).toNat)
  case atStart => exact ⟨0, Nat.zero_le _, rfl, ⟨HT3.out, fun i hi => by omega⟩, by rw [HST.out], HBT.out⟩
  case round =>
    obtain ⟨k, hk, rfl, htm, hsz, hb⟩ := hrel
    have HTM := hide htm
    have HSZ := hide hsz
    have HB := hide hb
    clear htm hsz hb
    by_cases hkN : k < n
    · have i1 : (0 : Int) ≤ (k : Int) := by omega
      have i2 : (k : Int) < (n : Int) := by omega
      have hTlt : T < wr.heap.size := by have := HSZ.out; omega
      have hTA : (wr.alloc (.cells (rowB n fun _ => false) 4)).heap[T]? = some (.cells (rowT n T k) 30 (0, 0)) := (Below.heap_alloc _ _ _ hTlt).trans HTM.out.t
      have q0 : (wr.alloc (.cells (rowB n fun _ => false) 4)).cell? ⟨T, k, none⟩ = some (.slice none 0 0) := by
        rw [cell_of_row _ _ _ _ _ _ hTA, rowT_at _ _ _ _ hkN, if_neg (by omega)]
      have q1 : (wr.alloc (.cells (rowB n fun _ => false) 4)).frozen? ⟨T, k, none⟩ = false := by simp [World.frozen?, hTA]
      have HTA := hide (show Tm ((wr.alloc (.cells (rowB n fun _ => false) 4)).setCell ⟨T, k, none⟩ (.slice (some ⟨wr.heap.size, 0, none⟩) n n)) T n (k + 1) (AfG A k 0) from by
        refine ⟨?_, fun i hi => ?_⟩
        · rw [blk_set hTA k _, HSZ.out, rowT_set _ _ _ hkN]
        · by_cases e : i = k
          · subst e
            refine mk_congr (g := fun _ => false) ?_ (fun b _ => by unfold AfG; simp)
            have := mk_new1 wr n
            rw [HSZ.out] at this
            exact mk_other this (by omega) _ _
          · have h1 := HTM.out.m i (by omega)
            exact mk_congr (mk_other (mk_old h1 _) (by omega) _ _) (fun b _ => by unfold AfG; rw [if_neg e]))
      have HBA := hide ((HB.out.alloc (show T ≤ wr.heap.size by omega) (.cells (rowB n fun _ => false) 4)).setCell (p := ⟨T, k, none⟩) (Nat.le_refl T) (.slice (some ⟨wr.heap.size, 0, none⟩) n n))
      have HSA := hide (show ((wr.alloc (.cells (rowB n fun _ => false) 4)).setCell ⟨T, k, none⟩ (.slice (some ⟨wr.heap.size, 0, none⟩) n n)).heap.size = T + 1 + (k + 1) by simp; have := HSZ.out; omega)
      clear hTA hTlt
      go_wp2_with fail
      clear q0 q1
      generalize ((wr.alloc (.cells (rowB n fun _ => false) 4)).setCell ⟨T, k, none⟩ (.slice (some ⟨wr.heap.size, 0, none⟩) n n)) = WA at *
      go_loopw [6, 28] (fun _ j wr => ∃ q : Nat, q ≤ n ∧ j = .int .i64 q ∧ Tm wr T n (k + 1) (AfG A k q) ∧ wr.heap.size = T + 1 + (k + 1) ∧ Below T w2 wr) (fun _ j _ => n - (intOf j).toNat)
      case atStart => exact ⟨0, Nat.zero_le _, rfl, HTA.out, HSA.out, HBA.out⟩
      case round =>
        obtain ⟨q, hq, rfl, htm, hsz, hb⟩ := hrel
        have HTM2 := hide htm
        have HSZ2 := hide hsz
        have HB2' := hide hb
        clear htm hsz hb HTA HSA HBA
        by_cases hqN : q < n
        · have t0 := tm_row HTM2.out (Nat.lt_succ_self k) hkN
          obtain ⟨m0, m1⟩ := mk_cell (HTM2.out.m k (Nat.lt_succ_self k)) hqN
          have hik := ik_below hCT HB2'.out HIK.out
          obtain ⟨c0', -⟩ := ik_cell hik hkN
          obtain ⟨c1', -⟩ := ik_cell hik hqN
          have i3 : (0 : Int) ≤ (q : Int) := by omega
          have i4 : (q : Int) < (n : Int) := by omega
          obtain ⟨v, hv⟩ : ∃ v, (F k == F q) = v := ⟨_, rfl⟩
          have HF := hide (tmG_fill (v := v) HTM2.out hqN (by rw [HAD.out, ← hv]; rfl))
          clear hik
          go_wp2_with fail
          go_region
          all_goals
            go_wp2
            go_roundw
            case rel => exact ⟨q + 1, by omega, by go_num, tm_below (below_drew1 _) HF.out, by simp; exact HSZ2.out, (HB2'.out.setCell (p := ⟨T + 1 + k, q, none⟩) (by show T ≤ T + 1 + k; omega) _).drew⟩
            case measure => simp [intOf]; omega
        · obtain rfl : q = n := by omega
          have HTE := hide (tm_congr HTM2.out (A' := A) (fun i j hi hj => by
            unfold AfG
            by_cases e : i = k
            · subst e; simp [hj]
            · rw [if_neg e]))
          go_wp2
          go_roundw
          case rel => exact ⟨k + 1, by omega, by go_num, HTE.out, HSZ2.out, HB2'.out⟩
          case measure => simp [intOf]; omega
    · obtain rfl : k = n := by omega
      go_wp2
      go_ret
      exact ⟨A, T, HCL.out, rfl, HTM.out, HWT.out, HB2.out.trans (HB.out.mono HWT.out)⟩
end Go.Proofs.Ythkollnlmnbidaa.A
