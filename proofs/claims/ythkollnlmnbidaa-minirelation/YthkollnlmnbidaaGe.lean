/- What a state does, in memory: classOf, deedsOf. -/
import Derived.Test.YthkollnlmnbidaaGd
import Derived.Test.YthkollnlmnbidaaBe
import Derived.Deep.WholeRow
import Derived.Deep.MidRow
import Derived.Laws.Tables
import Derived.Laws.Rows
import Derived.Laws.CopyOwn
namespace Go.Proofs.Ythkollnlmnbidaa.A
open Go.RowKit
set_option linter.unusedVariables false

/-- Numbers as cells. -/
def rowI (n : Nat) (g : Nat → Int) : Array Value := ((List.range n).map fun (j : Nat) => Value.int .i64 (g j)).toArray
theorem rowI_size (n : Nat) (g : Nat → Int) : (rowI n g).size = n := by simp [rowI]
theorem rowI_at {n : Nat} (g : Nat → Int) {j : Nat} (h : j < n) : (rowI n g)[j]? = some (.int .i64 (g j)) := by simp [rowI, h]
theorem rowI_congr {n : Nat} {g h : Nat → Int} (e : ∀ j, j < n → g j = h j) : rowI n g = rowI n h := by
  unfold rowI
  congr 1
  refine List.map_congr_left fun j hj => ?_
  rw [e j (by simpa using hj)]
theorem rowI_set {n : Nat} (g : Nat → Int) {j : Nat} (v : Int) (h : j < n) : (rowI n g).setIfInBounds j (.int .i64 v) = rowI n (fun i => if i = j then v else g i) := by
  apply Array.ext_getElem?
  intro i
  by_cases hi : i < n
  · rw [rowI_at _ hi]
    by_cases e : i = j
    · subst e; simp [rowI_size, h]
    · rw [Array.getElem?_setIfInBounds, if_neg (fun q => e q.symm), rowI_at _ hi, if_neg e]
  · rw [Array.getElem?_eq_none (by simp [rowI_size]; omega), Array.getElem?_eq_none (by simp [rowI_size]; omega)]
theorem rowI_zero (n : Nat) : madeCells #[.int .i64 0] n = rowI n (fun _ => 0) := by
  apply Array.ext_getElem?
  intro i
  by_cases hi : i < n
  · rw [rowI_at _ hi]; simp [madeCells, hi, Nat.mod_one]
  · rw [Array.getElem?_eq_none (by simp [madeCells]; omega), Array.getElem?_eq_none (by simp [rowI_size]; omega)]
theorem rowI_rep (n : Nat) : Array.replicate n (.int .i64 0) = rowI n (fun _ => 0) := by
  apply Array.ext_getElem?
  intro i
  by_cases hi : i < n
  · rw [rowI_at _ hi]; simp [hi]
  · rw [Array.getElem?_eq_none (by simp; omega), Array.getElem?_eq_none (by simp [rowI_size]; omega)]
theorem rowI_one (n : Nat) (g : Nat → Int) : (rowI n g).all (·.oneCell') = true := by
  rw [Array.all_eq_true_iff_forall_mem]
  intro v hv
  simp only [rowI, List.mem_toArray, List.mem_map] at hv
  obtain ⟨j, _, rfl⟩ := hv
  rfl
theorem rowI_list {n : Nat} {l : List Int} (h : l.length = n) : rowI n (fnL l) = (cI l).toArray := by
  apply Array.ext_getElem?
  intro i
  by_cases hi : i < n
  · rw [rowI_at _ hi]
    simp [fnL, cI, List.getD_eq_getElem?_getD, hi, h]
  · rw [Array.getElem?_eq_none (by simp [rowI_size]; omega), Array.getElem?_eq_none (by simp [cI, h]; omega)]
theorem makeI (n : Nat) (hn : n ≤ 10000) (w : World) : (Instr.makeSlice 23 (.int .i64 (n : Int)) (.int .i64 (n : Int))).run Try.prog w = .ok (.slice (some ⟨w.heap.size, 0, none⟩) n n) (w.alloc (.cells (rowI n fun _ => 0) 3)) := by
  have := run_make_row' (P := Try.prog) 23 3 (.int .i64 0) 8 Try.underlying23 info3 rfl .i64 .i64 n (by omega) (by omega) w
  rw [rowI_zero] at this
  exact this
/-- A row of numbers. -/
def Ik (w : World) (B n : Nat) (g : Nat → Int) : Prop := w.heap[B]? = some (.cells (rowI n g) 3 (0, 0))
theorem ik_congr {w : World} {B n : Nat} {g h : Nat → Int} (d : Ik w B n g) (e : ∀ j, j < n → g j = h j) : Ik w B n h := by unfold Ik at d ⊢; rw [← rowI_congr e]; exact d
theorem ik_cell {w : World} {B n : Nat} {g : Nat → Int} (d : Ik w B n g) {j : Nat} (hj : j < n) : w.cell? ⟨B, j, none⟩ = some (.int .i64 (g j)) ∧ w.frozen? ⟨B, j, none⟩ = false := by
  constructor
  · rw [cell_of_row _ _ j _ _ _ d, rowI_at _ hj]
  · simp [World.frozen?, show w.heap[B]? = _ from d]
theorem ik_set {w : World} {B n : Nat} {g : Nat → Int} (d : Ik w B n g) {j : Nat} (hj : j < n) (v : Int) : Ik (w.setCell ⟨B, j, none⟩ (.int .i64 v)) B n (fun i => if i = j then v else g i) := by
  unfold Ik at d ⊢
  rw [setCell_eq_setRow _ _ _ _ _ _ _ d, setRow_heap _ _ _ _ _ _ d, rowI_set _ _ hj]
theorem ik_lt {w : World} {B n : Nat} {g : Nat → Int} (d : Ik w B n g) : B < w.heap.size := (Array.getElem?_eq_some_iff.1 d).1
theorem ik_below {w w' : World} {B F n : Nat} {g : Nat → Int} (hF : F < B) (hb : Below B w w') (d : Ik w F n g) : Ik w' F n g := (hb.block F hF).trans d
theorem ik_old {w w' : World} {F n : Nat} {g : Nat → Int} (hb : Below w.heap.size w w') (d : Ik w F n g) : Ik w' F n g := ik_below (ik_lt d) hb d
theorem ik_new (w : World) (n : Nat) (g : Nat → Int) : Ik (w.alloc (.cells (rowI n g) 3)) w.heap.size n g := heap_alloc_last w _
theorem ik_other {w : World} {C n : Nat} {g : Nat → Int} (d : Ik w C n g) {B : Nat} (h : C ≠ B) (p : Nat) (v : Value) : Ik (w.setCell ⟨B, p, none⟩ v) C n g := (Below.heap_setCell _ _ _ _ h).trans d

set_option maxHeartbeats 800000 in
theorem classOf_any (B n : Nat) (cl : Nat → Int) (z : Int) (w : World) (hc : Ik w B n cl) (h1 : -1 ≤ z) (h2 : z < (n : Int)) :
    Calls Try.prog 39 #[.slice (some ⟨B, 0, none⟩) n n, .int .i64 z] w fun e w' => e = .returned (.int .i64 (cF cl z)) ∧ w' = w := by
  by_cases c : z = -1
  · subst c
    go_enter Try.func39, Try.ntmps39
    go_wp2
    go_ret
    exact ⟨rfl, rfl⟩
  · obtain ⟨t, rfl⟩ : ∃ t : Nat, z = t := ⟨z.toNat, by omega⟩
    have HE := hide (cF_at cl t)
    obtain ⟨k0, k1⟩ := ik_cell hc (show t < n by omega)
    have d1 : ((t : Int) == -1) = false := by simp
    have i3 : (0 : Int) ≤ (t : Int) := by omega
    clear hc
    go_enter Try.func39, Try.ntmps39
    go_wp2
    go_ret
    exact ⟨by rw [HE.out]; rfl, rfl⟩

theorem zero58 : (Try.prog.info? 58).map (fun i => (i.zero, i.size)) = some (some (.agg (Array.replicate 17 (.int .i64 0))), 17) := by kernel_rfl
/-- The two arrays of deeds that are being filled. -/
def Fl (A B : Nat) (wr : World) (g : Nat → Int) : Prop := wr.heap[A]? = some (.cells (rowI 17 fun _ => 0) 58 (0, 0)) ∧ wr.heap[B]? = some (.cells (rowI 17 g) 58 (0, 0)) ∧ A ≠ B
theorem fl_cell {A B : Nat} {wr : World} {g : Nat → Int} (h : Fl A B wr g) {j : Nat} (hj : j < 17) : wr.cell? ⟨B, j, none⟩ = some (.int .i64 (g j)) ∧ wr.frozen? ⟨B, j, none⟩ = false := by
  constructor
  · rw [cell_of_row _ _ j _ _ _ h.2.1, rowI_at _ hj]
  · simp [World.frozen?, h.2.1]
theorem fl_set {A B : Nat} {wr : World} {g : Nat → Int} (h : Fl A B wr g) {j : Nat} (hj : j < 17) (v : Int) : Fl A B (wr.setCell ⟨B, j, none⟩ (.int .i64 v)) (fun i => if i = j then v else g i) := by
  refine ⟨?_, ?_, h.2.2⟩
  · rw [Below.heap_setCell _ _ _ _ h.2.2]; exact h.1
  · rw [setCell_eq_setRow _ _ _ _ _ _ _ h.2.1, setRow_heap _ _ _ _ _ _ h.2.1, rowI_set _ _ hj]
theorem fl_congr {A B : Nat} {wr : World} {g h : Nat → Int} (hf : Fl A B wr g) (e : ∀ j, j < 17 → g j = h j) : Fl A B wr h := ⟨hf.1, by rw [← rowI_congr e]; exact hf.2.1, hf.2.2⟩
theorem fl_start (w : World) : Fl w.heap.size (w.heap.size + 1) ((w.alloc (.cells (rowI 17 fun _ => 0) 58)).alloc (.cells (rowI 17 fun _ => 0) 58)) (fun _ => 0) := by
  have e : (w.alloc (.cells (rowI 17 fun _ => 0) 58)).heap.size = w.heap.size + 1 := by simp
  refine ⟨?_, ?_, by omega⟩
  · rw [Below.heap_alloc _ _ _ (by simp)]; exact heap_alloc_last w _
  · rw [← e]; exact heap_alloc_last _ _

attribute [local go_sem ↓] wp_load63s
set_option maxRecDepth 100000 in
set_option maxHeartbeats 3200000 in
theorem deeds_any (a0 a1 : Option Addr) (n c0 c1 C i : Nat) (nx : List (List Int)) (ru : List Int) (cl : Nat → Int) (w : World) (hx : Mx nx ru n) (hm : Dm w a0 a1 n n nx ru) (hc : Ik w C n cl) (hi : i < n) :
    Calls Try.prog 35 #[.agg #[.slice a0 n c0, .slice a1 n c1], .slice (some ⟨C, 0, none⟩) n n, .int .i64 (i : Int)] w fun e w' => e = .returned (.agg (cI (ddF nx ru cl i)).toArray) ∧ Below w.heap.size w w' := by
  obtain ⟨hv58, hi58⟩ := zero_of_info zero58
  rw [rowI_rep] at hv58
  have hb0 := (Below.refl w.heap.size w).alloc (Nat.le_refl _) (.cells #[.slice a0 n c0, .slice a1 n c1] 25)
  have HBX := hide (heap_alloc_last w (.cells #[.slice a0 n c0, .slice a1 n c1] 25))
  have HS := hide (show (w.alloc (.cells #[.slice a0 n c0, .slice a1 n c1] 25)).heap.size = w.heap.size + 1 by simp)
  have HB0 := hide hb0
  have HM := hide (dm_below' hb0 hm)
  have HC := hide (ik_old hb0 hc)
  have HX := hide hx
  have HI := hide hi58
  have hFL := fl_start (w.alloc (.cells #[.slice a0 n c0, .slice a1 n c1] 25))
  have hB2 := ((Below.refl (w.heap.size + 1) (w.alloc (.cells #[.slice a0 n c0, .slice a1 n c1] 25))).alloc (by simp) (.cells (rowI 17 fun _ => 0) 58)).alloc (by simp) (.cells (rowI 17 fun _ => 0) 58)
  rw [HS.out] at hFL
  have HFL := hide hFL
  have HB2 := hide hB2
  have HXX := hide (show ∀ wr, Below (w.heap.size + 1) (w.alloc (.cells #[.slice a0 n c0, .slice a1 n c1] 25)) wr → wr.heap[w.heap.size]? = some (.cells #[.slice a0 n c0, .slice a1 n c1] 25 (0, 0)) ∧ Dm wr a0 a1 n n nx ru ∧ Ik wr C n cl from fun wr hb =>
    ⟨(hb.block w.heap.size (by omega)).trans HBX.out, dm_below' (by rw [HS.out]; exact hb) HM.out, ik_old (by rw [HS.out]; exact hb) HC.out⟩)
  obtain ⟨row, hrow⟩ : ∃ row, nx[i]? = some row := ⟨_, List.getElem?_eq_getElem (by rw [hx.ln]; exact hi)⟩
  have HROW := hide hrow
  have hl16 : (cI row).length = 16 := by rw [cI_len]; exact hx.row row (List.mem_of_getElem? hrow)
  have i1 : (0 : Int) ≤ (i : Int) := by omega
  have i2 : (i : Int) < (n : Int) := by omega
  clear hb0 hm hc hx hi58 hFL hB2 hrow
  go_enter Try.func35, Try.ntmps35
  go_upto_region 2 with fail
  generalize w.alloc (.cells #[.slice a0 n c0, .slice a1 n c1] 25) = W1 at *
  generalize (W1.alloc (.cells (rowI 17 fun _ => 0) 58)).alloc (.cells (rowI 17 fun _ => 0) 58) = W3 at *
  obtain ⟨hX, hDm, -⟩ := HXX.out W3 HB2.out
  obtain ⟨p0, p1, -⟩ := d_cells hX
  obtain ⟨-, b, off, rfl, hrg⟩ := hDm.dr i row HROW.out
  obtain ⟨hrv, hro⟩ := rowM_at hrg hl16
  clear hX hDm hrg
  go_wp2_with fail
  clear hrv hro p0 p1
  generalize hA : w.heap.size + 1 = A at *
  go_loopw [8, 9, 15] (fun _ _ u wr => ∃ k : Nat, k ≤ 16 ∧ u = .int .i64 k ∧ Fl A (A + 1) wr (fun j => if j < k then cF cl (stepF nx i j) else 0) ∧ Below A W1 wr) (fun _ _ u _ => 16 - (intOf u).toNat)
  case atStart => exact ⟨0, by omega, rfl, fl_congr HFL.out (fun j _ => by simp), HB2.out⟩
  case round =>
    obtain ⟨k, hk, rfl, hfl, hb⟩ := hrel
    have HFL2 := hide hfl
    have HBW := hide hb
    clear hfl hb HFL HB2
    obtain ⟨hX, hDm, hCk⟩ := HXX.out wr HBW.out
    by_cases hlt : k < 16
    · obtain ⟨row', z, hr', -, hz, hz1, hz2, hst⟩ := mx_next HX.out hi hlt
      have hrr : row' = row := by rw [HROW.out] at hr'; exact (Option.some.inj hr').symm
      subst hrr
      have hcz : (cI row')[k]? = some (.int .i64 z) := by simp [cI, hz]
      have hcz2 : (cI row')[k]'(by omega) = .int .i64 z := by
        have := List.getElem?_eq_getElem (l := cI row') (i := k) (by omega)
        rw [hcz] at this; exact (Option.some.inj this).symm
      have hrx := fun w => run_index63 w (cI row') k z hlt hcz
      have HST := hide hst
      have HCK := hide hCk
      have i5 : (0 : Int) ≤ (k : Int) := by omega
      have i6 : (k : Int) < 16 := by omega
      have i7 : (k : Int) < 17 := by omega
      obtain ⟨f0, f1⟩ := fl_cell HFL2.out (show k < 17 by omega)
      clear hr' hz hst hX hDm hCk
      go_wp2_with fail
      refine (classOf_any C n cl z wr HCK.out hz1 hz2).mono ?_
      rintro e w2 ⟨rfl, hw2⟩
      rw [hw2]
      clear hw2
      have HF3 := hide (fl_congr (fl_set HFL2.out (show k < 17 by omega) (cF cl z)) (h := fun j => if j < k + 1 then cF cl (stepF nx i j) else 0) (fun j hj => by
        rw [← HST.out]
        by_cases e : j = k
        · subst e; simp
        · by_cases e2 : j < k
          · simp [e, e2, show j < k + 1 by omega]
          · simp [e, e2, show ¬ j < k + 1 by omega]))
      have HB3 := hide (HBW.out.setCell (p := ⟨A + 1, k, none⟩) (Nat.le_succ A) (.int .i64 (cF cl z)))
      go_wp2
      go_roundw
      case rel => exact ⟨k + 1, by omega, by go_num, HF3.out, HB3.out⟩
      case measure => simp [intOf]; omega
    · obtain rfl : k = 16 := by omega
      obtain ⟨p0, p1, -⟩ := d_cells hX
      obtain ⟨r, hr, -, -, -⟩ := mx_rule HX.out hi
      obtain ⟨b2, o2, rfl, k2⟩ := hDm.wd i r hr
      obtain ⟨f0, f1⟩ := fl_cell HFL2.out (show 16 < 17 by omega)
      have HF3 := hide (fl_congr (fl_set HFL2.out (show 16 < 17 by omega) r) (h := fnL (ddF nx ru cl i)) (fun j hj => by
        unfold fnL
        rw [List.getD_eq_getElem?_getD]
        by_cases e : j = 16
        · subst e; rw [dd_last, List.getD_eq_getElem?_getD, hr]; rfl
        · rw [dd_at nx ru cl i j (by omega)]; simp [e, show j < 16 by omega]))
      have HB3 := hide (HBW.out.setCell (p := ⟨A + 1, 16, none⟩) (Nat.le_succ A) (.int .i64 r))
      clear hX hDm hCk hr
      go_upto_region 8 with fail
      generalize wr.setCell ⟨A + 1, 16, none⟩ (.int .i64 r) = wF at *
      go_wp2_with (first
        | refine wpList_load_row rfl 58 _ rfl (A + 1) rfl 58 _ (0, 0) _ HF3.out.2.1 Try.underlying58 rfl (by rw [rowI_size]; exact HI.out) ?_
        | refine wpList_store_row rfl 58 _ _ rfl A _ rfl rfl 58 _ HF3.out.1 (by rw [rowI_size]; exact HI.out) (by rw [rowI_size, rowI_size]) (rowI_one _ _) ?_)
      refine bodyPost_ret (results_cell_row rfl _ _ A 58 (rowI 17 (fnL (ddF nx ru cl i))) (0, 0) _ rfl (setRow_heap _ _ _ _ _ _ HF3.out.1) Try.underlying58 rfl (by rw [rowI_size]; exact HI.out)) rfl ?_
      exact ⟨by rw [rowI_list (dd_len nx ru cl i)], below_setRow (HB0.out.trans (HB3.out.mono (by omega))) (by omega) _⟩
end Go.Proofs.Ythkollnlmnbidaa.A
