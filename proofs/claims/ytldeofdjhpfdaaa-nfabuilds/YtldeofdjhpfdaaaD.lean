/- The document's Right, Same. -/
import Derived.Test.YtldeofdjhpfdaaaP
import Derived.Deep.RegionHeld3
namespace Go.Proofs.Ytldeofdjhpfdaaa.A
open Go.RowKit

theorem rx_form {w : World} {n : Nat} {t : Ex n} {v : Value} (h : Rx w n t v) : ∃ c0 c1 c2, v = .agg #[c0, c1, c2] := by
  cases n with
  | zero => exact h.elim
  | succ n => obtain ⟨a, len, cap, e, _⟩ := h; exact ⟨_, _, _, e⟩

set_option maxHeartbeats 800000 in
theorem rright_any (n : Nat) (t : Ex n) (v : Value) (w : World) (hn : n ≤ 1000) (h : Rx w n t v) :
    Calls Try.prog 31 #[v] w fun e w' => e = .returned (.bool (rightE n t)) ∧ Below w.heap.size w w' := by
  obtain ⟨c0, c1, c2, rfl⟩ := rx_form h
  have HX := hide h
  have HB0 := hide ((Below.refl w.heap.size w).alloc (Nat.le_refl _) (.cells #[c0, c1, c2] 51))
  have HP := hide (box3 w c0 c1 c2 51)
  have HE := hide (show rightE n t = (decide (deepE n t 12 ≤ 12) && (decide (nodesE n t ≤ 100) && shapesE n t)) from rfl)
  have hd0 := deep_le n t 12
  have hn0 := nodes_le n t
  clear h
  go_enter Try.func31, Try.ntmps31
  obtain ⟨p0, p1, p2⟩ := HP.out
  go_wp2_with fail
  refine (rdeep_any n t _ 12 _ (by omega) (rx_below HB0.out n t _ HX.out)).mono ?_
  rintro e w1 ⟨rfl, hb1⟩
  have HB1 := hide (HB0.out.trans (hb1.mono HB0.out.size))
  have r0 := (hb1.cell (p := ⟨w.heap.size, 0, none⟩) (cell_lt p0)).trans p0
  have r1 := (hb1.cell (p := ⟨w.heap.size, 1, none⟩) (cell_lt p1)).trans p1
  have r2 := (hb1.cell (p := ⟨w.heap.size, 2, none⟩) (cell_lt p2)).trans p2
  clear p0 p1 p2 hb1 HP
  generalize deepE n t 12 = dd at *
  by_cases hd : dd ≤ 12
  · have hd' : decide ((dd : Int) ≤ 12) = true := by simp; omega
    go_wp2_with fail
    refine (rnodes_any n t _ _ hn (rx_below HB1.out n t _ HX.out)).mono ?_
    rintro e w2 ⟨rfl, hb2⟩
    have HB2 := hide (HB1.out.trans (hb2.mono HB1.out.size))
    have s0 := (hb2.cell (p := ⟨w.heap.size, 0, none⟩) (cell_lt r0)).trans r0
    have s1 := (hb2.cell (p := ⟨w.heap.size, 1, none⟩) (cell_lt r1)).trans r1
    have s2 := (hb2.cell (p := ⟨w.heap.size, 2, none⟩) (cell_lt r2)).trans r2
    clear r0 r1 r2 hb2
    generalize nodesE n t = nn at *
    by_cases hnn : nn ≤ 100
    · have hnn' : decide ((nn : Int) ≤ 100) = true := by simp; omega
      go_wp2_with fail
      refine (rshapes_any n t _ _ (rx_below HB2.out n t _ HX.out)).mono ?_
      rintro e w3 ⟨rfl, hb3⟩
      have HB3 := hide (HB2.out.trans (hb3.mono HB2.out.size))
      clear hb3
      go_wp2
      go_ret
      exact ⟨ret_bool (by rw [HE.out]; simp [hd, hnn]), HB3.out⟩
    · have hnn' : decide ((nn : Int) ≤ 100) = false := by simp; omega
      go_wp2
      go_ret
      exact ⟨ret_bool (by rw [HE.out]; simp [hd, hnn]), HB2.out⟩
  · have hd' : decide ((dd : Int) ≤ 12) = false := by simp; omega
    go_wp2
    go_ret
    exact ⟨ret_bool (by rw [HE.out]; simp [hd]), HB1.out⟩
end Go.Proofs.Ytldeofdjhpfdaaa.A
