/- The document's same: are two tables of states alike? -/
import Derived.Test.YtccaknabpnpjaaaGreatDoorPk16
import Derived.BigQuiet
namespace Go.Proofs.YtccaknabpnpjaaaGreatDoor.A
open Go.RowKit
set_option linter.unusedVariables false

/-- Are the first k marks alike? -/
def eqB (g h : Nat → Bool) (k : Nat) : Bool := (List.range k).all fun j => g j == h j
theorem eqB_step (g h : Nat → Bool) (k : Nat) : eqB g h (k + 1) = (eqB g h k && (g k == h k)) := by simp [eqB, List.range_succ]
theorem eqB_no {g h : Nat → Bool} {k N : Nat} (hk : k < N) (hne : g k ≠ h k) : eqB g h N = false := by
  unfold eqB
  rw [List.all_eq_false]
  exact ⟨k, List.mem_range.2 hk, by simpa using hne⟩
theorem eqB_lst (g h : Nat → Bool) (N : Nat) : eqB g h N = decide (lstL g N = lstL h N) := by
  rw [Bool.eq_iff_iff, decide_eq_true_iff]
  unfold eqB
  rw [List.all_eq_true]
  constructor
  · intro e
    exact lst_congr fun j hj => by simpa using e j (List.mem_range.2 hj)
  · intro e j hj
    have hj' := List.mem_range.1 hj
    have h1 := lst_mem g N (j : Int)
    have h2 := lst_mem h N (j : Int)
    rw [e] at h1
    have h3 : g j = true ↔ h j = true := by
      constructor
      · intro q
        obtain ⟨i, e1, _, e2⟩ := h2.1 (h1.2 ⟨j, rfl, hj', q⟩)
        obtain rfl : j = i := by omega
        exact e2
      · intro q
        obtain ⟨i, e1, _, e2⟩ := h1.1 (h2.2 ⟨j, rfl, hj', q⟩)
        obtain rfl : j = i := by omega
        exact e2
    rw [beq_iff_eq, Bool.eq_iff_iff]
    exact h3

set_option maxRecDepth 100000 in
set_option maxHeartbeats 1600000 in
theorem dsame_any (N F1 F2 : Nat) (g h : Nat → Bool) (w : World) (hN : N ≤ 10000) (h1 : Mk w F1 N g) (h2 : Mk w F2 N h) :
    Calls Tryz.prog 28 #[.slice (some ⟨F1, 0, none⟩) N N, .slice (some ⟨F2, 0, none⟩) N N] w fun e w' => e = .returned (.bool (eqB g h N)) ∧ Below w.heap.size w w' := by
  have H1 := hide h1
  have H2 := hide h2
  have L1 := mk_lt h1
  have L2 := mk_lt h2
  clear h1 h2
  go_enter Tryz.func28, Tryz.ntmps28
  go_wp2_with fail
  go_loopw [5] (fun i wr => ∃ k : Nat, k ≤ N ∧ i = .int .i64 k ∧ eqB g h k = true ∧ Below w.heap.size w wr) (fun i _ => N - (intOf i).toNat)
  case atStart => exact ⟨0, Nat.zero_le _, rfl, rfl, Below.refl _ _⟩
  case round =>
    obtain ⟨k, hk, rfl, he, hb⟩ := hrel
    have HE := hide he
    clear he
    by_cases hlt : k < N
    · obtain ⟨f0, _⟩ := mk_cell (mk_below L1 hb H1.out) hlt
      obtain ⟨g0, _⟩ := mk_cell (mk_below L2 hb H2.out) hlt
      have i1 : (0 : Int) ≤ (k : Int) := by omega
      have i2 : (k : Int) < (N : Int) := by omega
      by_cases c : g k = h k
      · have HS := hide (show eqB g h (k + 1) = true by rw [eqB_step, HE.out, c]; simp)
        rw [c] at f0
        have hne : (h k == h k) = true := by simp
        clear c
        generalize h k = y at *
        go_wp2_with fail
        go_quiet (fail)
        go_wp2
        go_roundw
        case rel => exact ⟨k + 1, by omega, by go_num, HS.out, below_drewN hb _⟩
        case measure => simp [intOf]; omega
      · have HS := hide (eqB_no hlt c)
        have hne : (g k == h k) = false := by simpa using c
        clear c
        generalize g k = x at *
        generalize h k = y at *
        go_wp2_with fail
        go_quiet (fail)
        go_wp2
        go_ret
        exact ⟨by rw [HS.out]; rfl, below_drewN hb _⟩
    · have e : k = N := by omega
      subst e
      go_wp2
      go_ret
      exact ⟨by rw [HE.out]; rfl, hb⟩
end Go.Proofs.YtccaknabpnpjaaaGreatDoor.A
