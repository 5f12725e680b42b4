/- Contracts of the integer functions of octet and of the document's answer. -/
import Derived.Test.YtpniapegamobmaaRows
import Derived.WalkKit
import Derived.ProofKit
import Derived.Outline
namespace Go.Proofs.Ytpniapegamobmaa.A
open Go.RowKit

theorem ret_int {k : IntKind} {a b : Int} (h : a = b) : Ending.returned (.int k a) = .returned (.int k b) := by rw [h]
theorem ret_bool {a b : Bool} (h : a = b) : Ending.returned (.bool a) = .returned (.bool b) := by rw [h]

theorem w64_32 (n : Int) : wrap64 (wrap32 n) = wrap32 n := by unfold wrap64 wrap32; omega
theorem tmod_neg (n m : Int) (h : n.tmod m < 0) : n < 0 := by
  by_cases c : n < 0
  · exact c
  · have := Int.tmod_nonneg (a := n) m (by omega); omega
theorem tmod_form (n m : Int) : (0 ≤ n ∧ n.tmod m = n % m) ∨ (n < 0 ∧ n.tmod m = - ((-n) % m)) := by
  by_cases c : 0 ≤ n
  · exact .inl ⟨c, Int.tmod_eq_emod_of_nonneg c⟩
  · refine .inr ⟨by omega, ?_⟩
    have := Int.neg_tmod (a := -n) (b := m)
    rw [Int.neg_neg] at this
    rw [this, Int.tmod_eq_emod_of_nonneg (by omega)]

set_option maxHeartbeats 400000 in
theorem wrap_any (n : Int) (w : World) :
    Calls Try.prog 9 #[.int .i64 n] w fun e w' => e = .returned (.int .i64 (wrap32 n)) ∧ w' = w := by
  go_enter Try.func9, Try.ntmps9
  go_wp2
  go_ret
  exact ⟨ret_int (w64_32 n), rfl⟩

set_option maxHeartbeats 400000 in
theorem rwrap_any (n : Int) (w : World) :
    Calls Try.prog 10 #[.int .i64 n] w fun e w' => e = .returned (.int .i64 (wrap32 n)) ∧ w' = w := by
  go_enter Try.func10, Try.ntmps10
  go_wp2
  all_goals go_ret
  all_goals refine ⟨ret_int ?_, rfl⟩
  all_goals
    have key := tmod_form n 4294967296
    simp only [wrap32, wrap64] at *
    omega

set_option maxHeartbeats 400000 in
theorem add_any (a b : Int) (w : World) :
    Calls Try.prog 11 #[.int .i64 a, .int .i64 b] w fun e w' => e = .returned (.int .i64 (wrap32 (a + b))) ∧ w' = w := by
  have hh : wrap32 (wrap64 (a + b)) = wrap32 (a + b) := by unfold wrap32 wrap64; omega
  have HH : Hid (wrap32 (wrap64 (a + b)) = wrap32 (a + b)) := hh
  clear hh
  go_enter Try.func11, Try.ntmps11
  go_wp2_with (go_at_call 9; refine (wrap_any _ _).mono ?_; rintro e w' ⟨rfl, rfl⟩)
  go_ret
  exact ⟨ret_int HH.out, rfl⟩

set_option maxHeartbeats 400000 in
theorem radd_any (a b : Int) (w : World) :
    Calls Try.prog 12 #[.int .i64 a, .int .i64 b] w fun e w' => e = .returned (.int .i64 (wrap32 (a + b))) ∧ w' = w := by
  have hh : wrap32 (wrap64 (wrap32 a + wrap32 b)) = wrap32 (a + b) := by unfold wrap32 wrap64; omega
  have HH : Hid (wrap32 (wrap64 (wrap32 a + wrap32 b)) = wrap32 (a + b)) := hh
  clear hh
  go_enter Try.func12, Try.ntmps12
  go_wp2_with (go_at_call 10; refine (rwrap_any _ _).mono ?_; rintro e w' ⟨rfl, rfl⟩)
  go_ret
  exact ⟨ret_int HH.out, rfl⟩

/-- Is a place of n bytes from a on within 'len' bytes? -/
def inB (len : Nat) (a n : Int) : Bool := decide (0 ≤ a ∧ 0 ≤ n ∧ a + n ≤ (len : Int))

set_option maxHeartbeats 400000 in
theorem within_any (x : Option Addr) (len cap : Nat) (a n : Int) (w : World) (hl : len ≤ maxLen) (h1 : n ≤ 9223372036854775807) :
    Calls Try.prog 15 #[.slice x len cap, .int .i64 a, .int .i64 n] w fun e w' => e = .returned (.bool (inB len a n)) ∧ w' = w := by
  unfold maxLen at hl
  by_cases c0 : 0 ≤ a
  · by_cases c1 : 0 ≤ n
    · go_enter Try.func15, Try.ntmps15
      go_wp2
      go_ret
      refine ⟨ret_bool ?_, rfl⟩
      unfold inB
      rw [decide_eq_decide]
      omega
    · go_enter Try.func15, Try.ntmps15
      go_wp2
      go_ret
      refine ⟨ret_bool ?_, rfl⟩
      unfold inB
      symm; rw [decide_eq_false_iff_not]; omega
  · go_enter Try.func15, Try.ntmps15
    go_wp2
    go_ret
    refine ⟨ret_bool ?_, rfl⟩
    unfold inB
    symm; rw [decide_eq_false_iff_not]; omega

set_option maxHeartbeats 400000 in
theorem rwithin_any (len : Nat) (a n : Int) (w : World) (hl : len ≤ maxLen) :
    Calls Try.prog 16 #[.int .i64 len, .int .i64 a, .int .i64 n] w fun e w' => e = .returned (.bool (inB len a n)) ∧ w' = w := by
  unfold maxLen at hl
  by_cases c0 : 0 ≤ a
  · by_cases c1 : 0 ≤ n
    · by_cases c2 : a ≤ (len : Int)
      · go_enter Try.func16, Try.ntmps16
        go_wp2
        go_ret
        refine ⟨ret_bool ?_, rfl⟩
        unfold inB
        rw [decide_eq_decide]
        omega
      · go_enter Try.func16, Try.ntmps16
        go_wp2
        go_ret
        refine ⟨ret_bool ?_, rfl⟩
        unfold inB
        symm; rw [decide_eq_false_iff_not]; omega
    · go_enter Try.func16, Try.ntmps16
      go_wp2
      go_ret
      refine ⟨ret_bool ?_, rfl⟩
      unfold inB
      symm; rw [decide_eq_false_iff_not]; omega
  · go_enter Try.func16, Try.ntmps16
    go_wp2
    go_ret
    refine ⟨ret_bool ?_, rfl⟩
    unfold inB
    symm; rw [decide_eq_false_iff_not]; omega

end Go.Proofs.Ytpniapegamobmaa.A
