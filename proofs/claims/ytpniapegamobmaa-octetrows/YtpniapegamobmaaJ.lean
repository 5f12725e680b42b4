/- The parts of numbers. -/
import Derived.Test.YtpniapegamobmaaI
namespace Go.Proofs.Ytpniapegamobmaa.A
open Go.RowKit

theorem numAt_nat (zs : List Int) (q m : Nat) (h : q + m ≤ zs.length) : numAt zs (q : Int) (m : Int) = num ((zs.drop q).take m) := by
  have e : inB zs.length (q : Int) (m : Int) = true := by unfold inB; rw [decide_eq_true_iff]; omega
  unfold numAt
  rw [e]
  simp
theorem num1 (zs : List Int) (q : Nat) (h : q + 1 ≤ zs.length) : num ((zs.drop q).take 1) = zs.getD q 0 := by
  rw [num_cut zs q 0 (by omega), num_cut0]; simp
theorem num2 (zs : List Int) (q : Nat) (h : q + 2 ≤ zs.length) : num ((zs.drop q).take 2) = zs.getD q 0 * 256 + zs.getD (q + 1) 0 := by
  rw [num_cut zs q 1 (by omega), num1 zs q (by omega)]
theorem parts (zs : List Int) (p : Nat) (h : p + 4 ≤ zs.length) (hb : Byt zs) : ∃ y0 y1 y2 y3 : Int, (0 ≤ y0 ∧ y0 ≤ 255) ∧ (0 ≤ y1 ∧ y1 ≤ 255) ∧ (0 ≤ y2 ∧ y2 ≤ 255) ∧ (0 ≤ y3 ∧ y3 ≤ 255) ∧
    numAt zs (p : Int) 4 = ((y0 * 256 + y1) * 256 + y2) * 256 + y3 ∧ numAt zs (p : Int) 2 = y0 * 256 + y1 ∧ numAt zs ((p : Int) + 2) 2 = y2 * 256 + y3 ∧
    numAt zs ((p : Int) + 2) 1 = y2 ∧ numAt zs ((p : Int) + 3) 1 = y3 ∧ rowN zs p 2 0 = y0 * 256 + y1 ∧ rowN zs p 2 1 = y2 * 256 + y3 := by
  have c2 : ((p : Int) + 2) = ((p + 2 : Nat) : Int) := by omega
  have c3 : ((p : Int) + 3) = ((p + 3 : Nat) : Int) := by omega
  refine ⟨zs.getD p 0, zs.getD (p + 1) 0, zs.getD (p + 2) 0, zs.getD (p + 3) 0, hb _, hb _, hb _, hb _, ?_, ?_, ?_, ?_, ?_, ?_, ?_⟩
  · have := numAt_nat zs p 4 h
    rw [show ((4 : Nat) : Int) = 4 from rfl] at this
    rw [this, quad4 zs p h]; rfl
  · have := numAt_nat zs p 2 (by omega)
    rw [show ((2 : Nat) : Int) = 2 from rfl] at this
    rw [this, num2 zs p (by omega)]
  · have := numAt_nat zs (p + 2) 2 (by omega)
    rw [show ((2 : Nat) : Int) = 2 from rfl] at this
    rw [c2, this, num2 zs (p + 2) (by omega)]
  · have := numAt_nat zs (p + 2) 1 (by omega)
    rw [show ((1 : Nat) : Int) = 1 from rfl] at this
    rw [c2, this, num1 zs (p + 2) (by omega)]
  · have := numAt_nat zs (p + 3) 1 (by omega)
    rw [show ((1 : Nat) : Int) = 1 from rfl] at this
    rw [c3, this, num1 zs (p + 3) (by omega)]
  · unfold rowN
    rw [num2 zs (p + 0 * 2) (by omega)]
    simp
  · unfold rowN
    rw [num2 zs (p + 1 * 2) (by omega)]
end Go.Proofs.Ytpniapegamobmaa.A
