/- What is put, as bytes that stand in memory. -/
import Derived.Test.YtpniapegamobmaaG
namespace Go.Proofs.Ytpniapegamobmaa.A
open Go.RowKit

/-- The low s bytes of a number, the highest one first. -/
def putL (n : Int) (s : Nat) : List Int := (List.range s).map fun i => lowB n (s - 1 - i)
theorem putL_len (n : Int) (s : Nat) : (putL n s).length = s := by simp [putL]
theorem putL_get (n : Int) (s i : Nat) (h : i < s) : (putL n s).getD i 0 = lowB n (s - 1 - i) := by
  simp [putL, List.getD_eq_getElem?_getD, h]
theorem putL_byt (n : Int) (s : Nat) : Byt (putL n s) := by
  intro i
  by_cases h : i < s
  · rw [putL_get n s i h]; exact lowB_byte n _
  · rw [getD_past _ _ (by rw [putL_len]; omega)]; omega
theorem seg_put {w : World} {b s : Nat} {n : Int} (h : w.rowIs b 5 s (fun i => .int .u8 (lowB n (s - 1 - i)))) : Seg w (some ⟨b, 0, none⟩) s (putL n s) := by
  refine ⟨putL_len n s, putL_byt n s, .inr ⟨b, 0, rfl, fun i hi => ?_⟩⟩
  rw [Nat.zero_add, putL_get n s i hi]
  exact h.cell hi
theorem numAt_put4 (n : Int) : numAt (putL n 4) 0 4 = n % 4294967296 := by
  have e : putL n 4 = [lowB n 3, lowB n 2, lowB n 1, lowB n 0] := rfl
  have e2 : numAt (putL n 4) 0 4 = num [lowB n 3, lowB n 2, lowB n 1, lowB n 0] := by rw [e]; rfl
  rw [e2]
  simp [num, lowB]
  omega
theorem numAt_put2 (n : Int) : numAt (putL n 2) 0 2 = n % 65536 := by
  have e : putL n 2 = [lowB n 1, lowB n 0] := rfl
  have e2 : numAt (putL n 2) 0 2 = num [lowB n 1, lowB n 0] := by rw [e]; rfl
  rw [e2]
  simp [num, lowB]
  omega
theorem wrap_mod (n : Int) : wrap32 (n % 4294967296) = wrap32 n := by unfold wrap32; omega
theorem sg_mod (n : Int) : sg (n % 65536) = wrap64 (IntKind.i16.wrap n) := by
  rw [wrap_i16]
  unfold sg wrap64
  split <;> omega
theorem assoc (a b c : Int) : wrap32 (a + wrap32 (b + c)) = wrap32 (wrap32 (a + b) + c) := by unfold wrap32; omega
end Go.Proofs.Ytpniapegamobmaa.A
