/- The program's isState, and what asks whether a list has a number that is no state. -/
import Derived.Test.YtldeofdjhpfdaaaNe
namespace Go.Proofs.Ytldeofdjhpfdaaa.A
open Go.RowKit

/-- A number that is a state, of so many. -/
def isSt (n : Nat) (z : Int) : Bool := decide (0 ≤ z) && decide (z < (n : Int))
/-- A machine's four lists in a block. -/
def Bx (w : World) (p : Nat) (x0 x1 x2 x3 : Value) : Prop := w.cell? ⟨p, 0, none⟩ = some x0 ∧ w.cell? ⟨p, 1, none⟩ = some x1 ∧ w.cell? ⟨p, 2, none⟩ = some x2 ∧ w.cell? ⟨p, 3, none⟩ = some x3
theorem bx_below {w w' : World} {B p : Nat} {x0 x1 x2 x3 : Value} (hb : Below B w w') (hp : p < B) (h : Bx w p x0 x1 x2 x3) : Bx w' p x0 x1 x2 x3 :=
  ⟨(hb.cell (p := ⟨p, 0, none⟩) hp).trans h.1, (hb.cell (p := ⟨p, 1, none⟩) hp).trans h.2.1, (hb.cell (p := ⟨p, 2, none⟩) hp).trans h.2.2.1, (hb.cell (p := ⟨p, 3, none⟩) hp).trans h.2.2.2⟩
theorem bx_new (w : World) (x0 x1 x2 x3 : Value) : Bx (w.alloc (.cells #[x0, x1, x2, x3] 29)) w.heap.size x0 x1 x2 x3 := box4 w x0 x1 x2 x3 29

set_option maxHeartbeats 800000 in
theorem isState_any (a0 : Option Addr) (n0 c0 : Nat) (x1 x2 x3 : Value) (z : Int) (w : World) :
    Calls Try.prog 37 #[.agg #[.slice a0 n0 c0, x1, x2, x3], .int .i64 z] w fun e w' => e = .returned (.bool (isSt n0 z)) ∧ Below w.heap.size w w' := by
  obtain ⟨p0, p1, p2, p3⟩ := bx_new w (.slice a0 n0 c0) x1 x2 x3
  have HB := hide ((Below.refl w.heap.size w).alloc (Nat.le_refl _) (.cells #[.slice a0 n0 c0, x1, x2, x3] 29))
  by_cases z0 : 0 ≤ z
  · have h0 : decide (0 ≤ z) = true := by simp [z0]
    by_cases z1 : z < (n0 : Int)
    · have h1 : decide (z < (n0 : Int)) = true := by simp [z1]
      have HE := hide (show isSt n0 z = true by unfold isSt; rw [h0, h1]; rfl)
      go_enter Try.func37, Try.ntmps37
      go_wp2
      go_ret
      exact ⟨by rw [HE.out]; rfl, HB.out⟩
    · have h1 : decide (z < (n0 : Int)) = false := by simp [z1]
      have HE := hide (show isSt n0 z = false by unfold isSt; rw [h0, h1]; rfl)
      go_enter Try.func37, Try.ntmps37
      go_wp2
      go_ret
      exact ⟨by rw [HE.out]; rfl, HB.out⟩
  · have h0 : decide (0 ≤ z) = false := by simp [z0]
    have HE := hide (show isSt n0 z = false by unfold isSt; rw [h0]; rfl)
    go_enter Try.func37, Try.ntmps37
    go_wp2
    go_ret
    exact ⟨by rw [HE.out]; rfl, HB.out⟩

set_option maxHeartbeats 800000 in
theorem none_any (p : Nat) (a0 : Option Addr) (n0 c0 : Nat) (x1 x2 x3 : Value) (z : Int) (w : World) (hp : Bx w p (.slice a0 n0 c0) x1 x2 x3) :
    Calls Try.prog 36 #[.int .i64 z, .pointer (some ⟨p, 0, none⟩)] w fun e w' => e = .returned (.bool (!isSt n0 z)) ∧ Below w.heap.size w w' := by
  obtain ⟨p0, p1, p2, p3⟩ := hp
  go_enter Try.func36, Try.ntmps36
  go_wp2_with fail
  refine (isState_any a0 n0 c0 x1 x2 x3 z w).mono ?_
  rintro e w1 ⟨rfl, hb⟩
  have HB := hide hb
  clear hb
  go_wp2
  go_ret
  exact ⟨rfl, HB.out⟩

set_option maxHeartbeats 1600000 in
theorem indexI_any (p : Nat) (a0 : Option Addr) (n0 c0 : Nat) (x1 x2 x3 : Value) (a : Option Addr) (len cap : Nat) (l : List Int) (w : World) (hl : len ≤ maxLen) (h6 : l.length = len) (hpl : p < w.heap.size) (hp : Bx w p (.slice a0 n0 c0) x1 x2 x3) (hW : Wd w a l) :
    Calls Try.prog 48 #[.slice a len cap, .func (.func 36) #[] #[.pointer (some ⟨p, 0, none⟩)]] w fun e w' => ∃ z : Int, e = .returned (.int .i64 z) ∧ decide (0 ≤ z) = l.any (fun z => !isSt n0 z) ∧ Below w.heap.size w w' := by
  unfold maxLen at hl
  have HW := hide hW
  have HL := hide h6
  have HP := hide hp
  clear hW h6 hp
  go_enter Try.func48, Try.ntmps48
  go_wp2_with fail
  go_loopw [5, 8] (fun _ u wr => ∃ i : Nat, i ≤ len ∧ u = .int .i64 i ∧ (l.take i).any (fun z => !isSt n0 z) = false ∧ Below w.heap.size w wr) (fun _ u _ => len - (intOf u).toNat)
  case atStart => exact ⟨0, Nat.zero_le _, rfl, rfl, Below.refl _ _⟩
  case round =>
    obtain ⟨i, hi, rfl, hd, hb⟩ := hrel
    have HD := hide hd
    have HBW := hide hb
    clear hd
    by_cases hlt : i < len
    · obtain ⟨z, hz⟩ : ∃ z, l[i]? = some z := ⟨_, List.getElem?_eq_getElem (by rw [HL.out]; exact hlt)⟩
      obtain ⟨b, off, rfl, k0⟩ := wd_below hb HW.out i z hz
      have HN := hide (show (l.take (i + 1)).any (fun z => !isSt n0 z) = !isSt n0 z from by rw [take_at hz, List.any_append, HD.out]; simp)
      have HIN := hide (show (!isSt n0 z) = true → l.any (fun z => !isSt n0 z) = true from fun g => List.any_eq_true.2 ⟨z, List.mem_of_getElem? hz, g⟩)
      have i3 : (0 : Int) ≤ (i : Int) := by omega
      have i4 : (i : Int) < (len : Int) := by omega
      clear hz hb
      go_wp2_with fail
      refine (none_any p a0 n0 c0 x1 x2 x3 z wr (bx_below HBW.out hpl HP.out)).mono ?_
      rintro e w2 ⟨rfl, hb2⟩
      have HB2 := hide (HBW.out.trans (hb2.mono HBW.out.size))
      clear hb2
      cases hf : (!isSt n0 z)
      · have HF := hide hf
        clear hf
        go_wp2
        go_roundw
        case rel => exact ⟨i + 1, by omega, by go_num, by rw [HN.out, HF.out], HB2.out⟩
        case measure => simp [intOf]; omega
      · have HF := hide hf
        clear hf
        go_wp2
        go_ret
        exact ⟨(i : Int), rfl, by rw [HIN.out HF.out]; simp, HB2.out⟩
    · have e : i = len := by omega
      subst e
      have HT := hide (show l.take i = l from List.take_of_length_le (by have := HL.out; omega))
      clear hb
      go_wp2
      go_ret
      exact ⟨-1, rfl, by rw [← HT.out, HD.out]; rfl, HBW.out⟩

set_option maxHeartbeats 800000 in
theorem containsI_any (p : Nat) (a0 : Option Addr) (n0 c0 : Nat) (x1 x2 x3 : Value) (a : Option Addr) (len cap : Nat) (l : List Int) (w : World) (hl : len ≤ maxLen) (h6 : l.length = len) (hpl : p < w.heap.size) (hp : Bx w p (.slice a0 n0 c0) x1 x2 x3) (hW : Wd w a l) :
    Calls Try.prog 38 #[.slice a len cap, .func (.func 36) #[] #[.pointer (some ⟨p, 0, none⟩)]] w fun e w' => e = .returned (.bool (l.any (fun z => !isSt n0 z))) ∧ Below w.heap.size w w' := by
  have HC := hide (indexI_any p a0 n0 c0 x1 x2 x3 a len cap l w hl h6 hpl hp hW)
  clear hW h6 hp
  go_enter Try.func38, Try.ntmps38
  go_wp2_with fail
  refine HC.out.mono ?_
  rintro e w2 ⟨z, rfl, hz, hb2⟩
  have HB := hide hb2
  clear hb2 HC
  cases hg : l.any (fun z => !isSt n0 z)
  · have hz' : decide (0 ≤ z) = false := hz.trans hg
    have HG := hide hg
    clear hg hz
    go_wp2
    go_ret
    exact ⟨by rw [HG.out]; rfl, HB.out⟩
  · have hz' : decide (0 ≤ z) = true := hz.trans hg
    have HG := hide hg
    clear hg hz
    go_wp2
    go_ret
    exact ⟨by rw [HG.out]; rfl, HB.out⟩

end Go.Proofs.Ytldeofdjhpfdaaa.A
