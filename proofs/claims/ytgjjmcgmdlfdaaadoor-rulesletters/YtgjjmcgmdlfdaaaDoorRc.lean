/- The reader's letters and sets. -/
import Derived.Test.YtgjjmcgmdlfdaaaDoorRa
namespace Go.Proofs.YtgjjmcgmdlfdaaaDoor.A
open Go.RowKit
set_option linter.unusedVariables false

def lets : List UInt8 := [79, 67, 86, 78, 72, 77, 83, 82, 74, 87, 68, 75, 71, 84, 81, 88]
/-- A byte's category; -1: none. -/
def catB (c : Nat) : Int := Lib.indexByte lets c.toUInt8
/-- The category of the next byte, as a bit. -/
def letF (L : ByteArray) (i : Nat) : Option Nat := if i < L.size then (if catB (by8 L i) < 0 then none else some (2 ^ (catB (by8 L i)).toNat)) else none
theorem index_lt : ∀ (l : List UInt8) (c : UInt8), Lib.indexByte l c < (l.length : Int)
  | [], _ => by simp [Lib.indexByte]
  | b :: l, c => by
    have := index_lt l c
    unfold Lib.indexByte
    split
    · simp only [List.length_cons]; omega
    · split <;> simp only [List.length_cons] <;> omega
theorem catB_le (c : Nat) : -1 ≤ catB c ∧ catB c < 16 := ⟨Lib.indexByte_ge _ _, index_lt lets _⟩

theorem pow_u16 : ∀ k : Nat, k < 16 → IntKind.u16.wrap ((2 : Int) ^ k) = ((2 ^ k : Nat) : Int) := by decide
theorem ret_u16 {a b : Int} (h : a = b) : Ending.returned (.int .u16 a) = .returned (.int .u16 b) := by rw [h]
set_option maxHeartbeats 1600000 in
theorem letter_yes (q : Nat) (L : ByteArray) (i : Nat) (w : World) (hlt : i < L.size) (hL : L.size ≤ 2000) (h : Rd w q L i) (k : Nat) (hk : catB (by8 L i) = k) (hk2 : k < 16) :
    Calls Tryd.prog 80 #[.pointer (some ⟨q, 0, none⟩)] w fun e w' => e = .returned (.int .u16 (2 ^ k : Nat)) ∧ Rd w' q L (i + 1) ∧ w.grownBy w' (some q) := by
  obtain ⟨p0, p1, f0, f1⟩ := rd_cells h
  have HR := hide h
  clear h
  have hi0 : (0 : Int) ≤ (i : Int) := by omega
  have hlt' : (i : Int) < (L.size : Int) := by omega
  have g1 : decide ((i : Int) = (L.size : Int)) = false := by simp; omega
  have g1' : ((i : Int) == (L.size : Int)) = false := by simp; omega
  have e8 : by8 L i = (L[i]'hlt).toNat := by unfold by8; rw [dif_pos hlt]
  have HK := hide (show ∀ u : World, Calls Tryd.prog 21 #[.string { data := #[79, 67, 86, 78, 72, 77, 83, 82, 74, 87, 68, 75, 71, 84, 81, 88] }, .int .u8 ((L[i]'hlt).toNat : Nat)] u fun e w' => e = .returned (.int .i64 (k : Nat)) ∧ w' = u from fun u => by
    refine (Tryd.strings_IndexByte _ _ _).mono ?_
    rintro e w1 ⟨rfl, rfl⟩
    refine ⟨?_, rfl⟩
    rw [← hk, e8]
    rfl)
  clear hk e8
  go_enter Tryd.func80, Tryd.ntmps80
  go_wp2
  go_quiet (fail)
  go_wp2_with fail
  have HR2 := hide (rd_drewN HR.out nq)
  have HG2 := hide (gb_drewN w (some q) nq)
  clear p0 p1 f0 f1
  generalize w.drewN nq = W at *
  obtain ⟨p0, p1, f0, f1⟩ := rd_cells HR2.out
  go_quiet ((go_at_call 21; exact Calls.quiet_of_same (HK.out _)))
  go_wp2
  go_ret
  refine ⟨ret_u16 (pow_u16 k hk2), rd_set (rd_drewN HR2.out _) (i + 1), gb_trans HG2.out (gb_trans (gb_drewN _ _ _) (gb_set _ _ _ _))⟩
set_option maxHeartbeats 1600000 in
theorem letter_no (q : Nat) (L : ByteArray) (i : Nat) (w : World) (hi : i ≤ L.size) (hL : L.size ≤ 2000) (h : Rd w q L i) (hn : letF L i = none) :
    Calls Tryd.prog 80 #[.pointer (some ⟨q, 0, none⟩)] w fun e w' => e = .panicked gave ∧ w.grownBy w' (some q) := by
  obtain ⟨p0, p1, f0, f1⟩ := rd_cells h
  have HR := hide h
  clear h
  have hi0 : (0 : Int) ≤ (i : Int) := by omega
  by_cases hlt : i < L.size
  · have hlt' : (i : Int) < (L.size : Int) := by omega
    have g1 : decide ((i : Int) = (L.size : Int)) = false := by simp; omega
    have g1' : ((i : Int) == (L.size : Int)) = false := by simp; omega
    have e8 : by8 L i = (L[i]'hlt).toNat := by unfold by8; rw [dif_pos hlt]
    have hneg : catB (by8 L i) = -1 := by
      unfold letF at hn
      rw [if_pos hlt] at hn
      have := (catB_le (by8 L i)).1
      by_cases h0 : catB (by8 L i) < 0
      · omega
      · rw [if_neg h0] at hn; cases hn
    have HK := hide (show ∀ u : World, Calls Tryd.prog 21 #[.string { data := #[79, 67, 86, 78, 72, 77, 83, 82, 74, 87, 68, 75, 71, 84, 81, 88] }, .int .u8 ((L[i]'hlt).toNat : Nat)] u fun e w' => e = .returned (.int .i64 (-1)) ∧ w' = u from fun u => by
      refine (Tryd.strings_IndexByte _ _ _).mono ?_
      rintro e w1 ⟨rfl, rfl⟩
      refine ⟨?_, rfl⟩
      rw [← hneg, e8]
      rfl)
    clear hn e8 hneg
    go_enter Tryd.func80, Tryd.ntmps80
    go_wp2
    go_quiet (fail)
    go_wp2_with fail
    have HR2 := hide (rd_drewN HR.out nq)
    have HG2 := hide (gb_drewN w (some q) nq)
    clear p0 p1 f0 f1
    generalize w.drewN nq = W at *
    obtain ⟨p0, p1, f0, f1⟩ := rd_cells HR2.out
    go_quiet ((go_at_call 21; exact Calls.quiet_of_same (HK.out _)))
    go_wp2
    exact ⟨rfl, rfl, gb_trans HG2.out (gb_drewN _ _ _)⟩
  · have e : i = L.size := by omega
    subst e
    clear hn
    go_enter Tryd.func80, Tryd.ntmps80
    go_wp2
    go_quiet (fail)
    go_wp2
    exact ⟨rfl, rfl, gb_drewN _ _ _⟩

theorem letF_some {L : ByteArray} {i m : Nat} (h : letF L i = some m) : i < L.size ∧ ∃ k : Nat, k < 16 ∧ catB (by8 L i) = k ∧ m = 2 ^ k := by
  unfold letF at h
  by_cases hlt : i < L.size
  · rw [if_pos hlt] at h
    by_cases h0 : catB (by8 L i) < 0
    · rw [if_pos h0] at h; cases h
    · rw [if_neg h0] at h
      have := (catB_le (by8 L i)).2
      exact ⟨hlt, (catB (by8 L i)).toNat, by omega, by omega, (Option.some.inj h).symm⟩
  · rw [if_neg hlt] at h; cases h
theorem two_lt : ∀ k : Nat, k < 16 → 2 ^ k < 65536 := by decide
theorem letF_lt {L : ByteArray} {i m : Nat} (h : letF L i = some m) : m < 65536 := by
  obtain ⟨_, k, hk, _, rfl⟩ := letF_some h
  exact two_lt k hk

/-- The letters up to a closing bracket. -/
def setL (L : ByteArray) : Nat → Nat → Nat → Option (Nat × Nat)
  | 0, _, _ => none
  | f + 1, s, i => if tk L i 93 = true then some (s, i + 1) else match letF L i with
    | none => none
    | some m => if s &&& m = 0 then setL L f (s ||| m) (i + 1) else none
def setF (L : ByteArray) (i : Nat) : Option (Nat × Nat) := match letF L i with
  | none => none
  | some m => setL L (L.size + 1) m (i + 1)
/-- What a call that tells a set answers. -/
def OutS (w : World) (q : Nat) (L : ByteArray) (R : Option (Nat × Nat)) (e : Ending) (w' : World) : Prop := match R with
  | none => e = .panicked gave ∧ w.grownBy w' (some q)
  | some (s, j) => e = .returned (.int .u16 s) ∧ s < 65536 ∧ j ≤ L.size ∧ Rd w' q L j ∧ w.grownBy w' (some q)
/-- Where a reader is. -/
def posOf (w : World) (q : Nat) : Nat := match w.cell? ⟨q, 1, none⟩ with
  | some (.int _ z) => z.toNat
  | _ => 0
theorem pos_rd {w : World} {q : Nat} {L : ByteArray} {i : Nat} (h : Rd w q L i) : posOf w q = i := by
  unfold posOf
  rw [(rd_cells h).2.1]
  simp
end Go.Proofs.YtgjjmcgmdlfdaaaDoor.A
