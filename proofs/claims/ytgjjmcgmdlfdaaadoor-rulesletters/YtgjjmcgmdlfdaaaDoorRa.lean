/- The reader of a line: its block, what it takes, needs. -/
import Derived.Test.YtgjjmcgmdlfdaaaDoorA
import Derived.WalkLawsBesides
import Derived.Laws.AppendOwn
import Derived.Test.YtgjjmcgmdlfdaaaDoorShelf
namespace Go.Proofs.YtgjjmcgmdlfdaaaDoor.A
open Go.RowKit
set_option linter.unusedVariables false

/-- A byte of a text; 0 behind its end. -/
def by8 (L : ByteArray) (i : Nat) : Nat := if h : i < L.size then (L[i]'h).toNat else 0
theorem by8_lt (L : ByteArray) (i : Nat) : by8 L i < 256 := by
  unfold by8
  split
  · exact (L[i]'_).toNat_lt
  · omega
/-- The reader's block. -/
def Rd (w : World) (q : Nat) (L : ByteArray) (i : Nat) : Prop := w.heap[q]? = some (.cells #[.string L, .int .i64 i] 71 (0, 0))
theorem rd_cells {w : World} {q : Nat} {L : ByteArray} {i : Nat} (h : Rd w q L i) : w.cell? ⟨q, 0, none⟩ = some (.string L) ∧ w.cell? ⟨q, 1, none⟩ = some (.int .i64 i) ∧ w.frozen? ⟨q, 0, none⟩ = false ∧ w.frozen? ⟨q, 1, none⟩ = false := by
  unfold Rd at h
  refine ⟨?_, ?_, ?_, ?_⟩ <;> simp [World.cell?, World.frozen?, h]
theorem rd_lt {w : World} {q : Nat} {L : ByteArray} {i : Nat} (h : Rd w q L i) : q < w.heap.size := (Array.getElem?_eq_some_iff.1 h).1
theorem rd_set {w : World} {q : Nat} {L : ByteArray} {i : Nat} (h : Rd w q L i) (j : Nat) : Rd (w.setCell ⟨q, 1, none⟩ (.int .i64 j)) q L j := by
  unfold Rd at h ⊢
  rw [setCell_eq_setRow _ _ _ _ _ _ _ h, setRow_heap _ _ _ _ _ _ h]
  rfl
theorem rd_below {w w' : World} {q B : Nat} {L : ByteArray} {i : Nat} (h : Rd w q L i) (hb : Below B w w') (hq : q < B) : Rd w' q L i := (hb.block q hq).trans h
/-- All but the reader's block stays. -/
theorem gb_refl (w : World) (q : Option Nat) : w.grownBy w q := ⟨rfl, rfl, rfl, Nat.le_refl _, fun _ _ _ => rfl⟩
theorem gb_trans {a b c : World} {q : Option Nat} (h : a.grownBy b q) (k : b.grownBy c q) : a.grownBy c q :=
  ⟨k.os.trans h.os, k.tape.trans h.tape, k.output.trans h.output, Nat.le_trans h.size k.size, fun j hj hq => (k.block j (Nat.lt_of_lt_of_le hj h.size) hq).trans (h.block j hj hq)⟩
theorem gb_below {a b : World} {q : Option Nat} (h : Below a.heap.size a b) : a.grownBy b q := ⟨h.os, h.tape, h.output, h.size, fun j hj _ => h.block j hj⟩
theorem gb_set (w : World) (q : Nat) (j : Nat) (v : Value) : w.grownBy (w.setCell ⟨q, j, none⟩ v) (some q) :=
  ⟨rfl, rfl, rfl, by simp, fun k _ hk => Below.heap_setCell _ _ _ _ (by intro e; exact hk (by rw [e]))⟩
theorem gb_drewN (w : World) (q : Option Nat) (n : Nat) : w.grownBy (w.drewN n) q := ⟨rfl, rfl, rfl, Nat.le_refl _, fun _ _ _ => rfl⟩
theorem rd_drewN {w : World} {q : Nat} {L : ByteArray} {i : Nat} (h : Rd w q L i) (n : Nat) : Rd (w.drewN n) q L i := h

/-- What a reader gives up with. -/
def gave : List PanicEntry := [{ v := .iface 87 (.agg #[]), recovered := false }]
/-- Does a byte come next? -/
def tk (L : ByteArray) (i c : Nat) : Bool := decide (i < L.size) && decide (by8 L i = c)
/-- Where the reader is then. -/
def nx (L : ByteArray) (i c : Nat) : Nat := if tk L i c = true then i + 1 else i
theorem nx_yes {L : ByteArray} {i c : Nat} (h : tk L i c = true) : nx L i c = i + 1 := by unfold nx; rw [if_pos h]
theorem nx_no {L : ByteArray} {i c : Nat} (h : tk L i c = false) : nx L i c = i := by unfold nx; rw [h]; rfl
theorem tk_lt {L : ByteArray} {i c : Nat} (h : tk L i c = true) : i < L.size := by
  unfold tk at h
  simp at h
  exact h.1

set_option maxHeartbeats 1600000 in
theorem takes_any (q : Nat) (L : ByteArray) (i c : Nat) (w : World) (hi : i ≤ L.size) (hL : L.size ≤ 2000) (h : Rd w q L i) :
    Calls Tryd.prog 56 #[.pointer (some ⟨q, 0, none⟩), .int .u8 c] w fun e w' => e = .returned (.bool (tk L i c)) ∧ Rd w' q L (nx L i c) ∧ w.grownBy w' (some q) := by
  obtain ⟨p0, p1, f0, f1⟩ := rd_cells h
  have HR := hide h
  clear h
  have hi0 : (0 : Int) ≤ (i : Int) := by omega
  by_cases hlt : i < L.size
  · have hlt' : (i : Int) < (L.size : Int) := by omega
    have g1 : decide ((i : Int) = (L.size : Int)) = false := by simp; omega
    have g1' : ((i : Int) == (L.size : Int)) = false := by simp; omega
    have e8 : by8 L i = (L[i]'hlt).toNat := by unfold by8; rw [dif_pos hlt]
    have HE := hide e8
    have hb : (L[i]'hlt).toNat < 256 := (L[i]'hlt).toNat_lt
    by_cases hcc : by8 L i = c
    · have HT := hide (show tk L i c = true by unfold tk; simp [hlt, hcc])
      have z : (((L[i]'hlt).toNat : Int) == (c : Int)) = true := by simp; omega
      have z2 : decide (((L[i]'hlt).toNat : Int) = (c : Int)) = true := by simp; omega
      have z3 : (((L[i]'hlt).toNat : Int) != (c : Int)) = false := by simp; omega
      clear hcc e8
      go_enter Tryd.func56, Tryd.ntmps56
      go_wp2
      go_quiet (fail)
      go_wp2
      go_ret
      rw [nx_yes HT.out]
      refine ⟨by rw [HT.out]; rfl, ?_, ?_⟩
      · exact rd_set (rd_drewN HR.out _) (i + 1)
      · exact gb_trans (gb_drewN _ _ _) (gb_set _ _ _ _)
    · have HT := hide (show tk L i c = false by unfold tk; simp [hcc])
      have z : (((L[i]'hlt).toNat : Int) == (c : Int)) = false := by simp; omega
      have z2 : decide (((L[i]'hlt).toNat : Int) = (c : Int)) = false := by simp; omega
      have z3 : (((L[i]'hlt).toNat : Int) != (c : Int)) = true := by simp; omega
      clear hcc e8
      go_enter Tryd.func56, Tryd.ntmps56
      go_wp2
      go_quiet (fail)
      go_wp2
      go_ret
      rw [nx_no HT.out]
      exact ⟨by rw [HT.out]; rfl, rd_drewN HR.out _, gb_drewN _ _ _⟩
  · have e : i = L.size := by omega
    subst e
    have HT := hide (show tk L L.size c = false by unfold tk; simp)
    go_enter Tryd.func56, Tryd.ntmps56
    go_wp2
    go_quiet (fail)
    go_wp2
    go_ret
    rw [nx_no HT.out]
    exact ⟨by rw [HT.out]; rfl, rd_drewN HR.out _, gb_drewN _ _ _⟩

/-- What must come next comes. -/
theorem need_yes (q : Nat) (L : ByteArray) (i c : Nat) (w : World) (hi : i ≤ L.size) (hL : L.size ≤ 2000) (h : Rd w q L i) (ht : tk L i c = true) :
    Calls Tryd.prog 57 #[.pointer (some ⟨q, 0, none⟩), .int .u8 c] w fun e w' => e = .returned (.tuple #[]) ∧ Rd w' q L (i + 1) ∧ w.grownBy w' (some q) := by
  have HR := hide h
  have HT := hide ht
  clear h ht
  go_enter Tryd.func57, Tryd.ntmps57
  go_wp2_with fail
  refine (takes_any q L i c w hi hL HR.out).mono ?_
  rintro e w1 ⟨rfl, h1, h2⟩
  rw [nx_yes HT.out] at h1
  rw [HT.out]
  have H1 := hide h1
  have H2 := hide h2
  clear h1 h2
  go_wp2
  first | go_end0 | refine bodyPost_ret (results_none rfl _ _ _) rfl ?_
  exact ⟨rfl, H1.out, H2.out⟩
theorem need_no (q : Nat) (L : ByteArray) (i c : Nat) (w : World) (hi : i ≤ L.size) (hL : L.size ≤ 2000) (h : Rd w q L i) (ht : tk L i c = false) :
    Calls Tryd.prog 57 #[.pointer (some ⟨q, 0, none⟩), .int .u8 c] w fun e w' => e = .panicked gave ∧ w.grownBy w' (some q) := by
  have HR := hide h
  have HT := hide ht
  clear h ht
  go_enter Tryd.func57, Tryd.ntmps57
  go_wp2_with fail
  refine (takes_any q L i c w hi hL HR.out).mono ?_
  rintro e w1 ⟨rfl, h1, h2⟩
  rw [HT.out]
  have H2 := hide h2
  clear h1 h2
  go_wp2
  exact ⟨rfl, rfl, H2.out⟩
end Go.Proofs.YtgjjmcgmdlfdaaaDoor.A
