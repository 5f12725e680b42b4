/- The reader of a line: its block, what it takes, needs. -/
import Derived.WalkLawsBesides
import Derived.Laws.AppendOwn
import Derived.WalkKit
import Derived.ProofKit
import Derived.Outline
import Derived.BigQuiet
import Derived.Deep.QuietTactic
import Derived.Below
import Derived.Shelf.Small.Strs
import Derived.Shelf.Strconv.Itoa0
import Derived.Shelf.Strconv.Itoa1
import Derived.Shelf.LaysM
import Derived.Shelf.Strconv.Itoa2
import Derived.Shelf.Strconv.Clone
import Derived.Shelf.Strings.Search1
import Derived.Shelf.Strings.Search2
import Derived.Shelf.Strings.Search3
import Derived.Shelf.Strings.Count
import Derived.Shelf.Strings.Shaped
import Derived.Shelf.Strconv.AppendUint10
import Derived.Shelf.Strconv.AppendInt10
import Derived.Shelf.Strconv.AppendIntPublic10
import Derived.Shelf.Strings.Split
import Derived.Shelf.Strings.SplitShaped
import Derived.Shelf.Bits.Mul64
import Derived.Shelf.Unicode.DecodeSlow
import Derived.Ground.Names2Prog
import Derived.Shelf.Slices.Clone
import Derived.Ground.SlgnProg
import Derived.Shelf.SlicesE.Clone
import Derived.Deep.RegionHeld3
import Derived.OpenShut
import Derived.Deep.Slices
import Derived.Deep.Strs
import Derived.Deep.OwnRows
import Derived.Deep.WholeRow
import Derived.Deep.Heap
import Derived.Deep.AppendSrc
import Derived.Deep.AppendLies
import Derived.Deep.RegionLaw
import Derived.Laws.AppendOwnNone
import Derived.Test.YtbbfjjjnifomgaaGreatDoorK1
import Derived.Test.YtbbfjjjnifomgaaGreatDoorK6
import Derived.Test.YtbbfjjjnifomgaaGreatDoorK8
import Derived.Test.YtbbfjjjnifomgaaGreatDoorK11
import Derived.Test.YtbbfjjjnifomgaaGreatDoorK13
import Derived.Test.YtbbfjjjnifomgaaGreatDoorK18
import Derived.Laws.OwnMore
import Derived.Test.YtbbfjjjnifomgaaGreatDoorK4
import Derived.Test.YtbbfjjjnifomgaaGreatDoorK19
namespace Go.Proofs.YtbbfjjjnifomgaaGreatDoor.A
open Go.RowKit
set_option linter.unusedVariables false

/-- A byte of a text; 0 behind its end. -/
def by8 (L : ByteArray) (i : Nat) : Nat := if h : i < L.size then (L[i]'h).toNat else 0
/-- The reader's block. -/
def Rd (w : World) (q : Nat) (L : ByteArray) (i : Nat) : Prop := w.heap[q]? = some (.cells #[.string L, .int .i64 i] 134 (0, 0))
theorem rd_cells {w : World} {q : Nat} {L : ByteArray} {i : Nat} (h : Rd w q L i) : w.cell? ⟨q, 0, none⟩ = some (.string L) ∧ w.cell? ⟨q, 1, none⟩ = some (.int .i64 i) ∧ w.frozen? ⟨q, 0, none⟩ = false ∧ w.frozen? ⟨q, 1, none⟩ = false := by
  unfold Rd at h
  refine ⟨?_, ?_, ?_, ?_⟩ <;> simp [World.cell?, World.frozen?, h]
theorem rd_lt {w : World} {q : Nat} {L : ByteArray} {i : Nat} (h : Rd w q L i) : q < w.heap.size := (Array.getElem?_eq_some_iff.1 h).1
theorem rd_set {w : World} {q : Nat} {L : ByteArray} {i : Nat} (h : Rd w q L i) (j : Nat) : Rd (w.setCell ⟨q, 1, none⟩ (.int .i64 j)) q L j := by
  unfold Rd at h ⊢
  rw [setCell_eq_setRow _ _ _ _ _ _ _ h, setRow_heap _ _ _ _ _ _ h]
  rfl
theorem rd_below {w w' : World} {q B : Nat} {L : ByteArray} {i : Nat} (h : Rd w q L i) (hb : Below B w w') (hq : q < B) : Rd w' q L i := (hb.block q hq).trans h
theorem gb_trans {a b c : World} {q : Option Nat} (h : a.grownBy b q) (k : b.grownBy c q) : a.grownBy c q :=
  ⟨k.os.trans h.os, k.tape.trans h.tape, k.output.trans h.output, Nat.le_trans h.size k.size, fun j hj hq => (k.block j (Nat.lt_of_lt_of_le hj h.size) hq).trans (h.block j hj hq)⟩
theorem gb_below {a b : World} {q : Option Nat} (h : Below a.heap.size a b) : a.grownBy b q := ⟨h.os, h.tape, h.output, h.size, fun j hj _ => h.block j hj⟩
theorem gb_set (w : World) (q : Nat) (j : Nat) (v : Value) : w.grownBy (w.setCell ⟨q, j, none⟩ v) (some q) :=
  ⟨rfl, rfl, rfl, by simp, fun k _ hk => Below.heap_setCell _ _ _ _ (by intro e; exact hk (by rw [e]))⟩
theorem gb_drewN (w : World) (q : Option Nat) (n : Nat) : w.grownBy (w.drewN n) q := ⟨rfl, rfl, rfl, Nat.le_refl _, fun _ _ _ => rfl⟩
theorem rd_drewN {w : World} {q : Nat} {L : ByteArray} {i : Nat} (h : Rd w q L i) (n : Nat) : Rd (w.drewN n) q L i := h

/-- What a reader gives up with. -/
def gave : List PanicEntry := [{ v := .iface 148 (.agg #[]), recovered := false }]
/-- Does a byte come next? -/
def tk (L : ByteArray) (i c : Nat) : Bool := decide (i < L.size) && decide (by8 L i = c)
/-- Where the reader is then. -/
def nx (L : ByteArray) (i c : Nat) : Nat := if tk L i c = true then i + 1 else i
theorem nx_yes {L : ByteArray} {i c : Nat} (h : tk L i c = true) : nx L i c = i + 1 := by unfold nx; rw [if_pos h]
theorem nx_no {L : ByteArray} {i c : Nat} (h : tk L i c = false) : nx L i c = i := by unfold nx; rw [h]; rfl
theorem tk_lt {L : ByteArray} {i c : Nat} (h : tk L i c = true) : i < L.size := by
  unfold tk at h
  simp at h
  exact h.1

set_option maxHeartbeats 1600000 in
theorem takes_any (q : Nat) (L : ByteArray) (i c : Nat) (w : World) (hi : i ≤ L.size) (hL : L.size ≤ 2000) (h : Rd w q L i) :
    Calls Tryz.prog 90 #[.pointer (some ⟨q, 0, none⟩), .int .u8 c] w fun e w' => e = .returned (.bool (tk L i c)) ∧ Rd w' q L (nx L i c) ∧ w.grownBy w' (some q) := by
  obtain ⟨p0, p1, f0, f1⟩ := rd_cells h
  have HR := hide h
  clear h
  have hi0 : (0 : Int) ≤ (i : Int) := by omega
  by_cases hlt : i < L.size
  · have hlt' : (i : Int) < (L.size : Int) := by omega
    have g1 : decide ((i : Int) = (L.size : Int)) = false := by simp; omega
    have g1' : ((i : Int) == (L.size : Int)) = false := by simp; omega
    have e8 : by8 L i = (L[i]'hlt).toNat := by unfold by8; rw [dif_pos hlt]
    have HE := hide e8
    have hb : (L[i]'hlt).toNat < 256 := (L[i]'hlt).toNat_lt
    by_cases hcc : by8 L i = c
    · have HT := hide (show tk L i c = true by unfold tk; simp [hlt, hcc])
      have z : (((L[i]'hlt).toNat : Int) == (c : Int)) = true := by simp; omega
      have z2 : decide (((L[i]'hlt).toNat : Int) = (c : Int)) = true := by simp; omega
      have z3 : (((L[i]'hlt).toNat : Int) != (c : Int)) = false := by simp; omega
      clear hcc e8
      go_enter Tryz.func90, Tryz.ntmps90
      go_wp2
      go_quiet (fail)
      go_wp2
      go_ret
      rw [nx_yes HT.out]
      refine ⟨by rw [HT.out]; rfl, ?_, ?_⟩
      · exact rd_set (rd_drewN HR.out _) (i + 1)
      · exact gb_trans (gb_drewN _ _ _) (gb_set _ _ _ _)
    · have HT := hide (show tk L i c = false by unfold tk; simp [hcc])
      have z : (((L[i]'hlt).toNat : Int) == (c : Int)) = false := by simp; omega
      have z2 : decide (((L[i]'hlt).toNat : Int) = (c : Int)) = false := by simp; omega
      have z3 : (((L[i]'hlt).toNat : Int) != (c : Int)) = true := by simp; omega
      clear hcc e8
      go_enter Tryz.func90, Tryz.ntmps90
      go_wp2
      go_quiet (fail)
      go_wp2
      go_ret
      rw [nx_no HT.out]
      exact ⟨by rw [HT.out]; rfl, rd_drewN HR.out _, gb_drewN _ _ _⟩
  · have e : i = L.size := by omega
    subst e
    have HT := hide (show tk L L.size c = false by unfold tk; simp)
    go_enter Tryz.func90, Tryz.ntmps90
    go_wp2
    go_quiet (fail)
    go_wp2
    go_ret
    rw [nx_no HT.out]
    exact ⟨by rw [HT.out]; rfl, rd_drewN HR.out _, gb_drewN _ _ _⟩

/-- What must come next comes. -/
theorem need_yes (q : Nat) (L : ByteArray) (i c : Nat) (w : World) (hi : i ≤ L.size) (hL : L.size ≤ 2000) (h : Rd w q L i) (ht : tk L i c = true) :
    Calls Tryz.prog 91 #[.pointer (some ⟨q, 0, none⟩), .int .u8 c] w fun e w' => e = .returned (.tuple #[]) ∧ Rd w' q L (i + 1) ∧ w.grownBy w' (some q) := by
  have HR := hide h
  have HT := hide ht
  clear h ht
  go_enter Tryz.func91, Tryz.ntmps91
  go_wp2_with fail
  refine (takes_any q L i c w hi hL HR.out).mono ?_
  rintro e w1 ⟨rfl, h1, h2⟩
  rw [nx_yes HT.out] at h1
  rw [HT.out]
  have H1 := hide h1
  have H2 := hide h2
  clear h1 h2
  go_wp2
  first | go_end0 | refine bodyPost_ret (results_none rfl _ _ _) rfl ?_
  exact ⟨rfl, H1.out, H2.out⟩
theorem need_no (q : Nat) (L : ByteArray) (i c : Nat) (w : World) (hi : i ≤ L.size) (hL : L.size ≤ 2000) (h : Rd w q L i) (ht : tk L i c = false) :
    Calls Tryz.prog 91 #[.pointer (some ⟨q, 0, none⟩), .int .u8 c] w fun e w' => e = .panicked gave ∧ w.grownBy w' (some q) := by
  have HR := hide h
  have HT := hide ht
  clear h ht
  go_enter Tryz.func91, Tryz.ntmps91
  go_wp2_with fail
  refine (takes_any q L i c w hi hL HR.out).mono ?_
  rintro e w1 ⟨rfl, h1, h2⟩
  rw [HT.out]
  have H2 := hide h2
  clear h1 h2
  go_wp2
  exact ⟨rfl, rfl, H2.out⟩
end Go.Proofs.YtbbfjjjnifomgaaGreatDoor.A



/- The reader's letters and sets. -/
namespace Go.Proofs.YtbbfjjjnifomgaaGreatDoor.A
open Go.RowKit
set_option linter.unusedVariables false

def lets : List UInt8 := [79, 67, 86, 78, 72, 77, 83, 82, 74, 87, 68, 75, 71, 84, 81, 88]
/-- A byte's category; -1: none. -/
def catB (c : Nat) : Int := Lib.indexByte lets c.toUInt8
/-- The category of the next byte, as a bit. -/
def letF (L : ByteArray) (i : Nat) : Option Nat := if i < L.size then (if catB (by8 L i) < 0 then none else some (2 ^ (catB (by8 L i)).toNat)) else none
theorem index_lt : ∀ (l : List UInt8) (c : UInt8), Lib.indexByte l c < (l.length : Int)
  | [], _ => by simp [Lib.indexByte]
  | b :: l, c => by
    have := index_lt l c
    unfold Lib.indexByte
    split
    · simp only [List.length_cons]; omega
    · split <;> simp only [List.length_cons] <;> omega
theorem catB_le (c : Nat) : -1 ≤ catB c ∧ catB c < 16 := ⟨Lib.indexByte_ge _ _, index_lt lets _⟩

theorem pow_u16 : ∀ k : Nat, k < 16 → IntKind.u16.wrap ((2 : Int) ^ k) = ((2 ^ k : Nat) : Int) := by decide
theorem ret_u16 {a b : Int} (h : a = b) : Ending.returned (.int .u16 a) = .returned (.int .u16 b) := by rw [h]
set_option maxHeartbeats 1600000 in
theorem letter_yes (q : Nat) (L : ByteArray) (i : Nat) (w : World) (hlt : i < L.size) (hL : L.size ≤ 2000) (h : Rd w q L i) (k : Nat) (hk : catB (by8 L i) = k) (hk2 : k < 16) :
    Calls Tryz.prog 173 #[.pointer (some ⟨q, 0, none⟩)] w fun e w' => e = .returned (.int .u16 (2 ^ k : Nat)) ∧ Rd w' q L (i + 1) ∧ w.grownBy w' (some q) := by
  obtain ⟨p0, p1, f0, f1⟩ := rd_cells h
  have HR := hide h
  clear h
  have hi0 : (0 : Int) ≤ (i : Int) := by omega
  have hlt' : (i : Int) < (L.size : Int) := by omega
  have g1 : decide ((i : Int) = (L.size : Int)) = false := by simp; omega
  have g1' : ((i : Int) == (L.size : Int)) = false := by simp; omega
  have e8 : by8 L i = (L[i]'hlt).toNat := by unfold by8; rw [dif_pos hlt]
  have HK := hide (show ∀ u : World, Calls Tryz.prog 178 #[.string { data := #[79, 67, 86, 78, 72, 77, 83, 82, 74, 87, 68, 75, 71, 84, 81, 88] }, .int .u8 ((L[i]'hlt).toNat : Nat)] u fun e w' => e = .returned (.int .i64 (k : Nat)) ∧ w' = u from fun u => by
    refine (Tryz.strings_IndexByte _ _ _).mono ?_
    rintro e w1 ⟨rfl, rfl⟩
    refine ⟨?_, rfl⟩
    rw [← hk, e8]
    rfl)
  clear hk e8
  go_enter Tryz.func173, Tryz.ntmps173
  go_wp2
  go_quiet (fail)
  go_wp2_with fail
  have HR2 := hide (rd_drewN HR.out nq)
  have HG2 := hide (gb_drewN w (some q) nq)
  clear p0 p1 f0 f1
  generalize w.drewN nq = W at *
  obtain ⟨p0, p1, f0, f1⟩ := rd_cells HR2.out
  go_quiet ((go_at_call 178; exact Calls.quiet_of_same (HK.out _)))
  go_wp2
  go_ret
  refine ⟨ret_u16 (pow_u16 k hk2), rd_set (rd_drewN HR2.out _) (i + 1), gb_trans HG2.out (gb_trans (gb_drewN _ _ _) (gb_set _ _ _ _))⟩
set_option maxHeartbeats 1600000 in
theorem letter_no (q : Nat) (L : ByteArray) (i : Nat) (w : World) (hi : i ≤ L.size) (hL : L.size ≤ 2000) (h : Rd w q L i) (hn : letF L i = none) :
    Calls Tryz.prog 173 #[.pointer (some ⟨q, 0, none⟩)] w fun e w' => e = .panicked gave ∧ w.grownBy w' (some q) := by
  obtain ⟨p0, p1, f0, f1⟩ := rd_cells h
  have HR := hide h
  clear h
  have hi0 : (0 : Int) ≤ (i : Int) := by omega
  by_cases hlt : i < L.size
  · have hlt' : (i : Int) < (L.size : Int) := by omega
    have g1 : decide ((i : Int) = (L.size : Int)) = false := by simp; omega
    have g1' : ((i : Int) == (L.size : Int)) = false := by simp; omega
    have e8 : by8 L i = (L[i]'hlt).toNat := by unfold by8; rw [dif_pos hlt]
    have hneg : catB (by8 L i) = -1 := by
      unfold letF at hn
      rw [if_pos hlt] at hn
      have := (catB_le (by8 L i)).1
      by_cases h0 : catB (by8 L i) < 0
      · omega
      · rw [if_neg h0] at hn; cases hn
    have HK := hide (show ∀ u : World, Calls Tryz.prog 178 #[.string { data := #[79, 67, 86, 78, 72, 77, 83, 82, 74, 87, 68, 75, 71, 84, 81, 88] }, .int .u8 ((L[i]'hlt).toNat : Nat)] u fun e w' => e = .returned (.int .i64 (-1)) ∧ w' = u from fun u => by
      refine (Tryz.strings_IndexByte _ _ _).mono ?_
      rintro e w1 ⟨rfl, rfl⟩
      refine ⟨?_, rfl⟩
      rw [← hneg, e8]
      rfl)
    clear hn e8 hneg
    go_enter Tryz.func173, Tryz.ntmps173
    go_wp2
    go_quiet (fail)
    go_wp2_with fail
    have HR2 := hide (rd_drewN HR.out nq)
    have HG2 := hide (gb_drewN w (some q) nq)
    clear p0 p1 f0 f1
    generalize w.drewN nq = W at *
    obtain ⟨p0, p1, f0, f1⟩ := rd_cells HR2.out
    go_quiet ((go_at_call 178; exact Calls.quiet_of_same (HK.out _)))
    go_wp2
    exact ⟨rfl, rfl, gb_trans HG2.out (gb_drewN _ _ _)⟩
  · have e : i = L.size := by omega
    subst e
    clear hn
    go_enter Tryz.func173, Tryz.ntmps173
    go_wp2
    go_quiet (fail)
    go_wp2
    exact ⟨rfl, rfl, gb_drewN _ _ _⟩

theorem letF_some {L : ByteArray} {i m : Nat} (h : letF L i = some m) : i < L.size ∧ ∃ k : Nat, k < 16 ∧ catB (by8 L i) = k ∧ m = 2 ^ k := by
  unfold letF at h
  by_cases hlt : i < L.size
  · rw [if_pos hlt] at h
    by_cases h0 : catB (by8 L i) < 0
    · rw [if_pos h0] at h; cases h
    · rw [if_neg h0] at h
      have := (catB_le (by8 L i)).2
      exact ⟨hlt, (catB (by8 L i)).toNat, by omega, by omega, (Option.some.inj h).symm⟩
  · rw [if_neg hlt] at h; cases h
theorem two_lt : ∀ k : Nat, k < 16 → 2 ^ k < 65536 := by decide
theorem letF_lt {L : ByteArray} {i m : Nat} (h : letF L i = some m) : m < 65536 := by
  obtain ⟨_, k, hk, _, rfl⟩ := letF_some h
  exact two_lt k hk

/-- The letters up to a closing bracket. -/
def setL (L : ByteArray) : Nat → Nat → Nat → Option (Nat × Nat)
  | 0, _, _ => none
  | f + 1, s, i => if tk L i 93 = true then some (s, i + 1) else match letF L i with
    | none => none
    | some m => if s &&& m = 0 then setL L f (s ||| m) (i + 1) else none
def setF (L : ByteArray) (i : Nat) : Option (Nat × Nat) := match letF L i with
  | none => none
  | some m => setL L (L.size + 1) m (i + 1)
/-- What a call that tells a set answers. -/
def OutS (w : World) (q : Nat) (L : ByteArray) (R : Option (Nat × Nat)) (e : Ending) (w' : World) : Prop := match R with
  | none => e = .panicked gave ∧ w.grownBy w' (some q)
  | some (s, j) => e = .returned (.int .u16 s) ∧ s < 65536 ∧ j ≤ L.size ∧ Rd w' q L j ∧ w.grownBy w' (some q)
/-- Where a reader is. -/
def posOf (w : World) (q : Nat) : Nat := match w.cell? ⟨q, 1, none⟩ with
  | some (.int _ z) => z.toNat
  | _ => 0
theorem pos_rd {w : World} {q : Nat} {L : ByteArray} {i : Nat} (h : Rd w q L i) : posOf w q = i := by
  unfold posOf
  rw [(rd_cells h).2.1]
  simp
end Go.Proofs.YtbbfjjjnifomgaaGreatDoor.A



/- The reader's set. -/
namespace Go.Proofs.YtbbfjjjnifomgaaGreatDoor.A
open Go.RowKit
set_option linter.unusedVariables false

theorem bits_both (a b : Nat) (ha : a < 65536) (hb : b < 65536) : bits BinOp.and IntKind.u16 (a : Int) (b : Int) = ((a &&& b : Nat) : Int) ∧ bits BinOp.or IntKind.u16 (a : Int) (b : Int) = ((a ||| b : Nat) : Int) :=
  bits_nat .u16 16 (by decide) (fun n h0 h1 => by rw [IntKind.wrap_u16]; omega) a b ha hb
theorem or_lt16 {a b : Nat} (ha : a < 65536) (hb : b < 65536) : a ||| b < 65536 := Nat.or_lt_two_pow (n := 16) ha hb
set_option maxHeartbeats 3200000 in
theorem set_any (q : Nat) (L : ByteArray) (i : Nat) (w : World) (hi : i ≤ L.size) (hL : L.size ≤ 2000) (h : Rd w q L i) :
    Calls Tryz.prog 172 #[.pointer (some ⟨q, 0, none⟩)] w fun e w' => OutS w q L (setF L i) e w' := by
  have HR := hide h
  clear h
  cases hl : letF L i with
  | none =>
    have HF := hide (show setF L i = none by unfold setF; rw [hl])
    have HL := hide hl
    clear hl
    go_enter Tryz.func172, Tryz.ntmps172
    go_wp2_with fail
    refine (letter_no q L i w hi hL HR.out HL.out).mono ?_
    rintro e w1 ⟨rfl, h1⟩
    have H1 := hide h1
    clear h1
    go_wp2
    refine ⟨rfl, ?_⟩
    rw [HF.out]
    exact ⟨rfl, H1.out⟩
  | some m =>
    obtain ⟨hlt, k, hk, hc, rfl⟩ := letF_some hl
    have HF := hide (show setF L i = setL L (L.size + 1) (2 ^ k) (i + 1) by unfold setF; rw [hl])
    have hm := letF_lt hl
    have HC := hide hc
    clear hl hc
    go_enter Tryz.func172, Tryz.ntmps172
    go_wp2_with fail
    refine (letter_yes q L i w hlt hL HR.out k HC.out hk).mono ?_
    rintro e w1 ⟨rfl, h1, h2⟩
    have H1 := hide h1
    have H2 := hide h2
    generalize 2 ^ k = m at *
    clear h1 h2 HR
    go_wp2_with fail
    go_loopw [3, 4] (fun s _ wr => ∃ (a j f : Nat), s = .int .u16 a ∧ a < 65536 ∧ j ≤ L.size ∧ L.size < j + f ∧ Rd wr q L j ∧ w.grownBy wr (some q) ∧ setL L f a j = setF L i) (fun _ _ wr => L.size + 1 - posOf wr q)
    case atStart => exact ⟨m, i + 1, L.size + 1, rfl, hm, by omega, by omega, H1.out, H2.out, HF.out.symm⟩
    case round =>
      obtain ⟨a, j, f, rfl, ha, hj, hf, hrd, hg, hs⟩ := hrel
      obtain ⟨f, rfl⟩ : ∃ f', f = f' + 1 := ⟨f - 1, by omega⟩
      have HRD := hide hrd
      have HG := hide hg
      have HPO := hide (pos_rd hrd)
      have HS := hide (show (if tk L j 93 = true then some (a, j + 1) else match letF L j with
        | none => none
        | some m => if a &&& m = 0 then setL L f (a ||| m) (j + 1) else none) = setF L i from hs)
      clear hrd hg hs
      go_wp2_with fail
      refine (takes_any q L j 93 wr hj hL HRD.out).mono ?_
      rintro e w2 ⟨rfl, h3, h4⟩
      have HG2 := hide (gb_trans HG.out h4)
      cases ht : tk L j 93 with
      | true =>
        rw [nx_yes ht] at h3
        have H3 := hide h3
        have HJ := hide (tk_lt ht)
        rw [ht] at HS
        have HS2 := hide (show some (a, j + 1) = setF L i from HS.out)
        clear h3 h4 ht HS
        go_wp2
        go_ret
        rw [← HS2.out]
        exact ⟨rfl, ha, HJ.out, H3.out, HG2.out⟩
      | false =>
        rw [nx_no ht] at h3
        have H3 := hide h3
        rw [ht] at HS
        clear h3 h4 ht
        cases hl : letF L j with
        | none =>
          rw [hl] at HS
          have HS2 := hide (show none = setF L i from HS.out)
          have HL := hide hl
          clear HS hl
          go_wp2_with fail
          refine (letter_no q L j w2 hj hL H3.out HL.out).mono ?_
          rintro e w3 ⟨rfl, h5⟩
          have HG3 := hide (gb_trans HG2.out h5)
          clear h5
          go_wp2
          refine ⟨rfl, ?_⟩
          rw [← HS2.out]
          exact ⟨rfl, HG3.out⟩
        | some m2 =>
          rw [hl] at HS
          obtain ⟨hlt2, k2, hk2, hc2, rfl⟩ := letF_some hl
          have hm2 := letF_lt hl
          have HC2 := hide hc2
          clear hl hc2
          go_wp2_with fail
          refine (letter_yes q L j w2 hlt2 hL H3.out k2 HC2.out hk2).mono ?_
          rintro e w3 ⟨rfl, h5, h6⟩
          have H5 := hide h5
          have HG3 := hide (gb_trans HG2.out h6)
          have HPN := hide (pos_rd h5)
          generalize 2 ^ k2 = m2 at *
          clear h5 h6
          obtain ⟨hb1, hb2⟩ := bits_both a m2 ha hm2
          by_cases hand : a &&& m2 = 0
          · have HS2 := hide (show setL L f (a ||| m2) (j + 1) = setF L i from by
              have := HS.out
              simp only [Bool.false_eq_true, if_false, hand, if_true] at this
              exact this)
            clear HS
            have hor := or_lt16 ha hm2
            rw [hand] at hb1
            generalize a ||| m2 = a2 at *
            go_wp2
            exact ⟨⟨a2, j + 1, f, rfl, hor, hlt2, by omega, H5.out, HG3.out, HS2.out⟩, by rw [HPN.out, HPO.out]; omega⟩
          · have HS2 := hide (show none = setF L i from by
              have := HS.out
              simp only [Bool.false_eq_true, if_false, hand] at this
              exact this)
            clear HS
            have hne : ((a &&& m2 : Nat) : Int) ≠ 0 := by omega
            have hne2 : (((a &&& m2 : Nat) : Int) != 0) = true := by simp; omega
            generalize a &&& m2 = a2 at *
            go_wp2
            refine ⟨rfl, ?_⟩
            rw [← HS2.out]
            exact ⟨rfl, HG3.out⟩
end Go.Proofs.YtbbfjjjnifomgaaGreatDoor.A



/- What the reader makes: expressions in blocks of their own. -/
namespace Go.Proofs.YtbbfjjjnifomgaaGreatDoor.A
open Go.RowKit
set_option linter.unusedVariables false

theorem tr_lift {w : World} : ∀ (n : Nat) (t : Ex n) (x : Nd) (S : List Nat), Tr w n t x S → Tr w (n + 1) (liftE n t) x S
  | 0, _, _, _, h => h.elim
  | n + 1, t, x, S, ⟨h1, h2, h3, h4, h5, h6, h7, h8⟩ => by
    refine ⟨h1, h2, h3, h4, h5, h6, ?_, ?_⟩
    · show ((ks t).map (fun x => liftE n x)).length = x.l
      rw [List.length_map]; exact h7
    · rcases h8 with h8 | ⟨b, cs, ys, Ss, a1, a2, a3, a4, a5, a6, a7⟩
      · exact .inl h8
      · refine .inr ⟨b, cs, ys, Ss, a1, a2, a3, a4, a5, a6, fun i e y T he hy hT => ?_⟩
        have he' : ((ks t).map (fun x => liftE n x))[i]? = some e := he
        rw [List.getElem?_map] at he'
        obtain ⟨e0, he0, rfl⟩ := Option.map_eq_some_iff.1 he'
        exact tr_lift n e0 y T (a7 i e0 y T he0 hy hT)
/-- Blocks from some place on stay. -/
def Keep (B : Nat) (w w' : World) : Prop := w.heap.size ≤ w'.heap.size ∧ ∀ b, B ≤ b → b < w.heap.size → w'.heap[b]? = w.heap[b]?
theorem keep_gb {B q : Nat} {w w' : World} (h : w.grownBy w' (some q)) (hq : q < B) : Keep B w w' := ⟨h.size, fun b hb hl => h.block b hl (by intro e; cases e; omega)⟩
theorem keep_below {B : Nat} {w w' : World} (h : Below w.heap.size w w') : Keep B w w' := ⟨h.size, fun b _ hl => h.block b hl⟩
theorem tr_kept {B : Nat} {w w' : World} {n : Nat} {t : Ex n} {x : Nd} {S : List Nat} (h : Tr w n t x S) (hS : ∀ b ∈ S, B ≤ b) (hk : Keep B w w') : Tr w' n t x S := tr_keep n t x S (fun b hb => hk.2 b (hS b hb) (tr_lt n t x S h b hb)) h
theorem mkg_kept {base : Nat} {w w' : World} {n : Nat} {l : List (Ex n)} {v : Value} {ys : List Nd} {Ss : List (List Nat)} (h : Mkg base w n l v ys Ss) (hk : Keep base w w') : Mkg base w' n l v ys Ss := by
  obtain ⟨h1, h2, h3, h4, h5, h6, h7⟩ := h
  refine ⟨⟨h1.1, ?_⟩, h2, h3, fun i e y T he hy hT => tr_keep n e y T (fun b hb => hk.2 b (h6 b (mem_flat hT hb)).1 (h6 b (mem_flat hT hb)).2) (h4 i e y T he hy hT), h5, fun b hb => ⟨(h6 b hb).1, Nat.lt_of_lt_of_le (h6 b hb).2 hk.1⟩, h7⟩
  have hlt := h1.lt
  rcases h1.2 with h0 | ⟨g, cap, cur, hv, hg, hcur, q1, q2, q3, q4⟩
  · exact .inl h0
  · exact .inr ⟨g, cap, cur, hv, hg, (hk.2 g hg (hlt g (by rw [hv]; rfl)).2).trans hcur, q1, q2, q3, q4⟩
/-- A list of one. -/
theorem mkg_one {base : Nat} {w : World} {n : Nat} {t : Ex n} {y : Nd} {S : List Nat} (h : Tr w n t y S) (hn : S.Nodup) (hS : ∀ b ∈ S, base ≤ b) (hb : base ≤ w.heap.size) :
    Mkg base (w.alloc (.cells #[.int .u8 y.k, .int .u16 y.s, .slice y.a y.l y.c] 55)) n [t] (.slice (some ⟨w.heap.size, 0, none⟩) 1 1) [y] [S] := by
  have hlt := tr_lt n t y S h
  refine ⟨⟨by simp [cellsN, cellsO], .inr ⟨w.heap.size, 1, _, rfl, hb, heap_alloc_last w _, Nat.le_refl _, by unfold maxLen; omega, by simp, by simp [cellsN, cellsO]⟩⟩, rfl, rfl, ?_, by simpa using hn, ?_, ?_⟩
  · intro i e y' T he hy hT
    match i with
    | 0 =>
      simp only [List.getElem?_cons_zero, Option.some.injEq] at he hy hT
      subst he; subst hy; subst hT
      exact tr_keep n _ _ _ (fun b hb' => Below.heap_alloc _ _ _ (hlt b hb')) h
    | i + 1 => simp at he
  · intro b hb'
    have : b ∈ S := by simpa using hb'
    exact ⟨hS b this, by have := hlt b this; simp; omega⟩
  · intro g hg hm
    have e : w.heap.size = g := by simpa [Value.ownBlock] using hg
    have : g ∈ S := by simpa using hm
    have := hlt g this
    omega
/-- Of some a node, of one that one, of none the empty word. -/
def togE (k : Nat) {n : Nat} : List (Ex n) → Ex (n + 1)
  | [] => (0, 0, [])
  | [x] => liftE n x
  | l => (k, 0, l)

theorem mknode_any (k : Nat) (a : Option Addr) (len cap : Nat) (w : World) :
    Calls Tryz.prog 138 #[.int .u8 k, .slice a len cap] w fun e w' => e = .returned (.agg #[.int .u8 k, .int .u16 0, .slice a len cap]) ∧ Below w.heap.size w w' := by
  have HB := hide ((Below.refl w.heap.size w).alloc (Nat.le_refl _) (.cells #[.int .u8 k, .int .u16 0, .slice a len cap] 55))
  go_enter Tryz.func138, Tryz.ntmps138
  go_wp2
  refine bodyPost_ret (v := .agg #[.int .u8 k, .int .u16 0, .slice a len cap]) (by simp [results, Tryz.results138, go_sem]) rfl ?_
  exact ⟨rfl, HB.out⟩

/-- What a call that makes an expression answers. -/
def Made (base : Nat) (w : World) (n : Nat) (t : Ex n) (e : Ending) (w' : World) : Prop := ∃ (y : Nd) (S : List Nat), e = .returned (.agg #[.int .u8 y.k, .int .u16 y.s, .slice y.a y.l y.c]) ∧ Tr w' n t y S ∧ S.Nodup ∧ (∀ b ∈ S, base ≤ b) ∧ Below w.heap.size w w'

set_option maxHeartbeats 1600000 in
theorem together_any (base k n : Nat) (l : List (Ex n)) (v : Value) (ys : List Nd) (Ss : List (List Nat)) (w : World) (hk : k < 256) (hl : l.length ≤ 4000) (h : Mkg base w n l v ys Ss) :
    Calls Tryz.prog 116 #[.int .u8 k, v] w fun e w' => Made base w (n + 1) (togE k l) e w' := by
  match l, hl, h with
  | [], _, h =>
    have hform : ∃ a cap, v = .slice a 0 cap := by
      rcases h.1.2 with ⟨rfl, _⟩ | ⟨g, cap, cur, rfl, _⟩
      · exact ⟨_, _, rfl⟩
      · exact ⟨_, _, rfl⟩
    obtain ⟨a, cap, rfl⟩ := hform
    have HB := hide ((Below.refl w.heap.size w).alloc (Nat.le_refl _) (.cells #[.int .u8 0, .int .u16 0, .slice none 0 0] 55))
    clear h
    go_enter Tryz.func116, Tryz.ntmps116
    go_wp2
    refine bodyPost_ret (v := .agg #[.int .u8 0, .int .u16 0, .slice none 0 0]) (by simp [results, Tryz.results116, go_sem]) rfl ?_
    exact ⟨⟨0, 0, none, 0, 0⟩, [], rfl, ⟨rfl, rfl, by show (0 : Nat) < 256; omega, by show (0 : Nat) < 65536; omega, Nat.le_refl _, by show (0 : Nat) ≤ maxLen; unfold maxLen; omega, rfl, .inl ⟨rfl, rfl⟩⟩, by simp, (fun b hb => by cases hb), HB.out⟩
  | [x], _, h =>
    obtain ⟨h1, h2, h3, h4, h5, h6, h7⟩ := h
    obtain ⟨y, rfl⟩ : ∃ y, ys = [y] := by
      match ys, h2 with
      | [y], _ => exact ⟨y, rfl⟩
    obtain ⟨S, rfl⟩ : ∃ S, Ss = [S] := by
      match Ss, h3 with
      | [S], _ => exact ⟨S, rfl⟩
    have hT := h4 0 x y S rfl rfl rfl
    have hlt := tr_lt n x y S hT
    obtain ⟨g, cap, cur, rfl, hg, hcur, q1, q2, q3, q4⟩ : ∃ g cap cur, v = .slice (some ⟨g, 0, none⟩) 1 cap ∧ base ≤ g ∧ w.heap[g]? = some (.cells cur 55 (0, 0)) ∧ 1 ≤ cap ∧ cap ≤ maxLen ∧ cur.size = cap * 3 ∧ cur.toList.take (1 * 3) = cellsN [y] := by
      rcases h1.2 with ⟨_, h0⟩ | h0
      · simp at h0
      · exact h0
    have hc : ∀ j u, (cellsN [y])[j]? = some u → w.cell? ⟨g, j, none⟩ = some u := fun j u hj => by
      rw [cell_of_row w g j cur 55 (0, 0) hcur]
      rw [← q4] at hj
      have := List.getElem?_take_of_lt (l := cur.toList) (i := j) (j := 1 * 3) (by have := (List.getElem?_eq_some_iff.1 hj).1; simp at this; omega)
      rw [this] at hj
      simpa using hj
    have c0 := hc 0 (.int .u8 y.k) (by simp [cellsN, cellsO])
    have c1 := hc 1 (.int .u16 y.s) (by simp [cellsN, cellsO])
    have c2 := hc 2 (.slice y.a y.l y.c) (by simp [cellsN, cellsO])
    have d0 := cell_allocU c0 (.cells #[.int .u8 0, .int .u16 0, .slice none 0 0] 55)
    have d1 := cell_allocU c1 (.cells #[.int .u8 0, .int .u16 0, .slice none 0 0] 55)
    have d2 := cell_allocU c2 (.cells #[.int .u8 0, .int .u16 0, .slice none 0 0] 55)
    have hb' := (Below.refl w.heap.size w).alloc (Nat.le_refl _) (.cells #[.int .u8 y.k, .int .u16 y.s, .slice y.a y.l y.c] 55)
    have HB := hide hb'
    have HT := hide (tr_lift n x y S (tr_keep n x y S (fun b hb => hb'.block b (hlt b hb)) hT))
    have HN := hide (show S.Nodup by simpa using h5)
    have HS := hide (show ∀ b ∈ S, base ≤ b from fun b hb => (h6 b (by simpa using hb)).1)
    clear h1 h2 h3 h4 h5 h6 h7 hT hlt hc hb' hcur q4
    go_enter Tryz.func116, Tryz.ntmps116
    go_wp2
    refine bodyPost_ret (v := .agg #[.int .u8 y.k, .int .u16 y.s, .slice y.a y.l y.c]) (by simp [results, Tryz.results116, go_sem]) rfl ?_
    exact ⟨y, S, rfl, HT.out, HN.out, HS.out, HB.out⟩
  | x1 :: x2 :: r, hl, h =>
    obtain ⟨len, hlen⟩ : ∃ len, (x1 :: x2 :: r).length = len := ⟨_, rfl⟩
    have hlen2 : 2 ≤ len ∧ len ≤ 4000 := by rw [← hlen]; exact ⟨by simp, hl⟩
    obtain ⟨a, len', cap, S, rfl, hT, hN, hS⟩ := mkg_end h hk (show (0 : Nat) < 65536 by omega)
    have e : len' = len := by
      have e1 := hT.2.2.2.2.2.2.1
      have e2 : (x1 :: x2 :: r).length = len' := e1
      omega
    subst e
    have hlt := tr_lt _ _ _ _ hT
    have HT := hide hT
    have HN := hide hN
    have HS := hide hS
    have HL := hide hlt
    have HB0 := hide ((Below.refl w.heap.size w).alloc (Nat.le_refl _) (.cells #[.int .u8 0, .int .u16 0, .slice none 0 0] 55))
    have HST := hide (heap_alloc_last w (.cells #[.int .u8 0, .int .u16 0, .slice none 0 0] 55))
    have y0 : ((len' : Int) == 0) = false := by simp; omega
    have y1 : ((len' : Int) == 1) = false := by simp; omega
    clear h hT hN hS hl hlt hlen
    go_enter Tryz.func116, Tryz.ntmps116
    go_wp2_with fail
    refine (mknode_any k a len' cap _).mono ?_
    rintro e w1 ⟨rfl, hb⟩
    have hst : St3 w1 w.heap.size 0 0 (.slice none 0 0) := (hb.block _ (by simp)).trans HST.out
    obtain ⟨m0, m1, m2, m3⟩ := st3_cells hst
    have m4 := m3 0
    have m5 := m3 1
    have m6 := m3 2
    have HB1 := hide (HB0.out.trans (hb.mono HB0.out.size))
    clear m3 hb hst
    go_wp2
    refine bodyPost_ret (v := .agg #[.int .u8 k, .int .u16 0, .slice a len' cap]) (by simp [results, Tryz.results116, go_sem, m0, m1, m2]) rfl ?_
    have hbf := ((HB1.out.setCell (p := ⟨w.heap.size, 0, none⟩) (by simp) (.int .u8 k)).setCell (p := ⟨w.heap.size, 1, none⟩) (by simp) (.int .u16 0)).setCell (p := ⟨w.heap.size, 2, none⟩) (by simp) (.slice a len' cap)
    refine ⟨⟨k, 0, a, len', cap⟩, S, rfl, ?_, HN.out, HS.out, hbf⟩
    exact tr_keep _ _ _ _ (fun b hb => hbf.block b (HL.out b hb)) HT.out
end Go.Proofs.YtbbfjjjnifomgaaGreatDoor.A


