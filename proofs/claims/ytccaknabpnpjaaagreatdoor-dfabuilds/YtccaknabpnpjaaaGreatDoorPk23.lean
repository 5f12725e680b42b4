/- The reader's letters and sets. -/
import Derived.Test.YtccaknabpnpjaaaGreatDoorPk22
import Derived.Test.YtccaknabpnpjaaaGreatDoorPk15
namespace Go.Proofs.YtccaknabpnpjaaaGreatDoor.A
open Go.RowKit
set_option linter.unusedVariables false

def lets : List UInt8 := [79, 67, 86, 78, 72, 77, 83, 82, 74, 87, 68, 75, 71, 84, 81, 88]
/-- A byte's category; -1: none. -/
def catB (c : Nat) : Int := Lib.indexByte lets c.toUInt8
/-- The category of the next byte, as a bit. -/
def letF (L : ByteArray) (i : Nat) : Option Nat := if i < L.size then (if catB (by8 L i) < 0 then none else some (2 ^ (catB (by8 L i)).toNat)) else none
theorem index_lt : ∀ (l : List UInt8) (c : UInt8), Lib.indexByte l c < (l.length : Int)
  | [], _ => by simp [Lib.indexByte]
  | b :: l, c => by
    have := index_lt l c
    unfold Lib.indexByte
    split
    · simp only [List.length_cons]; omega
    · split <;> simp only [List.length_cons] <;> omega
theorem catB_le (c : Nat) : -1 ≤ catB c ∧ catB c < 16 := ⟨Lib.indexByte_ge _ _, index_lt lets _⟩

theorem pow_u16 : ∀ k : Nat, k < 16 → IntKind.u16.wrap ((2 : Int) ^ k) = ((2 ^ k : Nat) : Int) := by decide
theorem ret_u16 {a b : Int} (h : a = b) : Ending.returned (.int .u16 a) = .returned (.int .u16 b) := by rw [h]
set_option maxHeartbeats 1600000 in
theorem letter_yes (q : Nat) (L : ByteArray) (i : Nat) (w : World) (hlt : i < L.size) (hL : L.size ≤ 2000) (h : Rd w q L i) (k : Nat) (hk : catB (by8 L i) = k) (hk2 : k < 16) :
    Calls Tryz.prog 112 #[.pointer (some ⟨q, 0, none⟩)] w fun e w' => e = .returned (.int .u16 (2 ^ k : Nat)) ∧ Rd w' q L (i + 1) ∧ w.grownBy w' (some q) := by
  obtain ⟨p0, p1, f0, f1⟩ := rd_cells h
  have HR := hide h
  clear h
  have hi0 : (0 : Int) ≤ (i : Int) := by omega
  have hlt' : (i : Int) < (L.size : Int) := by omega
  have g1 : decide ((i : Int) = (L.size : Int)) = false := by simp; omega
  have g1' : ((i : Int) == (L.size : Int)) = false := by simp; omega
  have e8 : by8 L i = (L[i]'hlt).toNat := by unfold by8; rw [dif_pos hlt]
  have HK := hide (show ∀ u : World, Calls Tryz.prog 116 #[.string { data := #[79, 67, 86, 78, 72, 77, 83, 82, 74, 87, 68, 75, 71, 84, 81, 88] }, .int .u8 ((L[i]'hlt).toNat : Nat)] u fun e w' => e = .returned (.int .i64 (k : Nat)) ∧ w' = u from fun u => by
    refine (Tryz.strings_IndexByte _ _ _).mono ?_
    rintro e w1 ⟨rfl, rfl⟩
    refine ⟨?_, rfl⟩
    rw [← hk, e8]
    rfl)
  clear hk e8
  go_enter Tryz.func112, Tryz.ntmps112
  go_wp2
  go_quiet (fail)
  go_wp2_with fail
  have HR2 := hide (rd_drewN HR.out nq)
  have HG2 := hide (gb_drewN w (some q) nq)
  clear p0 p1 f0 f1
  generalize w.drewN nq = W at *
  obtain ⟨p0, p1, f0, f1⟩ := rd_cells HR2.out
  go_quiet ((go_at_call 116; exact Calls.quiet_of_same (HK.out _)))
  go_wp2
  go_ret
  refine ⟨ret_u16 (pow_u16 k hk2), rd_set (rd_drewN HR2.out _) (i + 1), gb_trans HG2.out (gb_trans (gb_drewN _ _ _) (gb_set _ _ _ _))⟩
set_option maxHeartbeats 1600000 in
theorem letter_no (q : Nat) (L : ByteArray) (i : Nat) (w : World) (hi : i ≤ L.size) (hL : L.size ≤ 2000) (h : Rd w q L i) (hn : letF L i = none) :
    Calls Tryz.prog 112 #[.pointer (some ⟨q, 0, none⟩)] w fun e w' => e = .panicked gave ∧ w.grownBy w' (some q) := by
  obtain ⟨p0, p1, f0, f1⟩ := rd_cells h
  have HR := hide h
  clear h
  have hi0 : (0 : Int) ≤ (i : Int) := by omega
  by_cases hlt : i < L.size
  · have hlt' : (i : Int) < (L.size : Int) := by omega
    have g1 : decide ((i : Int) = (L.size : Int)) = false := by simp; omega
    have g1' : ((i : Int) == (L.size : Int)) = false := by simp; omega
    have e8 : by8 L i = (L[i]'hlt).toNat := by unfold by8; rw [dif_pos hlt]
    have hneg : catB (by8 L i) = -1 := by
      unfold letF at hn
      rw [if_pos hlt] at hn
      have := (catB_le (by8 L i)).1
      by_cases h0 : catB (by8 L i) < 0
      · omega
      · rw [if_neg h0] at hn; cases hn
    have HK := hide (show ∀ u : World, Calls Tryz.prog 116 #[.string { data := #[79, 67, 86, 78, 72, 77, 83, 82, 74, 87, 68, 75, 71, 84, 81, 88] }, .int .u8 ((L[i]'hlt).toNat : Nat)] u fun e w' => e = .returned (.int .i64 (-1)) ∧ w' = u from fun u => by
      refine (Tryz.strings_IndexByte _ _ _).mono ?_
      rintro e w1 ⟨rfl, rfl⟩
      refine ⟨?_, rfl⟩
      rw [← hneg, e8]
      rfl)
    clear hn e8 hneg
    go_enter Tryz.func112, Tryz.ntmps112
    go_wp2
    go_quiet (fail)
    go_wp2_with fail
    have HR2 := hide (rd_drewN HR.out nq)
    have HG2 := hide (gb_drewN w (some q) nq)
    clear p0 p1 f0 f1
    generalize w.drewN nq = W at *
    obtain ⟨p0, p1, f0, f1⟩ := rd_cells HR2.out
    go_quiet ((go_at_call 116; exact Calls.quiet_of_same (HK.out _)))
    go_wp2
    exact ⟨rfl, rfl, gb_trans HG2.out (gb_drewN _ _ _)⟩
  · have e : i = L.size := by omega
    subst e
    clear hn
    go_enter Tryz.func112, Tryz.ntmps112
    go_wp2
    go_quiet (fail)
    go_wp2
    exact ⟨rfl, rfl, gb_drewN _ _ _⟩

theorem letF_some {L : ByteArray} {i m : Nat} (h : letF L i = some m) : i < L.size ∧ ∃ k : Nat, k < 16 ∧ catB (by8 L i) = k ∧ m = 2 ^ k := by
  unfold letF at h
  by_cases hlt : i < L.size
  · rw [if_pos hlt] at h
    by_cases h0 : catB (by8 L i) < 0
    · rw [if_pos h0] at h; cases h
    · rw [if_neg h0] at h
      have := (catB_le (by8 L i)).2
      exact ⟨hlt, (catB (by8 L i)).toNat, by omega, by omega, (Option.some.inj h).symm⟩
  · rw [if_neg hlt] at h; cases h
theorem two_lt : ∀ k : Nat, k < 16 → 2 ^ k < 65536 := by decide
theorem letF_lt {L : ByteArray} {i m : Nat} (h : letF L i = some m) : m < 65536 := by
  obtain ⟨_, k, hk, _, rfl⟩ := letF_some h
  exact two_lt k hk

/-- The letters up to a closing bracket. -/
def setL (L : ByteArray) : Nat → Nat → Nat → Option (Nat × Nat)
  | 0, _, _ => none
  | f + 1, s, i => if tk L i 93 = true then some (s, i + 1) else match letF L i with
    | none => none
    | some m => if s &&& m = 0 then setL L f (s ||| m) (i + 1) else none
def setF (L : ByteArray) (i : Nat) : Option (Nat × Nat) := match letF L i with
  | none => none
  | some m => setL L (L.size + 1) m (i + 1)
/-- What a call that tells a set answers. -/
def OutS (w : World) (q : Nat) (L : ByteArray) (R : Option (Nat × Nat)) (e : Ending) (w' : World) : Prop := match R with
  | none => e = .panicked gave ∧ w.grownBy w' (some q)
  | some (s, j) => e = .returned (.int .u16 s) ∧ s < 65536 ∧ j ≤ L.size ∧ Rd w' q L j ∧ w.grownBy w' (some q)
/-- Where a reader is. -/
def posOf (w : World) (q : Nat) : Nat := match w.cell? ⟨q, 1, none⟩ with
  | some (.int _ z) => z.toNat
  | _ => 0
theorem pos_rd {w : World} {q : Nat} {L : ByteArray} {i : Nat} (h : Rd w q L i) : posOf w q = i := by
  unfold posOf
  rw [(rd_cells h).2.1]
  simp
end Go.Proofs.YtccaknabpnpjaaaGreatDoor.A

/- The reader's set. -/
namespace Go.Proofs.YtccaknabpnpjaaaGreatDoor.A
open Go.RowKit
set_option linter.unusedVariables false

theorem bits_both (a b : Nat) (ha : a < 65536) (hb : b < 65536) : bits BinOp.and IntKind.u16 (a : Int) (b : Int) = ((a &&& b : Nat) : Int) ∧ bits BinOp.or IntKind.u16 (a : Int) (b : Int) = ((a ||| b : Nat) : Int) :=
  bits_nat .u16 16 (by decide) (fun n h0 h1 => by rw [IntKind.wrap_u16]; omega) a b ha hb
theorem or_lt16 {a b : Nat} (ha : a < 65536) (hb : b < 65536) : a ||| b < 65536 := Nat.or_lt_two_pow (n := 16) ha hb
set_option maxHeartbeats 3200000 in
theorem set_any (q : Nat) (L : ByteArray) (i : Nat) (w : World) (hi : i ≤ L.size) (hL : L.size ≤ 2000) (h : Rd w q L i) :
    Calls Tryz.prog 111 #[.pointer (some ⟨q, 0, none⟩)] w fun e w' => OutS w q L (setF L i) e w' := by
  have HR := hide h
  clear h
  cases hl : letF L i with
  | none =>
    have HF := hide (show setF L i = none by unfold setF; rw [hl])
    have HL := hide hl
    clear hl
    go_enter Tryz.func111, Tryz.ntmps111
    go_wp2_with fail
    refine (letter_no q L i w hi hL HR.out HL.out).mono ?_
    rintro e w1 ⟨rfl, h1⟩
    have H1 := hide h1
    clear h1
    go_wp2
    refine ⟨rfl, ?_⟩
    rw [HF.out]
    exact ⟨rfl, H1.out⟩
  | some m =>
    obtain ⟨hlt, k, hk, hc, rfl⟩ := letF_some hl
    have HF := hide (show setF L i = setL L (L.size + 1) (2 ^ k) (i + 1) by unfold setF; rw [hl])
    have hm := letF_lt hl
    have HC := hide hc
    clear hl hc
    go_enter Tryz.func111, Tryz.ntmps111
    go_wp2_with fail
    refine (letter_yes q L i w hlt hL HR.out k HC.out hk).mono ?_
    rintro e w1 ⟨rfl, h1, h2⟩
    have H1 := hide h1
    have H2 := hide h2
    generalize 2 ^ k = m at *
    clear h1 h2 HR
    go_wp2_with fail
    go_loopw [3, 4] (fun s _ wr => ∃ (a j f : Nat), s = .int .u16 a ∧ a < 65536 ∧ j ≤ L.size ∧ L.size < j + f ∧ Rd wr q L j ∧ w.grownBy wr (some q) ∧ setL L f a j = setF L i) (fun _ _ wr => L.size + 1 - posOf wr q)
    case atStart => exact ⟨m, i + 1, L.size + 1, rfl, hm, by omega, by omega, H1.out, H2.out, HF.out.symm⟩
    case round =>
      obtain ⟨a, j, f, rfl, ha, hj, hf, hrd, hg, hs⟩ := hrel
      obtain ⟨f, rfl⟩ : ∃ f', f = f' + 1 := ⟨f - 1, by omega⟩
      have HRD := hide hrd
      have HG := hide hg
      have HPO := hide (pos_rd hrd)
      have HS := hide (show (if tk L j 93 = true then some (a, j + 1) else match letF L j with
        | none => none
        | some m => if a &&& m = 0 then setL L f (a ||| m) (j + 1) else none) = setF L i from hs)
      clear hrd hg hs
      go_wp2_with fail
      refine (takes_any q L j 93 wr hj hL HRD.out).mono ?_
      rintro e w2 ⟨rfl, h3, h4⟩
      have HG2 := hide (gb_trans HG.out h4)
      cases ht : tk L j 93 with
      | true =>
        rw [nx_yes ht] at h3
        have H3 := hide h3
        have HJ := hide (tk_lt ht)
        rw [ht] at HS
        have HS2 := hide (show some (a, j + 1) = setF L i from HS.out)
        clear h3 h4 ht HS
        go_wp2
        go_ret
        rw [← HS2.out]
        exact ⟨rfl, ha, HJ.out, H3.out, HG2.out⟩
      | false =>
        rw [nx_no ht] at h3
        have H3 := hide h3
        rw [ht] at HS
        clear h3 h4 ht
        cases hl : letF L j with
        | none =>
          rw [hl] at HS
          have HS2 := hide (show none = setF L i from HS.out)
          have HL := hide hl
          clear HS hl
          go_wp2_with fail
          refine (letter_no q L j w2 hj hL H3.out HL.out).mono ?_
          rintro e w3 ⟨rfl, h5⟩
          have HG3 := hide (gb_trans HG2.out h5)
          clear h5
          go_wp2
          refine ⟨rfl, ?_⟩
          rw [← HS2.out]
          exact ⟨rfl, HG3.out⟩
        | some m2 =>
          rw [hl] at HS
          obtain ⟨hlt2, k2, hk2, hc2, rfl⟩ := letF_some hl
          have hm2 := letF_lt hl
          have HC2 := hide hc2
          clear hl hc2
          go_wp2_with fail
          refine (letter_yes q L j w2 hlt2 hL H3.out k2 HC2.out hk2).mono ?_
          rintro e w3 ⟨rfl, h5, h6⟩
          have H5 := hide h5
          have HG3 := hide (gb_trans HG2.out h6)
          have HPN := hide (pos_rd h5)
          generalize 2 ^ k2 = m2 at *
          clear h5 h6
          obtain ⟨hb1, hb2⟩ := bits_both a m2 ha hm2
          by_cases hand : a &&& m2 = 0
          · have HS2 := hide (show setL L f (a ||| m2) (j + 1) = setF L i from by
              have := HS.out
              simp only [Bool.false_eq_true, if_false, hand, if_true] at this
              exact this)
            clear HS
            have hor := or_lt16 ha hm2
            rw [hand] at hb1
            generalize a ||| m2 = a2 at *
            go_wp2
            exact ⟨⟨a2, j + 1, f, rfl, hor, hlt2, by omega, H5.out, HG3.out, HS2.out⟩, by rw [HPN.out, HPO.out]; omega⟩
          · have HS2 := hide (show none = setF L i from by
              have := HS.out
              simp only [Bool.false_eq_true, if_false, hand] at this
              exact this)
            clear HS
            have hne : ((a &&& m2 : Nat) : Int) ≠ 0 := by omega
            have hne2 : (((a &&& m2 : Nat) : Int) != 0) = true := by simp; omega
            generalize a &&& m2 = a2 at *
            go_wp2
            refine ⟨rfl, ?_⟩
            rw [← HS2.out]
            exact ⟨rfl, HG3.out⟩
end Go.Proofs.YtccaknabpnpjaaaGreatDoor.A

/- The program's hasEmpty, Empty. -/
namespace Go.Proofs.YtccaknabpnpjaaaGreatDoor.A
open Go.RowKit

/-- What a function tells of an expression. -/
def Asks (F : FuncId) (n : Nat) (f : Ex n → Bool) : Prop := ∀ (x : Ex n) (v : Value) (w : World), Rx w n x v → shapesE n x = true → Calls Tryz.prog F #[v] w fun e w' => e = .returned (.bool (f x)) ∧ Below w.heap.size w w'

def idxB {α : Type} (f : α → Bool) : List α → Bool := fun l => l.any f
set_option maxHeartbeats 1600000 in
theorem index_any (F : FuncId) (hF : F = 78 ∨ F = 92) (n : Nat) (f : Ex n → Bool) (ih : Asks F n f) (a : Option Addr) (len cap : Nat) (l : List (Ex n)) (w : World) (hl : len ≤ maxLen) (h6 : l.length = len) (hkids : Kids w n a len l) (hsh : ∀ x ∈ l, shapesE n x = true) :
    Calls Tryz.prog 61 #[.slice a len cap, .func (.func F) #[] #[]] w fun e w' => ∃ z : Int, e = .returned (.int .i64 z) ∧ decide (0 ≤ z) = l.any f ∧ Below w.heap.size w w' := by
  unfold maxLen at hl
  have HK := hide hkids
  have HL := hide h6
  have HS := hide hsh
  have HI := hide ih
  unfold Asks at HI
  clear hkids h6 hsh ih
  rcases hF with rfl | rfl
  all_goals
    go_enter Tryz.func61, Tryz.ntmps61
    go_wp2_with fail
    go_loopw [5, 8] (fun _ u wr => ∃ i : Nat, i ≤ len ∧ u = .int .i64 i ∧ (l.take i).any f = false ∧ Below w.heap.size w wr) (fun _ u _ => len - (intOf u).toNat)
    case atStart => exact ⟨0, Nat.zero_le _, rfl, rfl, Below.refl _ _⟩
    case round =>
      obtain ⟨i, hi, rfl, hd, hb⟩ := hrel
      have HD := hide hd
      have HBW := hide hb
      clear hd
      by_cases hlt : i < len
      · obtain ⟨x, b, off, c0, c1, c2, rfl, hx, k0, k1, k2, k3⟩ := HK.out wr hb i hlt
        have HSX := hide (HS.out x (List.mem_of_getElem? hx))
        have HN := hide (show (l.take (i + 1)).any f = f x from by rw [take_at hx, List.any_append, HD.out]; simp)
        have HIN := hide (show f x = true → l.any f = true from fun g => List.any_eq_true.2 ⟨x, List.mem_of_getElem? hx, g⟩)
        have HK3 := hide k3
        have i3 : (0 : Int) ≤ (i : Int) := by omega
        have i4 : (i : Int) < (len : Int) := by omega
        clear hx k3 hb
        go_wp2_with fail
        refine (HI.out x _ wr HK3.out HSX.out).mono ?_
        rintro e w2 ⟨rfl, hb2⟩
        have HB2 := hide (HBW.out.trans (hb2.mono HBW.out.size))
        clear hb2
        cases hf : f x
        · have HF := hide hf
          clear hf
          go_wp2
          go_roundw
          case rel => exact ⟨i + 1, by omega, by go_num, by rw [HN.out, HF.out], HB2.out⟩
          case measure => simp [intOf]; omega
        · have HF := hide hf
          clear hf
          go_wp2
          go_ret
          exact ⟨(i : Int), rfl, by rw [HIN.out HF.out]; simp, HB2.out⟩
      · have e : i = len := by omega
        subst e
        have HT := hide (show l.take i = l from List.take_of_length_le (by have := HL.out; omega))
        clear hb
        go_wp2
        go_ret
        exact ⟨-1, rfl, by rw [← HT.out, HD.out]; rfl, HBW.out⟩
set_option maxHeartbeats 800000 in
theorem contains_any (F : FuncId) (hF : F = 78 ∨ F = 92) (n : Nat) (f : Ex n → Bool) (ih : Asks F n f) (a : Option Addr) (len cap : Nat) (l : List (Ex n)) (w : World) (hl : len ≤ maxLen) (h6 : l.length = len) (hkids : Kids w n a len l) (hsh : ∀ x ∈ l, shapesE n x = true) :
    Calls Tryz.prog 40 #[.slice a len cap, .func (.func F) #[] #[]] w fun e w' => e = .returned (.bool (l.any f)) ∧ Below w.heap.size w w' := by
  have HC := hide (index_any F hF n f ih a len cap l w hl h6 hkids hsh)
  clear hkids h6 hsh ih
  go_enter Tryz.func40, Tryz.ntmps40
  go_wp2_with fail
  refine HC.out.mono ?_
  rintro e w2 ⟨z, rfl, hz, hb2⟩
  have HB := hide hb2
  clear hb2 HC
  cases hg : l.any f
  · have hz' : decide (0 ≤ z) = false := hz.trans hg
    have HG := hide hg
    clear hg hz
    go_wp2
    go_ret
    exact ⟨by rw [HG.out]; rfl, HB.out⟩
  · have hz' : decide (0 ≤ z) = true := hz.trans hg
    have HG := hide hg
    clear hg hz
    go_wp2
    go_ret
    exact ⟨by rw [HG.out]; rfl, HB.out⟩
set_option maxHeartbeats 800000 in
theorem not_asks (n : Nat) (f : Ex n → Bool) (ih : Asks 78 n f) : Asks 92 n (fun x => !f x) := by
  intro x v w h hsh
  obtain ⟨c0, c1, c2, rfl⟩ := rx_form h
  have HB0 := hide ((Below.refl w.heap.size w).alloc (Nat.le_refl _) (.cells #[c0, c1, c2] 38))
  have HC := hide (ih x _ _ (rx_below HB0.out n x _ h) hsh)
  clear ih h
  go_enter Tryz.func92, Tryz.ntmps92
  go_wp2_with fail
  refine HC.out.mono ?_
  rintro e w1 ⟨rfl, hb1⟩
  have HB1 := hide (HB0.out.trans (hb1.mono HB0.out.size))
  clear hb1 HC
  go_wp2
  go_ret
  exact ⟨rfl, HB1.out⟩
theorem all_not {α : Type} (f : α → Bool) : ∀ l : List α, (!(l.any (fun x => !f x))) = l.all f
  | [] => rfl
  | x :: r => by rw [List.any_cons, List.all_cons, ← all_not f r]; cases f x <;> simp
set_option maxHeartbeats 1600000 in
/-- hasEmpty. -/
theorem empty_asks : ∀ (n : Nat), Asks 78 n (fun x => emptyE n x) := by
  intro n
  induction n with
  | zero => intro t v w h; exact h.elim
  | succ n ih =>
    intro t v w h hsh
    obtain ⟨a, len, cap, rfl, hk, hs, hl, h6, hkids⟩ := rx_open h
    obtain ⟨hok, hall⟩ : okE (kd t) (st t) (ks t).length = true ∧ ∀ x ∈ ks t, shapesE n x = true := by
      have e : (okE (kd t) (st t) (ks t).length && (ks t).all (fun x => shapesE n x)) = true := hsh
      rw [Bool.and_eq_true, List.all_eq_true] at e
      exact e
    have HE := hide (show emptyE (n + 1) t = if kd t = 0 then true else if kd t = 1 then false else if kd t = 2 then (ks t).all (fun x => emptyE n x) else if kd t = 3 then (ks t).any (fun x => emptyE n x) else if kd t = 4 ∨ kd t = 5 then (ks t).head?.isSome else false from rfl)
    rw [h6] at hok
    have HML := hide hl
    unfold maxLen at hl
    generalize kd t = kk at *
    generalize st t = ss at *
    generalize ks t = l at *
    have HB0 := hide ((Below.refl w.heap.size w).alloc (Nat.le_refl _) (.cells #[.int .u8 kk, .int .u16 ss, .slice a len cap] 38))
    have HK := hide hkids
    have HS := hide hall
    have HL := hide h6
    have HI := hide ih
    have hkk : kk = 0 ∨ kk = 1 ∨ kk = 2 ∨ kk = 3 ∨ (kk = 4 ∨ kk = 5) ∧ len = 1 := by
      unfold okE at hok
      simp only [Bool.or_eq_true, Bool.and_eq_true, decide_eq_true_eq] at hok
      omega
    have HKB := hide (fun W (hb : Below w.heap.size w W) => (fun V hV => hkids V (hb.trans (hV.mono hb.size)) : Kids W n a len l))
    clear h hkids hsh hok hall h6 ih
    rcases hkk with e | e | e | e | ⟨e, e1⟩
    · have y1 : ((kk : Int) == 1) = false := by simp; omega
      have y2 : ((kk : Int) == 2) = false := by simp; omega
      have y3 : ((kk : Int) == 3) = false := by simp; omega
      have HR := hide (show emptyE (n + 1) t = true from by rw [HE.out, if_pos e])
      clear e
      go_enter Tryz.func78, Tryz.ntmps78
      go_wp2
      go_ret
      exact ⟨by show _ = Ending.returned (.bool (emptyE (n + 1) t)); rw [HR.out]; rfl, HB0.out⟩
    · have y1 : ((kk : Int) == 1) = true := by simp; omega
      have HR := hide (show emptyE (n + 1) t = false from by rw [HE.out, if_neg (by omega), if_pos e])
      clear e
      go_enter Tryz.func78, Tryz.ntmps78
      go_wp2
      go_ret
      exact ⟨by show _ = Ending.returned (.bool (emptyE (n + 1) t)); rw [HR.out]; rfl, HB0.out⟩
    · have y1 : ((kk : Int) == 1) = false := by simp; omega
      have y2 : ((kk : Int) == 2) = true := by simp; omega
      have HR := hide (show emptyE (n + 1) t = !(l.any (fun x => !emptyE n x)) from by rw [HE.out, if_neg (by omega), if_neg (by omega), if_pos e, all_not])
      clear e
      go_enter Tryz.func78, Tryz.ntmps78
      go_wp2_with fail
      refine (contains_any 92 (.inr rfl) n _ (not_asks n _ HI.out) a len cap l _ HML.out HL.out (HKB.out _ HB0.out) HS.out).mono ?_
      rintro e w1 ⟨rfl, hb1⟩
      have HB1 := hide (HB0.out.trans (hb1.mono HB0.out.size))
      clear hb1
      go_wp2
      go_ret
      exact ⟨by show _ = Ending.returned (.bool (emptyE (n + 1) t)); rw [HR.out]; rfl, HB1.out⟩
    · have y1 : ((kk : Int) == 1) = false := by simp; omega
      have y2 : ((kk : Int) == 2) = false := by simp; omega
      have y3 : ((kk : Int) == 3) = true := by simp; omega
      have HR := hide (show emptyE (n + 1) t = l.any (fun x => emptyE n x) from by rw [HE.out, if_neg (by omega), if_neg (by omega), if_neg (by omega), if_pos e])
      clear e
      go_enter Tryz.func78, Tryz.ntmps78
      go_wp2_with fail
      refine (contains_any 78 (.inl rfl) n _ HI.out a len cap l _ HML.out HL.out (HKB.out _ HB0.out) HS.out).mono ?_
      rintro e w1 ⟨rfl, hb1⟩
      have HB1 := hide (HB0.out.trans (hb1.mono HB0.out.size))
      clear hb1
      go_wp2
      go_ret
      exact ⟨by show _ = Ending.returned (.bool (emptyE (n + 1) t)); rw [HR.out]; rfl, HB1.out⟩
    · have y1 : ((kk : Int) == 1) = false := by simp; omega
      have y2 : ((kk : Int) == 2) = false := by simp; omega
      have y3 : ((kk : Int) == 3) = false := by simp; omega
      have HR := hide (show emptyE (n + 1) t = true from by
        rw [HE.out, if_neg (by omega), if_neg (by omega), if_neg (by omega), if_neg (by omega), if_pos e]
        cases l with
        | nil => have := HL.out; simp at this; omega
        | cons x r => rfl)
      clear e e1
      go_enter Tryz.func78, Tryz.ntmps78
      go_wp2
      go_ret
      exact ⟨by show _ = Ending.returned (.bool (emptyE (n + 1) t)); rw [HR.out]; rfl, HB0.out⟩
theorem right_shapes {n : Nat} {t : Ex n} (h : rightE n t = true) : shapesE n t = true := by
  unfold rightE at h
  simp only [Bool.and_eq_true] at h
  exact h.2.2
set_option maxHeartbeats 800000 in
/-- Empty. -/
theorem empty_any (n : Nat) (t : Ex n) (v : Value) (w : World) (h : Rx w n t v) :
    Calls Tryz.prog 59 #[v] w fun e w' => e = .returned (.bool (rightE n t && emptyE n t)) ∧ Below w.heap.size w w' := by
  obtain ⟨c0, c1, c2, rfl⟩ := rx_form h
  obtain ⟨p0, p1, p2⟩ := box3 w c0 c1 c2 38
  have HX := hide h
  have HB0 := hide ((Below.refl w.heap.size w).alloc (Nat.le_refl _) (.cells #[c0, c1, c2] 38))
  clear h
  go_enter Tryz.func59, Tryz.ntmps59
  go_wp2_with fail
  refine (right_any n t _ _ (rx_below HB0.out n t _ HX.out)).mono ?_
  rintro e w1 ⟨rfl, hb1⟩
  have r0 := (hb1.cell (p := ⟨w.heap.size, 0, none⟩) (cell_lt p0)).trans p0
  have r1 := (hb1.cell (p := ⟨w.heap.size, 1, none⟩) (cell_lt p1)).trans p1
  have r2 := (hb1.cell (p := ⟨w.heap.size, 2, none⟩) (cell_lt p2)).trans p2
  have HB1 := hide (HB0.out.trans (hb1.mono HB0.out.size))
  clear hb1 p0 p1 p2
  cases hr : rightE n t with
  | false =>
    have HR := hide hr
    clear hr
    go_wp2
    go_ret
    exact ⟨by rw [HR.out]; rfl, HB1.out⟩
  | true =>
    have HR := hide hr
    clear hr
    go_wp2_with fail
    refine (empty_asks n t _ _ (rx_below HB1.out n t _ HX.out) (right_shapes HR.out)).mono ?_
    rintro e w2 ⟨rfl, hb2⟩
    have HB2 := hide (HB1.out.trans (hb2.mono HB1.out.size))
    clear hb2
    go_wp2
    go_ret
    exact ⟨by rw [HR.out]; rfl, HB2.out⟩
end Go.Proofs.YtccaknabpnpjaaaGreatDoor.A
