/- The reader's set. -/
import Derived.Test.YtccaknabpnpjaaaDoorPk21
import Derived.Test.YtccaknabpnpjaaaDoorPk15
import Derived.Laws.OwnMore
import Derived.Deep.AppendLies
namespace Go.Proofs.YtccaknabpnpjaaaDoor.A
open Go.RowKit
set_option linter.unusedVariables false

theorem bits_both (a b : Nat) (ha : a < 65536) (hb : b < 65536) : bits BinOp.and IntKind.u16 (a : Int) (b : Int) = ((a &&& b : Nat) : Int) ∧ bits BinOp.or IntKind.u16 (a : Int) (b : Int) = ((a ||| b : Nat) : Int) :=
  bits_nat .u16 16 (by decide) (fun n h0 h1 => by rw [IntKind.wrap_u16]; omega) a b ha hb
theorem or_lt16 {a b : Nat} (ha : a < 65536) (hb : b < 65536) : a ||| b < 65536 := Nat.or_lt_two_pow (n := 16) ha hb
set_option maxHeartbeats 3200000 in
theorem set_any (q : Nat) (L : ByteArray) (i : Nat) (w : World) (hi : i ≤ L.size) (hL : L.size ≤ 2000) (h : Rd w q L i) :
    Calls Tryd.prog 91 #[.pointer (some ⟨q, 0, none⟩)] w fun e w' => OutS w q L (setF L i) e w' := by
  have HR := hide h
  clear h
  cases hl : letF L i with
  | none =>
    have HF := hide (show setF L i = none by unfold setF; rw [hl])
    have HL := hide hl
    clear hl
    go_enter Tryd.func91, Tryd.ntmps91
    go_wp2_with fail
    refine (letter_no q L i w hi hL HR.out HL.out).mono ?_
    rintro e w1 ⟨rfl, h1⟩
    have H1 := hide h1
    clear h1
    go_wp2
    refine ⟨rfl, ?_⟩
    rw [HF.out]
    exact ⟨rfl, H1.out⟩
  | some m =>
    obtain ⟨hlt, k, hk, hc, rfl⟩ := letF_some hl
    have HF := hide (show setF L i = setL L (L.size + 1) (2 ^ k) (i + 1) by unfold setF; rw [hl])
    have hm := letF_lt hl
    have HC := hide hc
    clear hl hc
    go_enter Tryd.func91, Tryd.ntmps91
    go_wp2_with fail
    refine (letter_yes q L i w hlt hL HR.out k HC.out hk).mono ?_
    rintro e w1 ⟨rfl, h1, h2⟩
    have H1 := hide h1
    have H2 := hide h2
    generalize 2 ^ k = m at *
    clear h1 h2 HR
    go_wp2_with fail
    go_loopw [3, 4] (fun s _ wr => ∃ (a j f : Nat), s = .int .u16 a ∧ a < 65536 ∧ j ≤ L.size ∧ L.size < j + f ∧ Rd wr q L j ∧ w.grownBy wr (some q) ∧ setL L f a j = setF L i) (fun _ _ wr => L.size + 1 - posOf wr q)
    case atStart => exact ⟨m, i + 1, L.size + 1, rfl, hm, by omega, by omega, H1.out, H2.out, HF.out.symm⟩
    case round =>
      obtain ⟨a, j, f, rfl, ha, hj, hf, hrd, hg, hs⟩ := hrel
      obtain ⟨f, rfl⟩ : ∃ f', f = f' + 1 := ⟨f - 1, by omega⟩
      have HRD := hide hrd
      have HG := hide hg
      have HPO := hide (pos_rd hrd)
      have HS := hide (show (if tk L j 93 = true then some (a, j + 1) else match letF L j with
        | none => none
        | some m => if a &&& m = 0 then setL L f (a ||| m) (j + 1) else none) = setF L i from hs)
      clear hrd hg hs
      go_wp2_with fail
      refine (takes_any q L j 93 wr hj hL HRD.out).mono ?_
      rintro e w2 ⟨rfl, h3, h4⟩
      have HG2 := hide (gb_trans HG.out h4)
      cases ht : tk L j 93 with
      | true =>
        rw [nx_yes ht] at h3
        have H3 := hide h3
        have HJ := hide (tk_lt ht)
        rw [ht] at HS
        have HS2 := hide (show some (a, j + 1) = setF L i from HS.out)
        clear h3 h4 ht HS
        go_wp2
        go_ret
        rw [← HS2.out]
        exact ⟨rfl, ha, HJ.out, H3.out, HG2.out⟩
      | false =>
        rw [nx_no ht] at h3
        have H3 := hide h3
        rw [ht] at HS
        clear h3 h4 ht
        cases hl : letF L j with
        | none =>
          rw [hl] at HS
          have HS2 := hide (show none = setF L i from HS.out)
          have HL := hide hl
          clear HS hl
          go_wp2_with fail
          refine (letter_no q L j w2 hj hL H3.out HL.out).mono ?_
          rintro e w3 ⟨rfl, h5⟩
          have HG3 := hide (gb_trans HG2.out h5)
          clear h5
          go_wp2
          refine ⟨rfl, ?_⟩
          rw [← HS2.out]
          exact ⟨rfl, HG3.out⟩
        | some m2 =>
          rw [hl] at HS
          obtain ⟨hlt2, k2, hk2, hc2, rfl⟩ := letF_some hl
          have hm2 := letF_lt hl
          have HC2 := hide hc2
          clear hl hc2
          go_wp2_with fail
          refine (letter_yes q L j w2 hlt2 hL H3.out k2 HC2.out hk2).mono ?_
          rintro e w3 ⟨rfl, h5, h6⟩
          have H5 := hide h5
          have HG3 := hide (gb_trans HG2.out h6)
          have HPN := hide (pos_rd h5)
          generalize 2 ^ k2 = m2 at *
          clear h5 h6
          obtain ⟨hb1, hb2⟩ := bits_both a m2 ha hm2
          by_cases hand : a &&& m2 = 0
          · have HS2 := hide (show setL L f (a ||| m2) (j + 1) = setF L i from by
              have := HS.out
              simp only [Bool.false_eq_true, if_false, hand, if_true] at this
              exact this)
            clear HS
            have hor := or_lt16 ha hm2
            rw [hand] at hb1
            generalize a ||| m2 = a2 at *
            go_wp2
            exact ⟨⟨a2, j + 1, f, rfl, hor, hlt2, by omega, H5.out, HG3.out, HS2.out⟩, by rw [HPN.out, HPO.out]; omega⟩
          · have HS2 := hide (show none = setF L i from by
              have := HS.out
              simp only [Bool.false_eq_true, if_false, hand] at this
              exact this)
            clear HS
            have hne : ((a &&& m2 : Nat) : Int) ≠ 0 := by omega
            have hne2 : (((a &&& m2 : Nat) : Int) != 0) = true := by simp; omega
            generalize a &&& m2 = a2 at *
            go_wp2
            refine ⟨rfl, ?_⟩
            rw [← HS2.out]
            exact ⟨rfl, HG3.out⟩
end Go.Proofs.YtccaknabpnpjaaaDoor.A

/- The program's hasEmpty, Empty. -/
namespace Go.Proofs.YtccaknabpnpjaaaDoor.A
open Go.RowKit

/-- What a function tells of an expression. -/
def Asks (F : FuncId) (n : Nat) (f : Ex n → Bool) : Prop := ∀ (x : Ex n) (v : Value) (w : World), Rx w n x v → shapesE n x = true → Calls Tryd.prog F #[v] w fun e w' => e = .returned (.bool (f x)) ∧ Below w.heap.size w w'

def idxB {α : Type} (f : α → Bool) : List α → Bool := fun l => l.any f
set_option maxHeartbeats 1600000 in
theorem index_any (F : FuncId) (hF : F = 54 ∨ F = 75) (n : Nat) (f : Ex n → Bool) (ih : Asks F n f) (a : Option Addr) (len cap : Nat) (l : List (Ex n)) (w : World) (hl : len ≤ maxLen) (h6 : l.length = len) (hkids : Kids w n a len l) (hsh : ∀ x ∈ l, shapesE n x = true) :
    Calls Tryd.prog 55 #[.slice a len cap, .func (.func F) #[] #[]] w fun e w' => ∃ z : Int, e = .returned (.int .i64 z) ∧ decide (0 ≤ z) = l.any f ∧ Below w.heap.size w w' := by
  unfold maxLen at hl
  have HK := hide hkids
  have HL := hide h6
  have HS := hide hsh
  have HI := hide ih
  unfold Asks at HI
  clear hkids h6 hsh ih
  rcases hF with rfl | rfl
  all_goals
    go_enter Tryd.func55, Tryd.ntmps55
    go_wp2_with fail
    go_loopw [5, 8] (fun _ u wr => ∃ i : Nat, i ≤ len ∧ u = .int .i64 i ∧ (l.take i).any f = false ∧ Below w.heap.size w wr) (fun _ u _ => len - (intOf u).toNat)
    case atStart => exact ⟨0, Nat.zero_le _, rfl, rfl, Below.refl _ _⟩
    case round =>
      obtain ⟨i, hi, rfl, hd, hb⟩ := hrel
      have HD := hide hd
      have HBW := hide hb
      clear hd
      by_cases hlt : i < len
      · obtain ⟨x, b, off, c0, c1, c2, rfl, hx, k0, k1, k2, k3⟩ := HK.out wr hb i hlt
        have HSX := hide (HS.out x (List.mem_of_getElem? hx))
        have HN := hide (show (l.take (i + 1)).any f = f x from by rw [take_at hx, List.any_append, HD.out]; simp)
        have HIN := hide (show f x = true → l.any f = true from fun g => List.any_eq_true.2 ⟨x, List.mem_of_getElem? hx, g⟩)
        have HK3 := hide k3
        have i3 : (0 : Int) ≤ (i : Int) := by omega
        have i4 : (i : Int) < (len : Int) := by omega
        clear hx k3 hb
        go_wp2_with fail
        refine (HI.out x _ wr HK3.out HSX.out).mono ?_
        rintro e w2 ⟨rfl, hb2⟩
        have HB2 := hide (HBW.out.trans (hb2.mono HBW.out.size))
        clear hb2
        cases hf : f x
        · have HF := hide hf
          clear hf
          go_wp2
          go_roundw
          case rel => exact ⟨i + 1, by omega, by go_num, by rw [HN.out, HF.out], HB2.out⟩
          case measure => simp [intOf]; omega
        · have HF := hide hf
          clear hf
          go_wp2
          go_ret
          exact ⟨(i : Int), rfl, by rw [HIN.out HF.out]; simp, HB2.out⟩
      · have e : i = len := by omega
        subst e
        have HT := hide (show l.take i = l from List.take_of_length_le (by have := HL.out; omega))
        clear hb
        go_wp2
        go_ret
        exact ⟨-1, rfl, by rw [← HT.out, HD.out]; rfl, HBW.out⟩
set_option maxHeartbeats 800000 in
theorem contains_any (F : FuncId) (hF : F = 54 ∨ F = 75) (n : Nat) (f : Ex n → Bool) (ih : Asks F n f) (a : Option Addr) (len cap : Nat) (l : List (Ex n)) (w : World) (hl : len ≤ maxLen) (h6 : l.length = len) (hkids : Kids w n a len l) (hsh : ∀ x ∈ l, shapesE n x = true) :
    Calls Tryd.prog 37 #[.slice a len cap, .func (.func F) #[] #[]] w fun e w' => e = .returned (.bool (l.any f)) ∧ Below w.heap.size w w' := by
  have HC := hide (index_any F hF n f ih a len cap l w hl h6 hkids hsh)
  clear hkids h6 hsh ih
  go_enter Tryd.func37, Tryd.ntmps37
  go_wp2_with fail
  refine HC.out.mono ?_
  rintro e w2 ⟨z, rfl, hz, hb2⟩
  have HB := hide hb2
  clear hb2 HC
  cases hg : l.any f
  · have hz' : decide (0 ≤ z) = false := hz.trans hg
    have HG := hide hg
    clear hg hz
    go_wp2
    go_ret
    exact ⟨by rw [HG.out]; rfl, HB.out⟩
  · have hz' : decide (0 ≤ z) = true := hz.trans hg
    have HG := hide hg
    clear hg hz
    go_wp2
    go_ret
    exact ⟨by rw [HG.out]; rfl, HB.out⟩
set_option maxHeartbeats 800000 in
theorem not_asks (n : Nat) (f : Ex n → Bool) (ih : Asks 54 n f) : Asks 75 n (fun x => !f x) := by
  intro x v w h hsh
  obtain ⟨c0, c1, c2, rfl⟩ := rx_form h
  have HB0 := hide ((Below.refl w.heap.size w).alloc (Nat.le_refl _) (.cells #[c0, c1, c2] 42))
  have HC := hide (ih x _ _ (rx_below HB0.out n x _ h) hsh)
  clear ih h
  go_enter Tryd.func75, Tryd.ntmps75
  go_wp2_with fail
  refine HC.out.mono ?_
  rintro e w1 ⟨rfl, hb1⟩
  have HB1 := hide (HB0.out.trans (hb1.mono HB0.out.size))
  clear hb1 HC
  go_wp2
  go_ret
  exact ⟨rfl, HB1.out⟩
theorem all_not {α : Type} (f : α → Bool) : ∀ l : List α, (!(l.any (fun x => !f x))) = l.all f
  | [] => rfl
  | x :: r => by rw [List.any_cons, List.all_cons, ← all_not f r]; cases f x <;> simp
set_option maxHeartbeats 1600000 in
/-- hasEmpty. -/
theorem empty_asks : ∀ (n : Nat), Asks 54 n (fun x => emptyE n x) := by
  intro n
  induction n with
  | zero => intro t v w h; exact h.elim
  | succ n ih =>
    intro t v w h hsh
    obtain ⟨a, len, cap, rfl, hk, hs, hl, h6, hkids⟩ := rx_open h
    obtain ⟨hok, hall⟩ : okE (kd t) (st t) (ks t).length = true ∧ ∀ x ∈ ks t, shapesE n x = true := by
      have e : (okE (kd t) (st t) (ks t).length && (ks t).all (fun x => shapesE n x)) = true := hsh
      rw [Bool.and_eq_true, List.all_eq_true] at e
      exact e
    have HE := hide (show emptyE (n + 1) t = if kd t = 0 then true else if kd t = 1 then false else if kd t = 2 then (ks t).all (fun x => emptyE n x) else if kd t = 3 then (ks t).any (fun x => emptyE n x) else if kd t = 4 ∨ kd t = 5 then (ks t).head?.isSome else false from rfl)
    rw [h6] at hok
    have HML := hide hl
    unfold maxLen at hl
    generalize kd t = kk at *
    generalize st t = ss at *
    generalize ks t = l at *
    have HB0 := hide ((Below.refl w.heap.size w).alloc (Nat.le_refl _) (.cells #[.int .u8 kk, .int .u16 ss, .slice a len cap] 42))
    have HK := hide hkids
    have HS := hide hall
    have HL := hide h6
    have HI := hide ih
    have hkk : kk = 0 ∨ kk = 1 ∨ kk = 2 ∨ kk = 3 ∨ (kk = 4 ∨ kk = 5) ∧ len = 1 := by
      unfold okE at hok
      simp only [Bool.or_eq_true, Bool.and_eq_true, decide_eq_true_eq] at hok
      omega
    have HKB := hide (fun W (hb : Below w.heap.size w W) => (fun V hV => hkids V (hb.trans (hV.mono hb.size)) : Kids W n a len l))
    clear h hkids hsh hok hall h6 ih
    rcases hkk with e | e | e | e | ⟨e, e1⟩
    · have y1 : ((kk : Int) == 1) = false := by simp; omega
      have y2 : ((kk : Int) == 2) = false := by simp; omega
      have y3 : ((kk : Int) == 3) = false := by simp; omega
      have HR := hide (show emptyE (n + 1) t = true from by rw [HE.out, if_pos e])
      clear e
      go_enter Tryd.func54, Tryd.ntmps54
      go_wp2
      go_ret
      exact ⟨by show _ = Ending.returned (.bool (emptyE (n + 1) t)); rw [HR.out]; rfl, HB0.out⟩
    · have y1 : ((kk : Int) == 1) = true := by simp; omega
      have HR := hide (show emptyE (n + 1) t = false from by rw [HE.out, if_neg (by omega), if_pos e])
      clear e
      go_enter Tryd.func54, Tryd.ntmps54
      go_wp2
      go_ret
      exact ⟨by show _ = Ending.returned (.bool (emptyE (n + 1) t)); rw [HR.out]; rfl, HB0.out⟩
    · have y1 : ((kk : Int) == 1) = false := by simp; omega
      have y2 : ((kk : Int) == 2) = true := by simp; omega
      have HR := hide (show emptyE (n + 1) t = !(l.any (fun x => !emptyE n x)) from by rw [HE.out, if_neg (by omega), if_neg (by omega), if_pos e, all_not])
      clear e
      go_enter Tryd.func54, Tryd.ntmps54
      go_wp2_with fail
      refine (contains_any 75 (.inr rfl) n _ (not_asks n _ HI.out) a len cap l _ HML.out HL.out (HKB.out _ HB0.out) HS.out).mono ?_
      rintro e w1 ⟨rfl, hb1⟩
      have HB1 := hide (HB0.out.trans (hb1.mono HB0.out.size))
      clear hb1
      go_wp2
      go_ret
      exact ⟨by show _ = Ending.returned (.bool (emptyE (n + 1) t)); rw [HR.out]; rfl, HB1.out⟩
    · have y1 : ((kk : Int) == 1) = false := by simp; omega
      have y2 : ((kk : Int) == 2) = false := by simp; omega
      have y3 : ((kk : Int) == 3) = true := by simp; omega
      have HR := hide (show emptyE (n + 1) t = l.any (fun x => emptyE n x) from by rw [HE.out, if_neg (by omega), if_neg (by omega), if_neg (by omega), if_pos e])
      clear e
      go_enter Tryd.func54, Tryd.ntmps54
      go_wp2_with fail
      refine (contains_any 54 (.inl rfl) n _ HI.out a len cap l _ HML.out HL.out (HKB.out _ HB0.out) HS.out).mono ?_
      rintro e w1 ⟨rfl, hb1⟩
      have HB1 := hide (HB0.out.trans (hb1.mono HB0.out.size))
      clear hb1
      go_wp2
      go_ret
      exact ⟨by show _ = Ending.returned (.bool (emptyE (n + 1) t)); rw [HR.out]; rfl, HB1.out⟩
    · have y1 : ((kk : Int) == 1) = false := by simp; omega
      have y2 : ((kk : Int) == 2) = false := by simp; omega
      have y3 : ((kk : Int) == 3) = false := by simp; omega
      have HR := hide (show emptyE (n + 1) t = true from by
        rw [HE.out, if_neg (by omega), if_neg (by omega), if_neg (by omega), if_neg (by omega), if_pos e]
        cases l with
        | nil => have := HL.out; simp at this; omega
        | cons x r => rfl)
      clear e e1
      go_enter Tryd.func54, Tryd.ntmps54
      go_wp2
      go_ret
      exact ⟨by show _ = Ending.returned (.bool (emptyE (n + 1) t)); rw [HR.out]; rfl, HB0.out⟩
theorem right_shapes {n : Nat} {t : Ex n} (h : rightE n t = true) : shapesE n t = true := by
  unfold rightE at h
  simp only [Bool.and_eq_true] at h
  exact h.2.2
set_option maxHeartbeats 800000 in
/-- Empty. -/
theorem empty_any (n : Nat) (t : Ex n) (v : Value) (w : World) (h : Rx w n t v) :
    Calls Tryd.prog 35 #[v] w fun e w' => e = .returned (.bool (rightE n t && emptyE n t)) ∧ Below w.heap.size w w' := by
  obtain ⟨c0, c1, c2, rfl⟩ := rx_form h
  obtain ⟨p0, p1, p2⟩ := box3 w c0 c1 c2 42
  have HX := hide h
  have HB0 := hide ((Below.refl w.heap.size w).alloc (Nat.le_refl _) (.cells #[c0, c1, c2] 42))
  clear h
  go_enter Tryd.func35, Tryd.ntmps35
  go_wp2_with fail
  refine (right_any n t _ _ (rx_below HB0.out n t _ HX.out)).mono ?_
  rintro e w1 ⟨rfl, hb1⟩
  have r0 := (hb1.cell (p := ⟨w.heap.size, 0, none⟩) (cell_lt p0)).trans p0
  have r1 := (hb1.cell (p := ⟨w.heap.size, 1, none⟩) (cell_lt p1)).trans p1
  have r2 := (hb1.cell (p := ⟨w.heap.size, 2, none⟩) (cell_lt p2)).trans p2
  have HB1 := hide (HB0.out.trans (hb1.mono HB0.out.size))
  clear hb1 p0 p1 p2
  cases hr : rightE n t with
  | false =>
    have HR := hide hr
    clear hr
    go_wp2
    go_ret
    exact ⟨by rw [HR.out]; rfl, HB1.out⟩
  | true =>
    have HR := hide hr
    clear hr
    go_wp2_with fail
    refine (empty_asks n t _ _ (rx_below HB1.out n t _ HX.out) (right_shapes HR.out)).mono ?_
    rintro e w2 ⟨rfl, hb2⟩
    have HB2 := hide (HB1.out.trans (hb2.mono HB1.out.size))
    clear hb2
    go_wp2
    go_ret
    exact ⟨by rw [HR.out]; rfl, HB2.out⟩
end Go.Proofs.YtccaknabpnpjaaaDoor.A

/- Expressions that a call has made: each list of parts in a block of its own. -/
namespace Go.Proofs.YtccaknabpnpjaaaDoor.A
open Go.RowKit

structure Nd where
  k : Nat
  s : Nat
  a : Option Addr
  l : Nat
  c : Nat
def Nd.val (x : Nd) : Value := .agg #[.int .u8 x.k, .int .u16 x.s, .slice x.a x.l x.c]
def cellsO (x : Nd) : List Value := [.int .u8 x.k, .int .u16 x.s, .slice x.a x.l x.c]
def cellsN : List Nd → List Value | [] => [] | x :: l => cellsO x ++ cellsN l
theorem cellsN_app (a b : List Nd) : cellsN (a ++ b) = cellsN a ++ cellsN b := by
  induction a with
  | nil => rfl
  | cons r a ih => simp [cellsN, ih]
theorem cellsN_one (r : Nd) : cellsN [r] = cellsO r := by simp [cellsN]
theorem cellsN_len : ∀ l : List Nd, (cellsN l).length = l.length * 3
  | [] => rfl
  | r :: l => by simp [cellsN, cellsO, cellsN_len l]; omega
theorem cellsN_at : ∀ (l : List Nd) (i : Nat) (x : Nd), l[i]? = some x → (cellsN l)[i * 3]? = some (.int .u8 x.k) ∧ (cellsN l)[i * 3 + 1]? = some (.int .u16 x.s) ∧ (cellsN l)[i * 3 + 2]? = some (.slice x.a x.l x.c)
  | [], i, x, h => by simp at h
  | r :: l, 0, x, h => by simp at h; subst h; simp [cellsN, cellsO]
  | r :: l, i + 1, x, h => by
    have ih := cellsN_at l i x (by simpa using h)
    refine ⟨?_, ?_, ?_⟩
    · rw [← ih.1]; show (Value.int .u8 r.k :: .int .u16 r.s :: .slice r.a r.l r.c :: cellsN l)[(i + 1) * 3]? = _; rw [show (i + 1) * 3 = i * 3 + 1 + 1 + 1 by omega]; simp
    · rw [← ih.2.1]; show (Value.int .u8 r.k :: .int .u16 r.s :: .slice r.a r.l r.c :: cellsN l)[(i + 1) * 3 + 1]? = _; rw [show (i + 1) * 3 + 1 = i * 3 + 1 + 1 + 1 + 1 by omega]; simp
    · rw [← ih.2.2]; show (Value.int .u8 r.k :: .int .u16 r.s :: .slice r.a r.l r.c :: cellsN l)[(i + 1) * 3 + 2]? = _; rw [show (i + 1) * 3 + 2 = i * 3 + 2 + 1 + 1 + 1 by omega]; simp
theorem cellsN_set : ∀ (l : List Nd) (i : Nat) (x : Nd), i < l.length → (((cellsN l).set (i * 3) (.int .u8 x.k)).set (i * 3 + 1) (.int .u16 x.s)).set (i * 3 + 2) (.slice x.a x.l x.c) = cellsN (l.set i x)
  | [], i, _, h => by simp at h
  | r :: l, 0, x, _ => by simp [cellsN, cellsO]
  | r :: l, i + 1, x, h => by
    have ih := cellsN_set l i x (by simpa using h)
    rw [List.set_cons_succ]
    show (((Value.int .u8 r.k :: .int .u16 r.s :: .slice r.a r.l r.c :: cellsN l).set ((i + 1) * 3) _).set ((i + 1) * 3 + 1) _).set ((i + 1) * 3 + 2) _ = Value.int .u8 r.k :: .int .u16 r.s :: .slice r.a r.l r.c :: cellsN _
    rw [← ih, show (i + 1) * 3 + 1 = i * 3 + 1 + 1 + 1 + 1 by omega, show (i + 1) * 3 + 2 = i * 3 + 2 + 1 + 1 + 1 by omega, show (i + 1) * 3 = i * 3 + 1 + 1 + 1 by omega]
    simp
theorem cellsN_one' (l : List Nd) : ∀ u ∈ cellsN l, u.oneCell' = true := by
  induction l with
  | nil => intro u h; cases h
  | cons r l ih =>
    intro u h
    simp only [cellsN, cellsO, List.cons_append, List.nil_append, List.mem_cons] at h
    rcases h with rfl | rfl | rfl | h
    · rfl
    · rfl
    · rfl
    · exact ih u h
theorem cellsO_one' (x : Nd) : ∀ u ∈ cellsO x, u.oneCell' = true := by
  have := cellsN_one' [x]
  rw [cellsN_one] at this
  exact this

/-- An expression whose lists of parts lie each in a block of its own, whole and unmarked: the blocks. -/
def Tr (w : World) : (n : Nat) → Ex n → Nd → List Nat → Prop
  | 0, _, _, _ => False
  | n + 1, t, x, S => x.k = kd t ∧ x.s = st t ∧ kd t < 256 ∧ st t < 65536 ∧ x.l ≤ x.c ∧ x.c ≤ maxLen ∧ (ks t).length = x.l ∧
      ((x.l = 0 ∧ S = []) ∨ ∃ (b : Nat) (cs : Array Value) (ys : List Nd) (Ss : List (List Nat)), x.a = some ⟨b, 0, none⟩ ∧ w.heap[b]? = some (.cells cs 42 (0, 0)) ∧ cs.toList.take (x.l * 3) = cellsN ys ∧ ys.length = x.l ∧ Ss.length = x.l ∧ S = b :: Ss.flatten ∧
        ∀ (i : Nat) (e : Ex n) (y : Nd) (T : List Nat), (ks t)[i]? = some e → ys[i]? = some y → Ss[i]? = some T → Tr w n e y T)
theorem mem_flat {Ss : List (List Nat)} {i : Nat} {T : List Nat} (h : Ss[i]? = some T) {b : Nat} (hb : b ∈ T) : b ∈ Ss.flatten := List.mem_flatten.2 ⟨T, List.mem_of_getElem? h, hb⟩
theorem tr_keep {w w' : World} : ∀ (n : Nat) (t : Ex n) (x : Nd) (S : List Nat), (∀ b ∈ S, w'.heap[b]? = w.heap[b]?) → Tr w n t x S → Tr w' n t x S
  | 0, _, _, _, _, h => h
  | n + 1, t, x, S, hS, ⟨h1, h2, h3, h4, h5, h6, h7, h8⟩ => by
    refine ⟨h1, h2, h3, h4, h5, h6, h7, ?_⟩
    rcases h8 with h8 | ⟨b, cs, ys, Ss, a1, a2, a3, a4, a5, a6, a7⟩
    · exact .inl h8
    · refine .inr ⟨b, cs, ys, Ss, a1, (hS b (by rw [a6]; simp)).trans a2, a3, a4, a5, a6, fun i e y T he hy hT => ?_⟩
      exact tr_keep n e y T (fun b' hb' => hS b' (by rw [a6]; exact List.mem_cons_of_mem _ (mem_flat hT hb'))) (a7 i e y T he hy hT)
theorem tr_lt {w : World} : ∀ (n : Nat) (t : Ex n) (x : Nd) (S : List Nat), Tr w n t x S → ∀ b ∈ S, b < w.heap.size
  | 0, _, _, _, h => h.elim
  | n + 1, t, x, S, ⟨_, _, _, _, _, _, h7, h8⟩ => by
    rcases h8 with ⟨_, h8⟩ | ⟨b, cs, ys, Ss, _, a2, _, a4, a5, a6, a7⟩
    · intro b hb; rw [h8] at hb; cases hb
    · intro c hc
      rw [a6] at hc
      rcases List.mem_cons.1 hc with rfl | hc
      · exact (Array.getElem?_eq_some_iff.1 a2).1
      · obtain ⟨T, hT, hc⟩ := List.mem_flatten.1 hc
        obtain ⟨i, hi⟩ := List.getElem?_of_mem hT
        have hlt := (List.getElem?_eq_some_iff.1 hi).1
        exact tr_lt n (ks t)[i] ys[i] T (a7 i _ _ T (by simp) (by simp) hi) c hc
theorem tr_rx {w : World} : ∀ (n : Nat) (t : Ex n) (x : Nd) (S : List Nat), Tr w n t x S → Rx w n t x.val
  | 0, _, _, _, h => h.elim
  | n + 1, t, x, S, ⟨h1, h2, h3, h4, h5, h6, h7, h8⟩ => by
    refine ⟨x.a, x.l, x.c, by unfold Nd.val; rw [h1, h2], h3, h4, h5, h6, h7, ?_⟩
    rcases h8 with ⟨h8, _⟩ | ⟨b, cs, ys, Ss, a1, a2, a3, a4, a5, a6, a7⟩
    · exact .inl h8
    · refine .inr ⟨b, 0, a1, fun i e he => ?_⟩
      have hlt : i < x.l := by have := (List.getElem?_eq_some_iff.1 he).1; omega
      have hy : ys[i]? = some ys[i] := by simp
      have hT : Ss[i]? = some Ss[i] := by simp
      obtain ⟨q0, q1, q2⟩ := cellsN_at ys i _ hy
      have hc : ∀ j u, (cellsN ys)[j]? = some u → w.cell? ⟨b, j, none⟩ = some u := fun j u hj => by
        rw [cell_of_row w b j cs 42 (0, 0) a2]
        rw [← a3] at hj
        have := List.getElem?_take_of_lt (l := cs.toList) (i := j) (j := x.l * 3) (by have := (List.getElem?_eq_some_iff.1 hj).1; simp at this; omega)
        rw [this] at hj
        simpa using hj
      rw [Nat.zero_add]
      exact ⟨_, _, _, hc _ _ q0, hc _ _ q1, hc _ _ q2, tr_rx n e ys[i] Ss[i] (a7 i e _ _ he hy hT)⟩

/-- A list of parts that is being made. -/
def Mkg (base : Nat) (w : World) (n : Nat) (l : List (Ex n)) (v : Value) (ys : List Nd) (Ss : List (List Nat)) : Prop :=
  w.ownsRow base 42 3 v l.length (cellsN ys) ∧ ys.length = l.length ∧ Ss.length = l.length ∧ (∀ (i : Nat) (e : Ex n) (y : Nd) (T : List Nat), l[i]? = some e → ys[i]? = some y → Ss[i]? = some T → Tr w n e y T) ∧
    Ss.flatten.Nodup ∧ (∀ b ∈ Ss.flatten, base ≤ b ∧ b < w.heap.size) ∧ (∀ g, v.ownBlock = some g → g ∉ Ss.flatten)
theorem mkg_nil (base : Nat) (w : World) (n : Nat) : Mkg base w n [] (.slice none 0 0) [] [] :=
  ⟨World.ownsRow_nil _ _ _ _, rfl, rfl, fun i e y T h => by simp at h, by simp, fun b h => by simp at h, fun g h => by simp [Value.ownBlock] at h⟩
theorem own_below {w w' : World} {base n size : Nat} {e : TypeId} {v : Value} {xs : List Value} (h : w.ownsRow base e size v n xs) (hb : Below w.heap.size w w') : w'.ownsRow base e size v n xs := by
  refine ⟨h.1, ?_⟩
  rcases h.2 with h0 | ⟨g, cap, cur, hv, hg, hcur, h1, h2, h3, h4⟩
  · exact .inl h0
  · have hlt : g < w.heap.size := (h.lt g (by rw [hv]; rfl)).2
    exact .inr ⟨g, cap, cur, hv, hg, (hb.block g hlt).trans hcur, h1, h2, h3, h4⟩
theorem mkg_below {base : Nat} {w w' : World} {n : Nat} {l : List (Ex n)} {v : Value} {ys : List Nd} {Ss : List (List Nat)} (h : Mkg base w n l v ys Ss) (hb : Below w.heap.size w w') : Mkg base w' n l v ys Ss := by
  obtain ⟨h1, h2, h3, h4, h5, h6, h7⟩ := h
  exact ⟨own_below h1 hb, h2, h3, fun i e y T he hy hT => tr_keep n e y T (fun b hb' => hb.block b (h6 b (mem_flat hT hb')).2) (h4 i e y T he hy hT), h5, fun b hb' => ⟨(h6 b hb').1, Nat.lt_of_lt_of_le (h6 b hb').2 hb.size⟩, h7⟩
/-- A cell of one's own that is no row of it. -/
theorem mkg_set {base : Nat} {w : World} {n : Nat} {l : List (Ex n)} {v : Value} {ys : List Nd} {Ss : List (List Nat)} (h : Mkg base w n l v ys Ss) {a : Addr} (ha : a.block < base) (u : Value) : Mkg base (w.setCell a u) n l v ys Ss := by
  obtain ⟨h1, h2, h3, h4, h5, h6, h7⟩ := h
  refine ⟨ownsRow_setCell_below h1 ha u, h2, h3, fun i e y T he hy hT => tr_keep n e y T (fun b hb' => Below.heap_setCell _ _ _ _ (by have := (h6 b (mem_flat hT hb')).1; omega)) (h4 i e y T he hy hT), h5, fun b hb' => ⟨(h6 b hb').1, by simpa using (h6 b hb').2⟩, h7⟩
theorem mkg_app {base : Nat} {w w3 : World} {n : Nat} {l : List (Ex n)} {v : Value} {ys : List Nd} {Ss : List (List Nat)} (h : Mkg base w n l v ys Ss) {e : Ex n} {y : Nd} {T : List Nat} (ht : Tr w n e y T) (hT : T.Nodup) {lo : Nat} (hlo : ∀ b ∈ T, lo ≤ b ∧ b < w.heap.size) (hbl : base ≤ lo)
    (hS : ∀ b ∈ Ss.flatten, b < lo) (hv : ∀ g, v.ownBlock = some g → g < lo) {g cap : Nat} (hown : w3.ownsRow base 42 3 (.slice (some ⟨g, 0, none⟩) (l.length + 1) cap) (l.length + 1) (cellsN ys ++ cellsO y)) (hgrow : w.grownBy w3 v.ownBlock) (hat : v.ownBlock = some g ∨ g = w.heap.size) :
    Mkg base w3 n (l ++ [e]) (.slice (some ⟨g, 0, none⟩) (l.length + 1) cap) (ys ++ [y]) (Ss ++ [T]) := by
  obtain ⟨h1, h2, h3, h4, h5, h6, h7⟩ := h
  have hT2 : ∀ b ∈ T, v.ownBlock ≠ some b := fun b hb q => by have := hv b q; have := hlo b hb; omega
  refine ⟨by rw [cellsN_app, cellsN_one, List.length_append]; exact hown, by simp [h2], by simp [h3], ?_, ?_, ?_, ?_⟩
  · intro i e' y' T' he hy hT'
    by_cases hi : i < l.length
    · rw [List.getElem?_append_left hi] at he
      rw [List.getElem?_append_left (by omega)] at hy hT'
      exact tr_keep n e' y' T' (fun b hb => hgrow.block b (h6 b (mem_flat hT' hb)).2 (fun q => h7 b q.symm (mem_flat hT' hb))) (h4 i e' y' T' he hy hT')
    · have hi2 : i = l.length := by have := (List.getElem?_eq_some_iff.1 he).1; simp at this; omega
      subst hi2
      rw [List.getElem?_append_right (Nat.le_refl _)] at he
      rw [List.getElem?_append_right (by omega)] at hy hT'
      rw [h2] at hy
      rw [h3] at hT'
      simp only [Nat.sub_self, List.getElem?_cons_zero, Option.some.injEq] at he hy hT'
      subst he; subst hy; subst hT'
      exact tr_keep n _ _ _ (fun b hb => hgrow.block b (hlo b hb).2 (fun q => hT2 b hb q.symm)) ht
  · rw [List.flatten_append]
    refine List.nodup_append.2 ⟨h5, by simpa using hT, fun b hb c hc q => ?_⟩
    subst q
    have := hS b hb
    have := hlo b (by simpa using hc)
    omega
  · intro b hb
    rw [List.flatten_append] at hb
    rcases List.mem_append.1 hb with hb | hb
    · exact ⟨(h6 b hb).1, Nat.lt_of_lt_of_le (h6 b hb).2 hgrow.size⟩
    · have := hlo b (by simpa using hb)
      exact ⟨by omega, Nat.lt_of_lt_of_le this.2 hgrow.size⟩
  · intro g' hg' hm
    have hg2 : g' = g := by simpa [Value.ownBlock] using hg'.symm
    subst hg2
    rw [List.flatten_append] at hm
    rcases List.mem_append.1 hm with hm | hm
    · rcases hat with hat | hat
      · exact h7 g' hat hm
      · have := (h6 g' hm).2; omega
    · have hm' : g' ∈ T := by simpa using hm
      rcases hat with hat | hat
      · exact hT2 g' hm' hat
      · have := (hlo g' hm').2; omega
theorem mkg_rev {base : Nat} {w w3 : World} {n : Nat} {l : List (Ex n)} {v : Value} {ys : List Nd} {Ss : List (List Nat)} (h : Mkg base w n l v ys Ss) (hown : w3.ownsRow base 42 3 v l.length (cellsN ys.reverse)) (hgrow : w.grownBy w3 v.ownBlock) : Mkg base w3 n l.reverse v ys.reverse Ss.reverse := by
  obtain ⟨h1, h2, h3, h4, h5, h6, h7⟩ := h
  have hp : Ss.reverse.flatten.Perm Ss.flatten := (List.reverse_perm Ss).flatten
  refine ⟨by rw [List.length_reverse]; exact hown, by simp [h2], by simp [h3], ?_, hp.nodup_iff.2 h5, ?_, ?_⟩
  · intro i e y T he hy hT
    have hi : i < l.length := by have := (List.getElem?_eq_some_iff.1 he).1; simpa using this
    rw [List.getElem?_reverse (by omega)] at he
    rw [List.getElem?_reverse (by omega), h2] at hy
    rw [List.getElem?_reverse (by omega), h3] at hT
    exact tr_keep n e y T (fun b hb => hgrow.block b (h6 b (mem_flat hT hb)).2 (fun q => h7 b q.symm (mem_flat hT hb))) (h4 _ e y T he hy hT)
  · intro b hb
    have := h6 b (hp.mem_iff.1 hb)
    exact ⟨this.1, Nat.lt_of_lt_of_le this.2 hgrow.size⟩
  · intro g hg hm
    exact h7 g hg (hp.mem_iff.1 hm)
/-- What is made is an expression. -/
theorem mkg_end {base : Nat} {w : World} {n : Nat} {l : List (Ex n)} {v : Value} {ys : List Nd} {Ss : List (List Nat)} (h : Mkg base w n l v ys Ss) {k s : Nat} (hk : k < 256) (hs : s < 65536) :
    ∃ (a : Option Addr) (len cap : Nat) (S : List Nat), v = .slice a len cap ∧ Tr w (n + 1) ((k, s, l) : Ex (n + 1)) ⟨k, s, a, len, cap⟩ S ∧ S.Nodup ∧ ∀ b ∈ S, base ≤ b := by
  obtain ⟨h1, h2, h3, h4, h5, h6, h7⟩ := h
  rcases h1.2 with ⟨rfl, h0⟩ | ⟨g, cap, cur, rfl, hg, hcur, q1, q2, q3, q4⟩
  · exact ⟨none, 0, 0, [], rfl, ⟨rfl, rfl, hk, hs, Nat.le_refl _, by show 0 ≤ maxLen; unfold maxLen; omega, h0, .inl ⟨rfl, rfl⟩⟩, by simp, fun b hb => by cases hb⟩
  · by_cases h0 : l.length = 0
    · exact ⟨_, _, _, [], rfl, ⟨rfl, rfl, hk, hs, q1, q2, rfl, .inl ⟨h0, rfl⟩⟩, by simp, fun b hb => by cases hb⟩
    · refine ⟨_, _, _, g :: Ss.flatten, rfl, ⟨rfl, rfl, hk, hs, q1, q2, rfl, .inr ⟨g, cur, ys, Ss, rfl, hcur, q4, h2, h3, rfl, h4⟩⟩, List.nodup_cons.2 ⟨h7 g rfl, h5⟩, fun b hb => ?_⟩
      rcases List.mem_cons.1 hb with rfl | hb
      · exact hg
      · exact (h6 b hb).1
end Go.Proofs.YtccaknabpnpjaaaDoor.A
