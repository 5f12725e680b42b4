/- The program's hasEmpty, Empty. -/
import Derived.WalkKit
import Derived.ProofKit
import Derived.Outline
import Derived.BigQuiet
import Derived.Deep.QuietTactic
import Derived.Below
import Derived.Deep.RegionHeld3
import Derived.OpenShut
import Derived.Deep.Slices
import Derived.Deep.Strs
import Derived.Deep.OwnRows
import Derived.Deep.WholeRow
import Derived.Deep.Heap
import Derived.Deep.AppendSrc
import Derived.Deep.AppendLies
import Derived.Deep.RegionLaw
import Derived.Laws.AppendOwnNone
import Derived.Test.YtbbfjjjnifomgaaGreatDoorK1
import Derived.Test.YtbbfjjjnifomgaaGreatDoorK2
import Derived.Test.YtbbfjjjnifomgaaGreatDoorK3
import Derived.Test.YtbbfjjjnifomgaaGreatDoorK6
import Derived.Test.YtbbfjjjnifomgaaGreatDoorK8
import Derived.Test.YtbbfjjjnifomgaaGreatDoorK11
import Derived.Test.YtbbfjjjnifomgaaGreatDoorK13
import Derived.Laws.OwnMore
import Derived.Test.YtbbfjjjnifomgaaGreatDoorK5
namespace Go.Proofs.YtbbfjjjnifomgaaGreatDoor.A
open Go.RowKit

/-- What a function tells of an expression. -/
def Asks (F : FuncId) (n : Nat) (f : Ex n → Bool) : Prop := ∀ (x : Ex n) (v : Value) (w : World), Rx w n x v → shapesE n x = true → Calls Tryz.prog F #[v] w fun e w' => e = .returned (.bool (f x)) ∧ Below w.heap.size w w'

set_option maxHeartbeats 1600000 in
theorem index_any (F : FuncId) (hF : F = 86 ∨ F = 108) (n : Nat) (f : Ex n → Bool) (ih : Asks F n f) (a : Option Addr) (len cap : Nat) (l : List (Ex n)) (w : World) (hl : len ≤ maxLen) (h6 : l.length = len) (hkids : Kids w n a len l) (hsh : ∀ x ∈ l, shapesE n x = true) :
    Calls Tryz.prog 132 #[.slice a len cap, .func (.func F) #[] #[]] w fun e w' => ∃ z : Int, e = .returned (.int .i64 z) ∧ decide (0 ≤ z) = l.any f ∧ Below w.heap.size w w' := by
  unfold maxLen at hl
  have HK := hide hkids
  have HL := hide h6
  have HS := hide hsh
  have HI := hide ih
  unfold Asks at HI
  clear hkids h6 hsh ih
  rcases hF with rfl | rfl
  all_goals
    go_enter Tryz.func132, Tryz.ntmps132
    go_wp2_with fail
    go_loopw [5, 8] (fun _ u wr => ∃ i : Nat, i ≤ len ∧ u = .int .i64 i ∧ (l.take i).any f = false ∧ Below w.heap.size w wr) (fun _ u _ => len - (intOf u).toNat)
    case atStart => exact ⟨0, Nat.zero_le _, rfl, rfl, Below.refl _ _⟩
    case round =>
      obtain ⟨i, hi, rfl, hd, hb⟩ := hrel
      have HD := hide hd
      have HBW := hide hb
      clear hd
      by_cases hlt : i < len
      · obtain ⟨x, b, off, c0, c1, c2, rfl, hx, k0, k1, k2, k3⟩ := HK.out wr hb i hlt
        have HSX := hide (HS.out x (List.mem_of_getElem? hx))
        have HN := hide (show (l.take (i + 1)).any f = f x from by rw [take_at hx, List.any_append, HD.out]; simp)
        have HIN := hide (show f x = true → l.any f = true from fun g => List.any_eq_true.2 ⟨x, List.mem_of_getElem? hx, g⟩)
        have HK3 := hide k3
        have i3 : (0 : Int) ≤ (i : Int) := by omega
        have i4 : (i : Int) < (len : Int) := by omega
        clear hx k3 hb
        go_wp2_with fail
        refine (HI.out x _ wr HK3.out HSX.out).mono ?_
        rintro e w2 ⟨rfl, hb2⟩
        have HB2 := hide (HBW.out.trans (hb2.mono HBW.out.size))
        clear hb2
        cases hf : f x
        · have HF := hide hf
          clear hf
          go_wp2
          go_roundw
          case rel => exact ⟨i + 1, by omega, by go_num, by rw [HN.out, HF.out], HB2.out⟩
          case measure => simp [intOf]; omega
        · have HF := hide hf
          clear hf
          go_wp2
          go_ret
          exact ⟨(i : Int), rfl, by rw [HIN.out HF.out]; simp, HB2.out⟩
      · have e : i = len := by omega
        subst e
        have HT := hide (show l.take i = l from List.take_of_length_le (by have := HL.out; omega))
        clear hb
        go_wp2
        go_ret
        exact ⟨-1, rfl, by rw [← HT.out, HD.out]; rfl, HBW.out⟩
set_option maxHeartbeats 800000 in
theorem contains_any (F : FuncId) (hF : F = 86 ∨ F = 108) (n : Nat) (f : Ex n → Bool) (ih : Asks F n f) (a : Option Addr) (len cap : Nat) (l : List (Ex n)) (w : World) (hl : len ≤ maxLen) (h6 : l.length = len) (hkids : Kids w n a len l) (hsh : ∀ x ∈ l, shapesE n x = true) :
    Calls Tryz.prog 107 #[.slice a len cap, .func (.func F) #[] #[]] w fun e w' => e = .returned (.bool (l.any f)) ∧ Below w.heap.size w w' := by
  have HC := hide (index_any F hF n f ih a len cap l w hl h6 hkids hsh)
  clear hkids h6 hsh ih
  go_enter Tryz.func107, Tryz.ntmps107
  go_wp2_with fail
  refine HC.out.mono ?_
  rintro e w2 ⟨z, rfl, hz, hb2⟩
  have HB := hide hb2
  clear hb2 HC
  cases hg : l.any f
  · have hz' : decide (0 ≤ z) = false := hz.trans hg
    have HG := hide hg
    clear hg hz
    go_wp2
    go_ret
    exact ⟨by rw [HG.out]; rfl, HB.out⟩
  · have hz' : decide (0 ≤ z) = true := hz.trans hg
    have HG := hide hg
    clear hg hz
    go_wp2
    go_ret
    exact ⟨by rw [HG.out]; rfl, HB.out⟩
set_option maxHeartbeats 800000 in
theorem not_asks (n : Nat) (f : Ex n → Bool) (ih : Asks 86 n f) : Asks 108 n (fun x => !f x) := by
  intro x v w h hsh
  obtain ⟨c0, c1, c2, rfl⟩ := rx_form h
  have HB0 := hide ((Below.refl w.heap.size w).alloc (Nat.le_refl _) (.cells #[c0, c1, c2] 55))
  have HC := hide (ih x _ _ (rx_below HB0.out n x _ h) hsh)
  clear ih h
  go_enter Tryz.func108, Tryz.ntmps108
  go_wp2_with fail
  refine HC.out.mono ?_
  rintro e w1 ⟨rfl, hb1⟩
  have HB1 := hide (HB0.out.trans (hb1.mono HB0.out.size))
  clear hb1 HC
  go_wp2
  go_ret
  exact ⟨rfl, HB1.out⟩
theorem all_not {α : Type} (f : α → Bool) : ∀ l : List α, (!(l.any (fun x => !f x))) = l.all f
  | [] => rfl
  | x :: r => by rw [List.any_cons, List.all_cons, ← all_not f r]; cases f x <;> simp
set_option maxHeartbeats 1600000 in
/-- hasEmpty. -/
theorem empty_asks : ∀ (n : Nat), Asks 86 n (fun x => emptyE n x) := by
  intro n
  induction n with
  | zero => intro t v w h; exact h.elim
  | succ n ih =>
    intro t v w h hsh
    obtain ⟨a, len, cap, rfl, hk, hs, hl, h6, hkids⟩ := rx_open h
    obtain ⟨hok, hall⟩ : okE (kd t) (st t) (ks t).length = true ∧ ∀ x ∈ ks t, shapesE n x = true := by
      have e : (okE (kd t) (st t) (ks t).length && (ks t).all (fun x => shapesE n x)) = true := hsh
      rw [Bool.and_eq_true, List.all_eq_true] at e
      exact e
    have HE := hide (show emptyE (n + 1) t = if kd t = 0 then true else if kd t = 1 then false else if kd t = 2 then (ks t).all (fun x => emptyE n x) else if kd t = 3 then (ks t).any (fun x => emptyE n x) else if kd t = 4 ∨ kd t = 5 then (ks t).head?.isSome else false from rfl)
    rw [h6] at hok
    have HML := hide hl
    unfold maxLen at hl
    generalize kd t = kk at *
    generalize st t = ss at *
    generalize ks t = l at *
    have HB0 := hide ((Below.refl w.heap.size w).alloc (Nat.le_refl _) (.cells #[.int .u8 kk, .int .u16 ss, .slice a len cap] 55))
    have HK := hide hkids
    have HS := hide hall
    have HL := hide h6
    have HI := hide ih
    have hkk : kk = 0 ∨ kk = 1 ∨ kk = 2 ∨ kk = 3 ∨ (kk = 4 ∨ kk = 5) ∧ len = 1 := by
      unfold okE at hok
      simp only [Bool.or_eq_true, Bool.and_eq_true, decide_eq_true_eq] at hok
      omega
    have HKB := hide (fun W (hb : Below w.heap.size w W) => (fun V hV => hkids V (hb.trans (hV.mono hb.size)) : Kids W n a len l))
    clear h hkids hsh hok hall h6 ih
    rcases hkk with e | e | e | e | ⟨e, e1⟩
    · have y1 : ((kk : Int) == 1) = false := by simp; omega
      have y2 : ((kk : Int) == 2) = false := by simp; omega
      have y3 : ((kk : Int) == 3) = false := by simp; omega
      have HR := hide (show emptyE (n + 1) t = true from by rw [HE.out, if_pos e])
      clear e
      go_enter Tryz.func86, Tryz.ntmps86
      go_wp2
      go_ret
      exact ⟨by show _ = Ending.returned (.bool (emptyE (n + 1) t)); rw [HR.out]; rfl, HB0.out⟩
    · have y1 : ((kk : Int) == 1) = true := by simp; omega
      have HR := hide (show emptyE (n + 1) t = false from by rw [HE.out, if_neg (by omega), if_pos e])
      clear e
      go_enter Tryz.func86, Tryz.ntmps86
      go_wp2
      go_ret
      exact ⟨by show _ = Ending.returned (.bool (emptyE (n + 1) t)); rw [HR.out]; rfl, HB0.out⟩
    · have y1 : ((kk : Int) == 1) = false := by simp; omega
      have y2 : ((kk : Int) == 2) = true := by simp; omega
      have HR := hide (show emptyE (n + 1) t = !(l.any (fun x => !emptyE n x)) from by rw [HE.out, if_neg (by omega), if_neg (by omega), if_pos e, all_not])
      clear e
      go_enter Tryz.func86, Tryz.ntmps86
      go_wp2_with fail
      refine (contains_any 108 (.inr rfl) n _ (not_asks n _ HI.out) a len cap l _ HML.out HL.out (HKB.out _ HB0.out) HS.out).mono ?_
      rintro e w1 ⟨rfl, hb1⟩
      have HB1 := hide (HB0.out.trans (hb1.mono HB0.out.size))
      clear hb1
      go_wp2
      go_ret
      exact ⟨by show _ = Ending.returned (.bool (emptyE (n + 1) t)); rw [HR.out]; rfl, HB1.out⟩
    · have y1 : ((kk : Int) == 1) = false := by simp; omega
      have y2 : ((kk : Int) == 2) = false := by simp; omega
      have y3 : ((kk : Int) == 3) = true := by simp; omega
      have HR := hide (show emptyE (n + 1) t = l.any (fun x => emptyE n x) from by rw [HE.out, if_neg (by omega), if_neg (by omega), if_neg (by omega), if_pos e])
      clear e
      go_enter Tryz.func86, Tryz.ntmps86
      go_wp2_with fail
      refine (contains_any 86 (.inl rfl) n _ HI.out a len cap l _ HML.out HL.out (HKB.out _ HB0.out) HS.out).mono ?_
      rintro e w1 ⟨rfl, hb1⟩
      have HB1 := hide (HB0.out.trans (hb1.mono HB0.out.size))
      clear hb1
      go_wp2
      go_ret
      exact ⟨by show _ = Ending.returned (.bool (emptyE (n + 1) t)); rw [HR.out]; rfl, HB1.out⟩
    · have y1 : ((kk : Int) == 1) = false := by simp; omega
      have y2 : ((kk : Int) == 2) = false := by simp; omega
      have y3 : ((kk : Int) == 3) = false := by simp; omega
      have HR := hide (show emptyE (n + 1) t = true from by
        rw [HE.out, if_neg (by omega), if_neg (by omega), if_neg (by omega), if_neg (by omega), if_pos e]
        cases l with
        | nil => have := HL.out; simp at this; omega
        | cons x r => rfl)
      clear e e1
      go_enter Tryz.func86, Tryz.ntmps86
      go_wp2
      go_ret
      exact ⟨by show _ = Ending.returned (.bool (emptyE (n + 1) t)); rw [HR.out]; rfl, HB0.out⟩
theorem right_shapes {n : Nat} {t : Ex n} (h : rightE n t = true) : shapesE n t = true := by
  unfold rightE at h
  simp only [Bool.and_eq_true] at h
  exact h.2.2
set_option maxHeartbeats 800000 in
/-- Empty. -/
theorem empty_any (n : Nat) (t : Ex n) (v : Value) (w : World) (h : Rx w n t v) :
    Calls Tryz.prog 69 #[v] w fun e w' => e = .returned (.bool (rightE n t && emptyE n t)) ∧ Below w.heap.size w w' := by
  obtain ⟨c0, c1, c2, rfl⟩ := rx_form h
  obtain ⟨p0, p1, p2⟩ := box3 w c0 c1 c2 55
  have HX := hide h
  have HB0 := hide ((Below.refl w.heap.size w).alloc (Nat.le_refl _) (.cells #[c0, c1, c2] 55))
  clear h
  go_enter Tryz.func69, Tryz.ntmps69
  go_wp2_with fail
  refine (right_any n t _ _ (rx_below HB0.out n t _ HX.out)).mono ?_
  rintro e w1 ⟨rfl, hb1⟩
  have r0 := (hb1.cell (p := ⟨w.heap.size, 0, none⟩) (cell_lt p0)).trans p0
  have r1 := (hb1.cell (p := ⟨w.heap.size, 1, none⟩) (cell_lt p1)).trans p1
  have r2 := (hb1.cell (p := ⟨w.heap.size, 2, none⟩) (cell_lt p2)).trans p2
  have HB1 := hide (HB0.out.trans (hb1.mono HB0.out.size))
  clear hb1 p0 p1 p2
  cases hr : rightE n t with
  | false =>
    have HR := hide hr
    clear hr
    go_wp2
    go_ret
    exact ⟨by rw [HR.out]; rfl, HB1.out⟩
  | true =>
    have HR := hide hr
    clear hr
    go_wp2_with fail
    refine (empty_asks n t _ _ (rx_below HB1.out n t _ HX.out) (right_shapes HR.out)).mono ?_
    rintro e w2 ⟨rfl, hb2⟩
    have HB2 := hide (HB1.out.trans (hb2.mono HB1.out.size))
    clear hb2
    go_wp2
    go_ret
    exact ⟨by rw [HR.out]; rfl, HB2.out⟩
end Go.Proofs.YtbbfjjjnifomgaaGreatDoor.A



/- Expressions that a call has made: each list of parts in a block of its own. -/
namespace Go.Proofs.YtbbfjjjnifomgaaGreatDoor.A
open Go.RowKit

structure Nd where
  k : Nat
  s : Nat
  a : Option Addr
  l : Nat
  c : Nat
def Nd.val (x : Nd) : Value := .agg #[.int .u8 x.k, .int .u16 x.s, .slice x.a x.l x.c]
def cellsO (x : Nd) : List Value := [.int .u8 x.k, .int .u16 x.s, .slice x.a x.l x.c]
def cellsN : List Nd → List Value | [] => [] | x :: l => cellsO x ++ cellsN l
theorem cellsN_app (a b : List Nd) : cellsN (a ++ b) = cellsN a ++ cellsN b := by
  induction a with
  | nil => rfl
  | cons r a ih => simp [cellsN, ih]
theorem cellsN_one (r : Nd) : cellsN [r] = cellsO r := by simp [cellsN]
theorem cellsN_at : ∀ (l : List Nd) (i : Nat) (x : Nd), l[i]? = some x → (cellsN l)[i * 3]? = some (.int .u8 x.k) ∧ (cellsN l)[i * 3 + 1]? = some (.int .u16 x.s) ∧ (cellsN l)[i * 3 + 2]? = some (.slice x.a x.l x.c)
  | [], i, x, h => by simp at h
  | r :: l, 0, x, h => by simp at h; subst h; simp [cellsN, cellsO]
  | r :: l, i + 1, x, h => by
    have ih := cellsN_at l i x (by simpa using h)
    refine ⟨?_, ?_, ?_⟩
    · rw [← ih.1]; show (Value.int .u8 r.k :: .int .u16 r.s :: .slice r.a r.l r.c :: cellsN l)[(i + 1) * 3]? = _; rw [show (i + 1) * 3 = i * 3 + 1 + 1 + 1 by omega]; simp
    · rw [← ih.2.1]; show (Value.int .u8 r.k :: .int .u16 r.s :: .slice r.a r.l r.c :: cellsN l)[(i + 1) * 3 + 1]? = _; rw [show (i + 1) * 3 + 1 = i * 3 + 1 + 1 + 1 + 1 by omega]; simp
    · rw [← ih.2.2]; show (Value.int .u8 r.k :: .int .u16 r.s :: .slice r.a r.l r.c :: cellsN l)[(i + 1) * 3 + 2]? = _; rw [show (i + 1) * 3 + 2 = i * 3 + 2 + 1 + 1 + 1 by omega]; simp
theorem cellsN_one' (l : List Nd) : ∀ u ∈ cellsN l, u.oneCell' = true := by
  induction l with
  | nil => intro u h; cases h
  | cons r l ih =>
    intro u h
    simp only [cellsN, cellsO, List.cons_append, List.nil_append, List.mem_cons] at h
    rcases h with rfl | rfl | rfl | h
    · rfl
    · rfl
    · rfl
    · exact ih u h
theorem cellsO_one' (x : Nd) : ∀ u ∈ cellsO x, u.oneCell' = true := by
  have := cellsN_one' [x]
  rw [cellsN_one] at this
  exact this

/-- An expression whose lists of parts lie each in a block of its own, whole and unmarked: the blocks. -/
def Tr (w : World) : (n : Nat) → Ex n → Nd → List Nat → Prop
  | 0, _, _, _ => False
  | n + 1, t, x, S => x.k = kd t ∧ x.s = st t ∧ kd t < 256 ∧ st t < 65536 ∧ x.l ≤ x.c ∧ x.c ≤ maxLen ∧ (ks t).length = x.l ∧
      ((x.l = 0 ∧ S = []) ∨ ∃ (b : Nat) (cs : Array Value) (ys : List Nd) (Ss : List (List Nat)), x.a = some ⟨b, 0, none⟩ ∧ w.heap[b]? = some (.cells cs 55 (0, 0)) ∧ cs.toList.take (x.l * 3) = cellsN ys ∧ ys.length = x.l ∧ Ss.length = x.l ∧ S = b :: Ss.flatten ∧
        ∀ (i : Nat) (e : Ex n) (y : Nd) (T : List Nat), (ks t)[i]? = some e → ys[i]? = some y → Ss[i]? = some T → Tr w n e y T)
theorem mem_flat {Ss : List (List Nat)} {i : Nat} {T : List Nat} (h : Ss[i]? = some T) {b : Nat} (hb : b ∈ T) : b ∈ Ss.flatten := List.mem_flatten.2 ⟨T, List.mem_of_getElem? h, hb⟩
theorem tr_keep {w w' : World} : ∀ (n : Nat) (t : Ex n) (x : Nd) (S : List Nat), (∀ b ∈ S, w'.heap[b]? = w.heap[b]?) → Tr w n t x S → Tr w' n t x S
  | 0, _, _, _, _, h => h
  | n + 1, t, x, S, hS, ⟨h1, h2, h3, h4, h5, h6, h7, h8⟩ => by
    refine ⟨h1, h2, h3, h4, h5, h6, h7, ?_⟩
    rcases h8 with h8 | ⟨b, cs, ys, Ss, a1, a2, a3, a4, a5, a6, a7⟩
    · exact .inl h8
    · refine .inr ⟨b, cs, ys, Ss, a1, (hS b (by rw [a6]; simp)).trans a2, a3, a4, a5, a6, fun i e y T he hy hT => ?_⟩
      exact tr_keep n e y T (fun b' hb' => hS b' (by rw [a6]; exact List.mem_cons_of_mem _ (mem_flat hT hb'))) (a7 i e y T he hy hT)
theorem tr_lt {w : World} : ∀ (n : Nat) (t : Ex n) (x : Nd) (S : List Nat), Tr w n t x S → ∀ b ∈ S, b < w.heap.size
  | 0, _, _, _, h => h.elim
  | n + 1, t, x, S, ⟨_, _, _, _, _, _, h7, h8⟩ => by
    rcases h8 with ⟨_, h8⟩ | ⟨b, cs, ys, Ss, _, a2, _, a4, a5, a6, a7⟩
    · intro b hb; rw [h8] at hb; cases hb
    · intro c hc
      rw [a6] at hc
      rcases List.mem_cons.1 hc with rfl | hc
      · exact (Array.getElem?_eq_some_iff.1 a2).1
      · obtain ⟨T, hT, hc⟩ := List.mem_flatten.1 hc
        obtain ⟨i, hi⟩ := List.getElem?_of_mem hT
        have hlt := (List.getElem?_eq_some_iff.1 hi).1
        exact tr_lt n (ks t)[i] ys[i] T (a7 i _ _ T (by simp) (by simp) hi) c hc
theorem tr_rx {w : World} : ∀ (n : Nat) (t : Ex n) (x : Nd) (S : List Nat), Tr w n t x S → Rx w n t x.val
  | 0, _, _, _, h => h.elim
  | n + 1, t, x, S, ⟨h1, h2, h3, h4, h5, h6, h7, h8⟩ => by
    refine ⟨x.a, x.l, x.c, by unfold Nd.val; rw [h1, h2], h3, h4, h5, h6, h7, ?_⟩
    rcases h8 with ⟨h8, _⟩ | ⟨b, cs, ys, Ss, a1, a2, a3, a4, a5, a6, a7⟩
    · exact .inl h8
    · refine .inr ⟨b, 0, a1, fun i e he => ?_⟩
      have hlt : i < x.l := by have := (List.getElem?_eq_some_iff.1 he).1; omega
      have hy : ys[i]? = some ys[i] := by simp
      have hT : Ss[i]? = some Ss[i] := by simp
      obtain ⟨q0, q1, q2⟩ := cellsN_at ys i _ hy
      have hc : ∀ j u, (cellsN ys)[j]? = some u → w.cell? ⟨b, j, none⟩ = some u := fun j u hj => by
        rw [cell_of_row w b j cs 55 (0, 0) a2]
        rw [← a3] at hj
        have := List.getElem?_take_of_lt (l := cs.toList) (i := j) (j := x.l * 3) (by have := (List.getElem?_eq_some_iff.1 hj).1; simp at this; omega)
        rw [this] at hj
        simpa using hj
      rw [Nat.zero_add]
      exact ⟨_, _, _, hc _ _ q0, hc _ _ q1, hc _ _ q2, tr_rx n e ys[i] Ss[i] (a7 i e _ _ he hy hT)⟩

/-- A list of parts that is being made. -/
def Mkg (base : Nat) (w : World) (n : Nat) (l : List (Ex n)) (v : Value) (ys : List Nd) (Ss : List (List Nat)) : Prop :=
  w.ownsRow base 55 3 v l.length (cellsN ys) ∧ ys.length = l.length ∧ Ss.length = l.length ∧ (∀ (i : Nat) (e : Ex n) (y : Nd) (T : List Nat), l[i]? = some e → ys[i]? = some y → Ss[i]? = some T → Tr w n e y T) ∧
    Ss.flatten.Nodup ∧ (∀ b ∈ Ss.flatten, base ≤ b ∧ b < w.heap.size) ∧ (∀ g, v.ownBlock = some g → g ∉ Ss.flatten)
theorem mkg_nil (base : Nat) (w : World) (n : Nat) : Mkg base w n [] (.slice none 0 0) [] [] :=
  ⟨World.ownsRow_nil _ _ _ _, rfl, rfl, fun i e y T h => by simp at h, by simp, fun b h => by simp at h, fun g h => by simp [Value.ownBlock] at h⟩
theorem own_below {w w' : World} {base n size : Nat} {e : TypeId} {v : Value} {xs : List Value} (h : w.ownsRow base e size v n xs) (hb : Below w.heap.size w w') : w'.ownsRow base e size v n xs := by
  refine ⟨h.1, ?_⟩
  rcases h.2 with h0 | ⟨g, cap, cur, hv, hg, hcur, h1, h2, h3, h4⟩
  · exact .inl h0
  · have hlt : g < w.heap.size := (h.lt g (by rw [hv]; rfl)).2
    exact .inr ⟨g, cap, cur, hv, hg, (hb.block g hlt).trans hcur, h1, h2, h3, h4⟩
theorem mkg_below {base : Nat} {w w' : World} {n : Nat} {l : List (Ex n)} {v : Value} {ys : List Nd} {Ss : List (List Nat)} (h : Mkg base w n l v ys Ss) (hb : Below w.heap.size w w') : Mkg base w' n l v ys Ss := by
  obtain ⟨h1, h2, h3, h4, h5, h6, h7⟩ := h
  exact ⟨own_below h1 hb, h2, h3, fun i e y T he hy hT => tr_keep n e y T (fun b hb' => hb.block b (h6 b (mem_flat hT hb')).2) (h4 i e y T he hy hT), h5, fun b hb' => ⟨(h6 b hb').1, Nat.lt_of_lt_of_le (h6 b hb').2 hb.size⟩, h7⟩
/-- A cell of one's own that is no row of it. -/
theorem mkg_set {base : Nat} {w : World} {n : Nat} {l : List (Ex n)} {v : Value} {ys : List Nd} {Ss : List (List Nat)} (h : Mkg base w n l v ys Ss) {a : Addr} (ha : a.block < base) (u : Value) : Mkg base (w.setCell a u) n l v ys Ss := by
  obtain ⟨h1, h2, h3, h4, h5, h6, h7⟩ := h
  refine ⟨ownsRow_setCell_below h1 ha u, h2, h3, fun i e y T he hy hT => tr_keep n e y T (fun b hb' => Below.heap_setCell _ _ _ _ (by have := (h6 b (mem_flat hT hb')).1; omega)) (h4 i e y T he hy hT), h5, fun b hb' => ⟨(h6 b hb').1, by simpa using (h6 b hb').2⟩, h7⟩
theorem mkg_app {base : Nat} {w w3 : World} {n : Nat} {l : List (Ex n)} {v : Value} {ys : List Nd} {Ss : List (List Nat)} (h : Mkg base w n l v ys Ss) {e : Ex n} {y : Nd} {T : List Nat} (ht : Tr w n e y T) (hT : T.Nodup) {lo : Nat} (hlo : ∀ b ∈ T, lo ≤ b ∧ b < w.heap.size) (hbl : base ≤ lo)
    (hS : ∀ b ∈ Ss.flatten, b < lo) (hv : ∀ g, v.ownBlock = some g → g < lo) {g cap : Nat} (hown : w3.ownsRow base 55 3 (.slice (some ⟨g, 0, none⟩) (l.length + 1) cap) (l.length + 1) (cellsN ys ++ cellsO y)) (hgrow : w.grownBy w3 v.ownBlock) (hat : v.ownBlock = some g ∨ g = w.heap.size) :
    Mkg base w3 n (l ++ [e]) (.slice (some ⟨g, 0, none⟩) (l.length + 1) cap) (ys ++ [y]) (Ss ++ [T]) := by
  obtain ⟨h1, h2, h3, h4, h5, h6, h7⟩ := h
  have hT2 : ∀ b ∈ T, v.ownBlock ≠ some b := fun b hb q => by have := hv b q; have := hlo b hb; omega
  refine ⟨by rw [cellsN_app, cellsN_one, List.length_append]; exact hown, by simp [h2], by simp [h3], ?_, ?_, ?_, ?_⟩
  · intro i e' y' T' he hy hT'
    by_cases hi : i < l.length
    · rw [List.getElem?_append_left hi] at he
      rw [List.getElem?_append_left (by omega)] at hy hT'
      exact tr_keep n e' y' T' (fun b hb => hgrow.block b (h6 b (mem_flat hT' hb)).2 (fun q => h7 b q.symm (mem_flat hT' hb))) (h4 i e' y' T' he hy hT')
    · have hi2 : i = l.length := by have := (List.getElem?_eq_some_iff.1 he).1; simp at this; omega
      subst hi2
      rw [List.getElem?_append_right (Nat.le_refl _)] at he
      rw [List.getElem?_append_right (by omega)] at hy hT'
      rw [h2] at hy
      rw [h3] at hT'
      simp only [Nat.sub_self, List.getElem?_cons_zero, Option.some.injEq] at he hy hT'
      subst he; subst hy; subst hT'
      exact tr_keep n _ _ _ (fun b hb => hgrow.block b (hlo b hb).2 (fun q => hT2 b hb q.symm)) ht
  · rw [List.flatten_append]
    refine List.nodup_append.2 ⟨h5, by simpa using hT, fun b hb c hc q => ?_⟩
    subst q
    have := hS b hb
    have := hlo b (by simpa using hc)
    omega
  · intro b hb
    rw [List.flatten_append] at hb
    rcases List.mem_append.1 hb with hb | hb
    · exact ⟨(h6 b hb).1, Nat.lt_of_lt_of_le (h6 b hb).2 hgrow.size⟩
    · have := hlo b (by simpa using hb)
      exact ⟨by omega, Nat.lt_of_lt_of_le this.2 hgrow.size⟩
  · intro g' hg' hm
    have hg2 : g' = g := by simpa [Value.ownBlock] using hg'.symm
    subst hg2
    rw [List.flatten_append] at hm
    rcases List.mem_append.1 hm with hm | hm
    · rcases hat with hat | hat
      · exact h7 g' hat hm
      · have := (h6 g' hm).2; omega
    · have hm' : g' ∈ T := by simpa using hm
      rcases hat with hat | hat
      · exact hT2 g' hm' hat
      · have := (hlo g' hm').2; omega
/-- What is made is an expression. -/
theorem mkg_end {base : Nat} {w : World} {n : Nat} {l : List (Ex n)} {v : Value} {ys : List Nd} {Ss : List (List Nat)} (h : Mkg base w n l v ys Ss) {k s : Nat} (hk : k < 256) (hs : s < 65536) :
    ∃ (a : Option Addr) (len cap : Nat) (S : List Nat), v = .slice a len cap ∧ Tr w (n + 1) ((k, s, l) : Ex (n + 1)) ⟨k, s, a, len, cap⟩ S ∧ S.Nodup ∧ ∀ b ∈ S, base ≤ b := by
  obtain ⟨h1, h2, h3, h4, h5, h6, h7⟩ := h
  rcases h1.2 with ⟨rfl, h0⟩ | ⟨g, cap, cur, rfl, hg, hcur, q1, q2, q3, q4⟩
  · exact ⟨none, 0, 0, [], rfl, ⟨rfl, rfl, hk, hs, Nat.le_refl _, by show 0 ≤ maxLen; unfold maxLen; omega, h0, .inl ⟨rfl, rfl⟩⟩, by simp, fun b hb => by cases hb⟩
  · by_cases h0 : l.length = 0
    · exact ⟨_, _, _, [], rfl, ⟨rfl, rfl, hk, hs, q1, q2, rfl, .inl ⟨h0, rfl⟩⟩, by simp, fun b hb => by cases hb⟩
    · refine ⟨_, _, _, g :: Ss.flatten, rfl, ⟨rfl, rfl, hk, hs, q1, q2, rfl, .inr ⟨g, cur, ys, Ss, rfl, hcur, q4, h2, h3, rfl, h4⟩⟩, List.nodup_cons.2 ⟨h7 g rfl, h5⟩, fun b hb => ?_⟩
      rcases List.mem_cons.1 hb with rfl | hb
      · exact hg
      · exact (h6 b hb).1
end Go.Proofs.YtbbfjjjnifomgaaGreatDoor.A



/- The program's turn. -/
namespace Go.Proofs.YtbbfjjjnifomgaaGreatDoor.A
open Go.RowKit

theorem info55 : (Tryz.prog.info? 55).map (fun i => (i.zero, i.size, i.bytes)) = some (some (.agg #[.int .u8 0, .int .u16 0, .slice none 0 0]), 3, 32) := by kernel_rfl
/-- A struct of three cells. -/
def St3 (w : World) (b : Nat) (k s : Nat) (v : Value) : Prop := w.heap[b]? = some (.cells #[.int .u8 k, .int .u16 s, v] 55 (0, 0))
theorem st3_cells {w : World} {b k s : Nat} {v : Value} (h : St3 w b k s v) : w.cell? ⟨b, 0, none⟩ = some (.int .u8 k) ∧ w.cell? ⟨b, 1, none⟩ = some (.int .u16 s) ∧ w.cell? ⟨b, 2, none⟩ = some v ∧ ∀ j, w.frozen? ⟨b, j, none⟩ = false := by
  unfold St3 at h
  refine ⟨?_, ?_, ?_, fun j => ?_⟩ <;> simp [World.cell?, World.frozen?, h]
theorem st3_set {w : World} {b k s : Nat} {v : Value} (h : St3 w b k s v) (u : Value) : St3 (w.setCell ⟨b, 2, none⟩ u) b k s u := by
  unfold St3 at h ⊢
  rw [setCell_eq_setRow _ _ _ _ _ _ _ h, setRow_heap _ _ _ _ _ _ h]
  rfl
theorem st3_lt {w : World} {b k s : Nat} {v : Value} (h : St3 w b k s v) : b < w.heap.size := (Array.getElem?_eq_some_iff.1 h).1
theorem st3_below {w w' : World} {b k s B : Nat} {v : Value} (h : St3 w b k s v) (hb : Below B w w') (hB : b < B) : St3 w' b k s v := (hb.block b hB).trans h
theorem st3_grown {w w' : World} {b k s : Nat} {v : Value} {r : Option Nat} (h : St3 w b k s v) (hg : w.grownBy w' r) (hr : some b ≠ r) : St3 w' b k s v := (hg.block b (st3_lt h) hr).trans h
theorem one_newN (w : World) (x : Nd) (t : TypeId) : ∀ j u, (cellsO x)[j]? = some u → (w.alloc (.cells #[.int .u8 x.k, .int .u16 x.s, .slice x.a x.l x.c] t)).cell? ((⟨w.heap.size, 0, none⟩ : Addr).add j) = some u := by
  intro j u hj
  match j with
  | 0 => simp [cellsO] at hj; subst hj; simp [Addr.add]
  | 1 => simp [cellsO] at hj; subst hj; simp [Addr.add]
  | 2 => simp [cellsO] at hj; subst hj; simp [Addr.add]
  | j + 3 => simp [cellsO] at hj

/-- What a call has made: an expression in new memory. -/
def Makes (w : World) (n : Nat) (t : Ex n) (e : Ending) (w' : World) : Prop := ∃ (y : Nd) (S : List Nat), e = .returned (.agg #[.int .u8 y.k, .int .u16 y.s, .slice y.a y.l y.c]) ∧ Tr w' n t y S ∧ S.Nodup ∧ (∀ b ∈ S, w.heap.size ≤ b) ∧ Below w.heap.size w w'
theorem sum_mem {α : Type} (f : α → Nat) : ∀ (l : List α) (x : α), x ∈ l → f x ≤ (l.map f).sum
  | [], x, h => by cases h
  | y :: r, x, h => by
    rw [List.map_cons, List.sum_cons]
    rcases List.mem_cons.1 h with rfl | h
    · omega
    · have := sum_mem f r x h; omega
theorem sum_len {α : Type} (f : α → Nat) : ∀ (l : List α), (∀ x ∈ l, 1 ≤ f x) → l.length ≤ (l.map f).sum
  | [], _ => Nat.le_refl _
  | y :: r, h => by
    rw [List.map_cons, List.sum_cons, List.length_cons]
    have := sum_len f r (fun x hx => h x (by simp [hx]))
    have := h y (by simp)
    omega
theorem ureal_pos {n : Nat} {t : Ex n} (h : full n t) : 1 ≤ realN n t := by
  cases n with
  | zero => exact h.elim
  | succ n => show 1 ≤ 1 + _; omega
theorem real_len {n : Nat} {t : Ex (n + 1)} (h : full (n + 1) t) : (ks t).length + 1 ≤ realN (n + 1) t := by
  have := sum_len (fun x => realN n x) (ks t) (fun x hx => ureal_pos (h x hx))
  show _ ≤ 1 + ((ks t).map (fun x => realN n x)).sum
  omega
theorem real_kid {n : Nat} {t : Ex (n + 1)} {x : Ex n} (h : x ∈ ks t) : realN n x ≤ realN (n + 1) t := by
  have := sum_mem (fun x => realN n x) (ks t) x h
  show _ ≤ 1 + ((ks t).map (fun x => realN n x)).sum
  omega

/-- One part more. -/
theorem mkg_next {base q k s : Nat} {wr w2 w3 : World} {n : Nat} {l : List (Ex n)} {v : Value} {ys : List Nd} {Ss : List (List Nat)} (h : Mkg base wr n l v ys Ss) (hst : St3 wr q k s v) (hq : q < base) {lo : Nat} (hlo : wr.heap.size ≤ lo) (hbase : base ≤ wr.heap.size) {e : Ex n} {y : Nd} {T : List Nat}
    (hT : Tr w2 n e y T) (hTn : T.Nodup) (hTl : ∀ b ∈ T, lo ≤ b) (hb : Below lo wr w2) {g cap : Nat} (o : Obj)
    (hown : w3.ownsRow base 55 3 (.slice (some ⟨g, 0, none⟩) (l.length + 1) cap) (l.length + 1) (cellsN ys ++ cellsO y)) (hgrow : (w2.alloc o).grownBy w3 v.ownBlock) (hat : v.ownBlock = some g ∨ g = w2.heap.size + 1) :
    Mkg base (w3.setCell ⟨q, 2, none⟩ (.slice (some ⟨g, 0, none⟩) (l.length + 1) cap)) n (l ++ [e]) (.slice (some ⟨g, 0, none⟩) (l.length + 1) cap) (ys ++ [y]) (Ss ++ [T]) ∧
    St3 (w3.setCell ⟨q, 2, none⟩ (.slice (some ⟨g, 0, none⟩) (l.length + 1) cap)) q k s (.slice (some ⟨g, 0, none⟩) (l.length + 1) cap) ∧
    Below q wr (w3.setCell ⟨q, 2, none⟩ (.slice (some ⟨g, 0, none⟩) (l.length + 1) cap)) := by
  have hv : ∀ g, v.ownBlock = some g → base ≤ g ∧ g < wr.heap.size := fun g hg => h.1.lt g hg
  have hb0 : Below wr.heap.size wr w2 := hb.mono hlo
  have h2 := mkg_below h hb0
  have h3 := mkg_below h2 ((Below.refl w2.heap.size w2).alloc (Nat.le_refl _) o)
  have hTw := tr_lt n e y T hT
  have hT3 : Tr (w2.alloc o) n e y T := tr_keep n e y T (fun b hb' => Below.heap_alloc _ _ _ (hTw b hb')) hT
  have s2 := st3_below (st3_below hst hb0 (st3_lt hst)) ((Below.refl w2.heap.size w2).alloc (Nat.le_refl _) o) (by have := st3_lt hst; have := hb0.size; omega)
  have s3 := st3_grown s2 hgrow (fun e => by have := (hv q e.symm).1; omega)
  have m := mkg_app h3 hT3 hTn (lo := lo) (fun b hb' => ⟨hTl b hb', by have := hTw b hb'; simp; omega⟩) (by omega) (fun b hb' => by have := (h.2.2.2.2.2.1 b hb').2; omega) (fun g hg => by have := (hv g hg).2; omega) hown hgrow (by simpa using hat)
  refine ⟨mkg_set m hq _, st3_set s3 _, ?_⟩
  have b1 : Below base wr (w2.alloc o) := (hb.mono (by omega)).alloc (by have := hb0.size; omega) o
  exact ((b1.grown hgrow (by have := hb0.size; simp; omega) (fun g hg => (hv g hg).1)).mono (by omega)).setCell (by simp) _
end Go.Proofs.YtbbfjjjnifomgaaGreatDoor.A



/- The program's duplicate, walked. -/
namespace Go.Proofs.YtbbfjjjnifomgaaGreatDoor.A
open Go.RowKit

theorem ubelow_drew1 (w : World) : Below w.heap.size w w.drew := (Below.refl _ _).drew
theorem cell_allocU {w : World} {a : Addr} {v : Value} (h : w.cell? a = some v) (o : Obj) : (w.alloc o).cell? a = some v := (World.cell?_of_block (Below.heap_alloc w o a.block (cell_lt h))).trans h
set_option maxRecDepth 100000 in
set_option maxHeartbeats 12800000 in
theorem dup_any : ∀ (n : Nat) (t : Ex n) (v : Value) (w : World), Rx w n t v → shapesE n t = true → realN n t ≤ 100 →
    Calls Tryz.prog 174 #[v] w fun e w' => Makes w n t e w' := by
  intro n
  induction n with
  | zero => intro t v w h; exact h.elim
  | succ n ih =>
    intro t v w h hsh hrn
    obtain ⟨i0, hi0, hz0, hz1, hz2⟩ := info_parts info55
    have hrl := real_len (rx_full _ _ _ h)
    have HRK := hide (fun (x : Ex n) (hx : x ∈ ks t) => Nat.le_trans (real_kid hx) hrn)
    obtain ⟨a, len, cap, rfl, hk, hs, hl, h6, hkids⟩ := rx_open h
    obtain ⟨hok, hall⟩ : okE (kd t) (st t) (ks t).length = true ∧ ∀ x ∈ ks t, shapesE n x = true := by
      have e : (okE (kd t) (st t) (ks t).length && (ks t).all (fun x => shapesE n x)) = true := hsh
      rw [Bool.and_eq_true, List.all_eq_true] at e
      exact e
    have HE := hide (show t = ((kd t, st t, ks t) : Ex (n + 1)) from rfl)
    rw [h6] at hok hrl
    have hlen : len ≤ 100 := by omega
    generalize kd t = kk at *
    generalize st t = ss at *
    generalize ks t = l at *
    have HK := hide hkids
    have HS := hide hall
    have HL := hide h6
    obtain ⟨q, hq⟩ : ∃ q, w.heap.size = q := ⟨_, rfl⟩
    have hW1 := ((((Below.refl w.heap.size w).alloc (Nat.le_refl _) (.cells #[.int .u8 kk, .int .u16 ss, .slice a len cap] 55)).alloc (by simp) (.cells #[.int .u8 0, .int .u16 0, .slice none 0 0] 55)).alloc (by simp; omega) (.cells #[.int .u8 kk, .int .u16 ss, .slice none 0 0] 55))
    have hW2 : (((w.alloc (.cells #[.int .u8 kk, .int .u16 ss, .slice a len cap] 55)).alloc (.cells #[.int .u8 0, .int .u16 0, .slice none 0 0] 55)).alloc (.cells #[.int .u8 kk, .int .u16 ss, .slice none 0 0] 55)).heap.size = q + 3 := by simp [hq]
    have hW3 : St3 (((w.alloc (.cells #[.int .u8 kk, .int .u16 ss, .slice a len cap] 55)).alloc (.cells #[.int .u8 0, .int .u16 0, .slice none 0 0] 55)).alloc (.cells #[.int .u8 kk, .int .u16 ss, .slice none 0 0] 55)) (q + 2) kk ss (.slice none 0 0) := by
      have e := heap_alloc_last ((w.alloc (.cells #[.int .u8 kk, .int .u16 ss, .slice a len cap] 55)).alloc (.cells #[.int .u8 0, .int .u16 0, .slice none 0 0] 55)) (.cells #[.int .u8 kk, .int .u16 ss, .slice none 0 0] 55)
      rw [show ((w.alloc (.cells #[.int .u8 kk, .int .u16 ss, .slice a len cap] 55)).alloc (.cells #[.int .u8 0, .int .u16 0, .slice none 0 0] 55)).heap.size = q + 2 by simp [hq]] at e
      exact e
    have hW4 : St3 (((w.alloc (.cells #[.int .u8 kk, .int .u16 ss, .slice a len cap] 55)).alloc (.cells #[.int .u8 0, .int .u16 0, .slice none 0 0] 55)).alloc (.cells #[.int .u8 kk, .int .u16 ss, .slice none 0 0] 55)) q kk ss (.slice a len cap) := by
      have e := heap_alloc_last w (.cells #[.int .u8 kk, .int .u16 ss, .slice a len cap] 55)
      rw [hq] at e
      exact (Below.heap_alloc _ _ _ (by simp [hq]; omega)).trans ((Below.heap_alloc _ _ _ (by simp [hq])).trans e)
    have hW5 : St3 (((w.alloc (.cells #[.int .u8 kk, .int .u16 ss, .slice a len cap] 55)).alloc (.cells #[.int .u8 0, .int .u16 0, .slice none 0 0] 55)).alloc (.cells #[.int .u8 kk, .int .u16 ss, .slice none 0 0] 55)) (q + 1) 0 0 (.slice none 0 0) := by
      have e := heap_alloc_last (w.alloc (.cells #[.int .u8 kk, .int .u16 ss, .slice a len cap] 55)) (.cells #[.int .u8 0, .int .u16 0, .slice none 0 0] 55)
      rw [show (w.alloc (.cells #[.int .u8 kk, .int .u16 ss, .slice a len cap] 55)).heap.size = q + 1 by simp [hq]] at e
      exact (Below.heap_alloc _ _ _ (by simp [hq])).trans e
    have HW := hide (And.intro hW1 (And.intro hW2 (And.intro hW3 (And.intro hW4 hW5))))
    clear h hkids hsh hok hall h6 hrn hrl hl hW1 hW2 hW3 hW4 hW5
    go_enter Tryz.func174, Tryz.ntmps174
    go_wp2_with fail
    obtain ⟨hW1, hW2, hW3, hW4, hW5⟩ := HW.out
    clear HW
    generalize ((w.alloc (.cells #[.int .u8 kk, .int .u16 ss, .slice a len cap] 55)).alloc (.cells #[.int .u8 0, .int .u16 0, .slice none 0 0] 55)).alloc (.cells #[.int .u8 kk, .int .u16 ss, .slice none 0 0] 55) = W at *
    rw [hq] at hW1
    have HQ := hide hq
    obtain ⟨q2, hq2⟩ : ∃ q2, q + 1 + 1 = q2 := ⟨_, rfl⟩
    rw [hq2]
    rw [show q + 2 = q2 by omega] at hW3
    have HQ2 := hide (show q2 = q + 2 by omega)
    clear hq2
    have HW1 := hide hW1
    have HW2 := hide hW2
    have HW3 := hide hW3
    have HW4 := hide hW4
    have HW5 := hide hW5
    clear hq hW1 hW2 hW3 hW4 hW5
    go_loopw [5, 14] (fun _ u wr => ∃ (i : Nat) (vv : Value) (ys : List Nd) (Ss : List (List Nat)), i ≤ len ∧ u = .int .i64 i ∧ St3 wr q2 kk ss vv ∧ Mkg (q + 3) wr n (l.take i) vv ys Ss ∧ Below q2 W wr ∧ q + 3 ≤ wr.heap.size) (fun _ u _ => len - (intOf u).toNat)
    case atStart => exact ⟨0, _, [], [], Nat.zero_le _, rfl, HW3.out, mkg_nil _ _ _, Below.refl _ _, by rw [HW2.out]; exact Nat.le_refl _⟩
    case round =>
      obtain ⟨i, vv, ys, Ss, hi, rfl, hst, hmk, hb, hsz⟩ := hrel
      by_cases hlt : i < len
      · obtain ⟨x, b, off, c0, c1, c2, rfl, hx, k0, k1, k2, k3⟩ := HK.out wr (by rw [HQ.out]; exact HW1.out.trans (hb.mono (by have := HQ2.out; omega))) i hlt
        obtain ⟨kx, sx, ax, lx, cx, rfl, rfl, rfl⟩ := rx_cells k3
        have HMEM := hide (List.mem_of_getElem? hx)
        have HN := hide (take_at hx)
        have HLI := hide (show (l.take i).length = i by simp; have := HL.out; omega)
        have i3 : (0 : Int) ≤ (i : Int) := by omega
        have i4 : (i : Int) < (len : Int) := by omega
        have hbA := (Below.refl wr.heap.size wr).alloc (Nat.le_refl _) (.cells #[.int .u8 kx, .int .u16 sx, .slice ax lx cx] 55)
        have HXA := hide (rx_below hbA n x _ k3)
        have HST := hide (st3_below hst hbA (st3_lt hst))
        have HMK := hide (mkg_below hmk hbA)
        have HBA := hide (hb.alloc (by have := HQ2.out; omega) (.cells #[.int .u8 kx, .int .u16 sx, .slice ax lx cx] 55))
        have HSZ := hide (show q + 3 ≤ (wr.alloc (.cells #[.int .u8 kx, .int .u16 sx, .slice ax lx cx] 55)).heap.size by simp; omega)
        have HBX := hide (box3 wr (.int .u8 kx) (.int .u16 sx) (.slice ax lx cx) 55)
        have HSA := hide (show (wr.alloc (.cells #[.int .u8 kx, .int .u16 sx, .slice ax lx cx] 55)).heap.size = wr.heap.size + 1 by simp)
        clear hx k3 hbA hst hmk hb hsz
        go_wp2_with fail
        obtain ⟨t0, t1, t2⟩ := HBX.out
        clear HBX k0 k1 k2
        generalize wr.alloc (.cells #[.int .u8 kx, .int .u16 sx, .slice ax lx cx] 55) = V at *
        obtain ⟨z, hz⟩ : ∃ z, wr.heap.size = z := ⟨_, rfl⟩
        rw [hz] at t0 t1 t2 HSA
        rw [hz]
        clear hz
        obtain ⟨s0, s1, s2, s3⟩ := st3_cells HST.out
        have s4 := s3 2
        clear s0 s1 s3
        have HOW := hide (fun (w2 : World) (hb2 : Below V.drew.heap.size V.drew w2) (y : Nd) => show (w2.alloc (.cells #[.int .u8 y.k, .int .u16 y.s, .slice y.a y.l y.c] 55)).ownsRow (q + 3) 55 3 vv i (cellsN ys) ∧ (∀ j u, (cellsO y)[j]? = some u → (w2.alloc (.cells #[.int .u8 y.k, .int .u16 y.s, .slice y.a y.l y.c] 55)).cell? ((⟨w2.heap.size, 0, none⟩ : Addr).add j) = some u) ∧ q + 3 ≤ (w2.alloc (.cells #[.int .u8 y.k, .int .u16 y.s, .slice y.a y.l y.c] 55)).heap.size ∧ (w2.alloc (.cells #[.int .u8 y.k, .int .u16 y.s, .slice y.a y.l y.c] 55)).heap.size = w2.heap.size + 1 from
          ⟨by have := (own_below HMK.out.1 ((ubelow_drew1 V).trans hb2)).alloc (.cells #[.int .u8 y.k, .int .u16 y.s, .slice y.a y.l y.c] 55); rw [HLI.out] at this; exact this, one_newN w2 y 55, by have := hb2.size; have := HSZ.out; simp at *; omega, by simp⟩)
        have HSW := hide (fun (w2 : World) (hb2 : Below V.drew.heap.size V.drew w2) (o : Obj) (w3 : World) (hgr : (w2.alloc o).grownBy w3 vv.ownBlock) => show w3.cell? ⟨q2, 2, none⟩ = some vv ∧ w3.frozen? ⟨q2, 2, none⟩ = false from by
          have b1 := (ubelow_drew1 V).trans hb2
          have st1 := st3_below HST.out b1 (st3_lt HST.out)
          have st2 : St3 (w2.alloc o) q2 kk ss vv := (Below.heap_alloc _ _ _ (st3_lt st1)).trans st1
          have st3 := st3_grown st2 hgr (fun e => by have := (HMK.out.1.lt q2 e.symm).1; have := HQ2.out; omega)
          obtain ⟨_, _, j2, j3⟩ := st3_cells st3
          exact ⟨j2, j3 2⟩)
        go_region_law ((first | (refine step_append_lies _ (by rfl) (.tmp 19) (.tmp 22) 50 (by rfl) (q + 3) 55 i0 (.agg #[.int .u8 0, .int .u16 0, .slice none 0 0]) 3 32 Tryz.underlying50 hi0 hz0 hz1 hz2 rfl (by omega) vv i (cellsN ys) (by rfl) (HOW.out w2 hb2 y).1 ⟨w2.heap.size, 0, none⟩ 1 1 (cellsO y) (by rfl) rfl (HOW.out w2 hb2 y).2.1 (cellsO_one' y) (by omega) (by unfold maxLen; omega) (by omega) (HOW.out w2 hb2 y).2.2.1 _ (HOW.out w2 hb2 y).2.2.2 ?_; intro g cap' w3 hown3 hgrow3 hat3 hlt3; obtain ⟨g5, g6⟩ := HSW.out w2 hb2 _ w3 hgrow3) | (go_simp; go_at_call 174; refine (ih x _ _ (rx_below (ubelow_drew1 V) n x _ HXA.out) (HS.out x HMEM.out) (HRK.out x HMEM.out)).mono ?_; rintro e w2 ⟨y, T, rfl, hT1, hT2, hT3, hb2⟩; have u2 := (hb2.cell (p := ⟨q2, 2, none⟩) (cell_lt s2)).trans s2; have u3 := fun o => cell_allocU u2 o; go_simp)))
        all_goals
          have HR := hide (mkg_next HMK.out HST.out (by have := HQ2.out; omega) (lo := V.heap.size) (Nat.le_refl _) HSZ.out hT1 hT2 hT3 ((ubelow_drew1 V).trans hb2) _ (by rw [HLI.out]; exact hown3) hgrow3 hat3)
          have HZ3 := hide (show q + 3 ≤ w3.heap.size by have := hgrow3.size; have := hb2.size; have := HSZ.out; simp at *; omega)
          rw [HLI.out] at HR
          clear hown3 hgrow3 hat3 hlt3 g5 g6 hT1 hT2 hT3 hb2 HSW HOW u2 u3
          go_wp2
          go_roundw
          case rel => exact ⟨i + 1, _, _, _, by omega, by go_num, HR.out.2.1, by rw [HN.out]; exact HR.out.1, HBA.out.trans (HR.out.2.2.mono (Nat.le_refl _)), by simpa using HZ3.out⟩
          case measure => simp [intOf]; omega
      · have e : i = len := by omega
        subst e
        have HT := hide (show l.take i = l from List.take_of_length_le (by have := HL.out; omega))
        rw [HT.out] at hmk
        have h1 := st3_cells (st3_below HW5.out hb (by have := HQ2.out; omega))
        obtain ⟨m0, m1, m2, m3⟩ := h1
        have m4 := m3 0
        have m5 := m3 1
        have m6 := m3 2
        clear m3
        obtain ⟨n0, -, -, -⟩ := st3_cells (st3_below HW4.out hb (by have := HQ2.out; omega))
        have HBW := hide (show Below q w wr from HW1.out.trans (hb.mono (by have := HQ2.out; omega)))
        have hqq : q + 1 ≠ q2 := by have := HQ2.out; omega
        have hqs := hqq.symm
        obtain ⟨a', len', cap', S, rfl, hTr, hSn, hSl⟩ := mkg_end hmk hk hs
        obtain ⟨o0, o1, o2, o3⟩ := st3_cells hst
        have HTR := hide hTr
        have HSN := hide hSn
        have HSL := hide hSl
        have HEE := hide (show t = ((kk, ss, l) : Ex (n + 1)) from HE.out)
        clear hmk hTr hSn hSl o3 hb hst
        go_wp2
        refine bodyPost_ret (v := .agg #[.int .u8 kk, .int .u16 ss, .slice a' len' cap']) (by simp [results, Tryz.results174, go_sem, m0, m1, m2]) rfl ?_
        refine ⟨⟨kk, ss, a', len', cap'⟩, S, rfl, ?_, HSN.out, fun b hb => by have := HSL.out b hb; rw [HQ.out]; omega, ?_⟩
        · rw [HEE.out]
          exact tr_keep _ _ _ _ (fun b hb => by
            have := HSL.out b hb
            rw [Below.heap_setCell _ _ _ _ (by simp; omega), Below.heap_setCell _ _ _ _ (by simp; omega), Below.heap_setCell _ _ _ _ (by simp; omega)]) HTR.out
        · rw [HQ.out]
          exact ((HBW.out.setCell (by simp) _).setCell (by simp) _).setCell (by simp) _
end Go.Proofs.YtbbfjjjnifomgaaGreatDoor.A


