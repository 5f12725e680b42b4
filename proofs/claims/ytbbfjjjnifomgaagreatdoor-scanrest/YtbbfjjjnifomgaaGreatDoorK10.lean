/- What the document's 'lay' writes: the sets; the machine of several expressions. -/
import Derived.WalkKit
import Derived.ProofKit
import Derived.Outline
import Derived.BigQuiet
import Derived.Deep.QuietTactic
import Derived.Below
import Derived.Deep.RegionHeld3
import Derived.OpenShut
import Derived.Deep.Slices
import Derived.Deep.Strs
import Derived.Deep.OwnRows
import Derived.Deep.WholeRow
import Derived.Deep.Heap
import Derived.Deep.AppendSrc
import Derived.Laws.AppendOwnNone
import Derived.Test.YtbbfjjjnifomgaaGreatDoorK1
import Derived.Test.YtbbfjjjnifomgaaGreatDoorK2
import Derived.Test.YtbbfjjjnifomgaaGreatDoorK3
import Derived.Test.YtbbfjjjnifomgaaGreatDoorK8
import Derived.Test.YtbbfjjjnifomgaaGreatDoorK9
import Derived.Test.YtbbfjjjnifomgaaGreatDoorK7
import Derived.Test.YtbbfjjjnifomgaaGreatDoorK4
namespace Go.Proofs.YtbbfjjjnifomgaaGreatDoor.A

/-- A state's set and where it leads are what a step says, or as they were. -/
def Sets (P : Nat → Nat → Nat → Prop) (m m' : Mc) : Prop := ∀ i, (∃ s j, P i s j ∧ m'.st i = s ∧ m'.to i = (j : Int)) ∨ ((¬ ∃ s j, P i s j) ∧ m'.st i = m.st i ∧ m'.to i = m.to i)
theorem layR_sets {n : Nat} {lay1 : Ex n → Nat → Mc → Mc} {R : Ex n → Nat → Nat → Nat → Nat → Prop} (kind b e : Nat) : ∀ (l : List (Ex n)) (m : Mc) (s last : Nat), (∀ x ∈ l, (∀ b m, Sets (R x b) m (lay1 x b m)) ∧ 1 ≤ realN n x) →
    Sets (fun i u j => ∃ p ∈ layE s l, R p.2 p.1 i u j) m (l.foldl (layR lay1 kind b e) (m, s, last)).1
  | [], m, s, last, _ => fun i => .inr ⟨(by rintro ⟨_, _, p, hp, _⟩; cases hp), rfl, rfl⟩
  | x :: l, m, s, last, h => by
    obtain ⟨hx, h1⟩ := h x (by simp)
    have es : s + 2 * realN n x - 1 + 1 = s + 2 * realN n x := by omega
    rw [List.foldl_cons]
    obtain ⟨m1, last1, er, e1, e2⟩ : ∃ m1 last1, layR lay1 kind b e (m, s, last) x = (m1, s + 2 * realN n x - 1 + 1, last1) ∧ m1.st = (lay1 x s m).st ∧ m1.to = (lay1 x s m).to := by
      unfold layR
      split
      · exact ⟨_, _, rfl, rfl, rfl⟩
      · split
        · exact ⟨_, _, rfl, rfl, rfl⟩
        · exact ⟨_, _, rfl, rfl, rfl⟩
    rw [er, es]
    have ih := layR_sets kind b e l m1 (s + 2 * realN n x) last1 (fun y hy => h y (by simp [hy]))
    intro i
    rcases ih i with ⟨u, j, ⟨p, hp, hr⟩, q1, q2⟩ | ⟨hn, q1, q2⟩
    · exact .inl ⟨u, j, ⟨p, by show p ∈ (s, x) :: _; simp [hp], hr⟩, q1, q2⟩
    · rw [q1, q2, e1, e2]
      rcases hx s m i with ⟨u, j, hr, q3, q4⟩ | ⟨hn', q3, q4⟩
      · exact .inl ⟨u, j, ⟨(s, x), by show (s, x) ∈ (s, x) :: _; simp, hr⟩, q3, q4⟩
      · refine .inr ⟨?_, q3, q4⟩
        rintro ⟨u, j, p, hp, hr⟩
        rcases List.mem_cons.1 (show p ∈ (s, x) :: layE (s + 2 * realN n x) l from hp) with rfl | hp
        · exact hn' ⟨u, j, hr⟩
        · exact hn ⟨u, j, p, hp, hr⟩
theorem lay_sets : ∀ (n : Nat) (t : Ex n), full n t → shapesE n t = true → ∀ (b : Nat) (m : Mc), Sets (Sp n t b) m (layM n t b m)
  | 0, _, h, _ => h.elim
  | n + 1, t, hf, hs => by
    obtain ⟨hok, hsh⟩ := shapes_open hs
    have hx : ∀ x ∈ ks t, (∀ b m, Sets (Sp n x b) m (layM n x b m)) ∧ 1 ≤ realN n x := fun x hx => ⟨lay_sets n x (hf x hx) (hsh x hx), real_pos (hf x hx)⟩
    intro b m
    by_cases k1 : kd t = 1
    · have hl : ks t = [] := List.eq_nil_of_length_eq_zero (ok_none hok (.inr k1))
      rw [layM_one k1]
      intro i
      by_cases e : i = b
      · exact .inl ⟨A.st t, b + 2 * realN (n + 1) t - 1, .inl ⟨k1, e, rfl, rfl⟩, by show (if i = b then _ else _) = _; rw [if_pos e], by show (if i = b then _ else _) = _; rw [if_pos e]⟩
      · refine .inr ⟨?_, by show (if i = b then _ else _) = _; rw [if_neg e], by show (if i = b then _ else _) = _; rw [if_neg e]⟩
        rintro ⟨u, j, ⟨_, h, _⟩ | ⟨p, hp, _⟩⟩
        · exact e h
        · rw [hl] at hp; cases hp
    · have go : ∀ m m' : Mc, Sets (fun i u j => ∃ p ∈ layE (b + 1) (ks t), Sp n p.2 p.1 i u j) m m' → Sets (Sp (n + 1) t b) m m' := fun m m' h i => by
        rcases h i with ⟨u, j, hr, q1, q2⟩ | ⟨hn, q1, q2⟩
        · exact .inl ⟨u, j, .inr hr, q1, q2⟩
        · refine .inr ⟨?_, q1, q2⟩
          rintro ⟨u, j, ⟨h, _⟩ | h⟩
          · exact k1 h
          · exact hn ⟨u, j, h⟩
      by_cases k2 : kd t = 2
      · rw [layM_two k2]
        exact go m _ (layR_sets 2 b _ (ks t) m (b + 1) b hx)
      by_cases k3 : kd t = 3
      · rw [layM_three k3]
        exact go m _ (layR_sets 3 b _ (ks t) m (b + 1) b hx)
      rw [layM_else k1 k2 k3]
      exact go m _ (layR_sets (kd t) b _ (ks t) (addF m b (b + 2 * realN (n + 1) t - 1)) (b + 1) b hx)
/-- A state has one step by a set. -/
theorem sp_one : ∀ (n : Nat) (t : Ex n) (b i s j s' j' : Nat), full n t → shapesE n t = true → Sp n t b i s j → Sp n t b i s' j' → s = s' ∧ j = j'
  | 0, _, _, _, _, _, _, _, h, _, _, _ => h.elim
  | n + 1, t, b, i, s, j, s', j', hf, hs, h, h' => by
    obtain ⟨hok, hsh⟩ := shapes_open hs
    rcases h with ⟨k, _, e1, e2⟩ | ⟨p, hp, h⟩
    · have hl : ks t = [] := List.eq_nil_of_length_eq_zero (ok_none hok (.inr k))
      rcases h' with ⟨_, _, e3, e4⟩ | ⟨p, hp, _⟩
      · exact ⟨e1.trans e3.symm, e2.trans e4.symm⟩
      · rw [hl] at hp; cases hp
    · rcases h' with ⟨k, _, _, _⟩ | ⟨p', hp', h'⟩
      · have hl : ks t = [] := List.eq_nil_of_length_eq_zero (ok_none hok (.inr k))
        rw [hl] at hp; cases hp
      · have a := lay_in hf hp
        have a' := lay_in hf hp'
        have r := sp_rng n p.2 p.1 i s j a.2.2.2.1 h
        have r' := sp_rng n p'.2 p'.1 i s' j' a'.2.2.2.1 h'
        obtain rfl := lay_uniq (ks t) _ i p p' hf hp hp' r.1 (by unfold en; omega) r'.1 (by unfold en; omega)
        exact sp_one n p.2 p.1 i s j s' j' a.2.2.2.1 (hsh _ a.2.2.2.2.1) h h'

/-- What the document's Build does with a list of expressions. -/
def layA {n : Nat} : List (Ex n) → Nat → Mc → Mc
  | [], _, m => m
  | x :: l, b, m => layA l (b + 2 * realN n x) (addF (layM n x b m) 0 b)
theorem layA_fr {n : Nat} : ∀ (l : List (Ex n)) (b : Nat) (m : Mc) (i : Nat) (z : Int), (∀ x ∈ l, full n x ∧ shapesE n x = true) → (z ∈ (layA l b m).fr i ↔ z ∈ m.fr i ∨ ∃ j : Nat, z = j ∧ ∃ p ∈ layE b l, (i = 0 ∧ j = p.1) ∨ Fr n p.2 p.1 i j)
  | [], b, m, i, z, _ => by
    show z ∈ m.fr i ↔ _
    constructor
    · exact .inl
    · rintro (h | ⟨_, _, p, hp, _⟩)
      · exact h
      · cases hp
  | x :: l, b, m, i, z, h => by
    obtain ⟨h1, h2⟩ := h x (by simp)
    show z ∈ (layA l (b + 2 * realN n x) (addF (layM n x b m) 0 b)).fr i ↔ z ∈ m.fr i ∨ ∃ j : Nat, z = j ∧ ∃ p ∈ (b, x) :: layE (b + 2 * realN n x) l, (i = 0 ∧ j = p.1) ∨ Fr n p.2 p.1 i j
    rw [layA_fr l _ _ i z (fun y hy => h y (by simp [hy])), mem_addF, lay_fr n x h1 h2 b m i z]
    constructor
    · rintro (((h | ⟨j, e1, e2⟩) | ⟨e1, e2⟩) | ⟨j, e1, p, hp, e2⟩)
      · exact .inl h
      · exact .inr ⟨j, e1, (b, x), by simp, .inr e2⟩
      · exact .inr ⟨b, e2, (b, x), by simp, .inl ⟨e1, rfl⟩⟩
      · exact .inr ⟨j, e1, p, by simp [hp], e2⟩
    · rintro (h | ⟨j, e1, p, hp, e2⟩)
      · exact .inl (.inl (.inl h))
      · rcases List.mem_cons.1 hp with rfl | hp
        · rcases e2 with ⟨e2, e3⟩ | e2
          · exact .inl (.inr ⟨e2, by rw [e1, e3]⟩)
          · exact .inl (.inl (.inr ⟨j, e1, e2⟩))
        · exact .inr ⟨j, e1, p, hp, e2⟩
theorem layA_rising {n : Nat} : ∀ (l : List (Ex n)) (b : Nat) (m : Mc), Rising m → Rising (layA l b m)
  | [], _, _, h => h
  | x :: l, b, m, h => layA_rising l _ _ (addF_rising (lay_rising n x b m h) 0 b)
theorem layA_sets {n : Nat} : ∀ (l : List (Ex n)) (b : Nat) (m : Mc), (∀ x ∈ l, full n x ∧ shapesE n x = true) → Sets (fun i u j => ∃ p ∈ layE b l, Sp n p.2 p.1 i u j) m (layA l b m)
  | [], b, m, _ => fun i => .inr ⟨(by rintro ⟨_, _, p, hp, _⟩; cases hp), rfl, rfl⟩
  | x :: l, b, m, h => by
    obtain ⟨h1, h2⟩ := h x (by simp)
    have ih := layA_sets l (b + 2 * realN n x) (addF (layM n x b m) 0 b) (fun y hy => h y (by simp [hy]))
    intro i
    rcases ih i with ⟨u, j, ⟨p, hp, hr⟩, q1, q2⟩ | ⟨hn, q1, q2⟩
    · exact .inl ⟨u, j, ⟨p, by show p ∈ (b, x) :: _; simp [hp], hr⟩, q1, q2⟩
    · show (∃ u j, _ ∧ (layA l (b + 2 * realN n x) (addF (layM n x b m) 0 b)).st i = _ ∧ _) ∨ (_ ∧ (layA l (b + 2 * realN n x) (addF (layM n x b m) 0 b)).st i = _ ∧ _)
      rcases lay_sets n x h1 h2 b m i with ⟨u, j, hr, q3, q4⟩ | ⟨hn', q3, q4⟩
      · exact .inl ⟨u, j, ⟨(b, x), by show (b, x) ∈ (b, x) :: _; simp, hr⟩, q1.trans q3, q2.trans q4⟩
      · refine .inr ⟨?_, q1.trans q3, q2.trans q4⟩
        rintro ⟨u, j, p, hp, hr⟩
        rcases List.mem_cons.1 (show p ∈ (b, x) :: layE (b + 2 * realN n x) l from hp) with rfl | hp
        · exact hn' ⟨u, j, hr⟩
        · exact hn ⟨u, j, p, hp, hr⟩
/-- The empty machine. -/
def mc0 : Mc := ⟨fun _ => [], fun _ => 0, fun _ => 0⟩
/-- The free steps of the machine of expressions, as lists. -/
theorem build_fr {n : Nat} {ts : List (Ex n)} (h : ∀ x ∈ ts, full n x ∧ shapesE n x = true) (i : Nat) (z : Int) : z ∈ (layA ts 1 mc0).fr i ↔ ∃ j : Nat, z = j ∧ FrA ts i j := by
  rw [layA_fr ts 1 mc0 i z h]
  constructor
  · rintro (h | h)
    · cases h
    · exact h
  · exact .inr

end Go.Proofs.YtbbfjjjnifomgaaGreatDoor.A



/- Ahead of layer 6: what is come to by the document's Close and Step, letter by letter, is what ways lead to. -/
namespace Go.Proofs.YtbbfjjjnifomgaaGreatDoor.A

/-- A machine's free steps, and those by a set, as they lie in its lists. -/
def Ff (fs : List (List Int)) (i j : Nat) : Prop := ∃ l, fs[i]? = some l ∧ (j : Int) ∈ l
def Sf (ss : List Nat) (ts : List Int) (i s j : Nat) : Prop := ss[i]? = some s ∧ ts[i]? = some (j : Int)
theorem stpB_iff (ss : List Nat) (ts : List Int) (c : Int) (o : Nat → Bool) (N j : Nat) : stpB ss ts c o N j = true ↔ ∃ i s, i < N ∧ o i = true ∧ Sf ss ts i s j ∧ inS s c = true := by
  unfold stpB
  rw [List.any_eq_true]
  constructor
  · rintro ⟨i, hi, h⟩
    rw [Bool.and_eq_true] at h
    obtain ⟨h1, h2⟩ := h
    split at h2
    · rename_i s t hs ht
      rw [Bool.and_eq_true, beq_iff_eq] at h2
      exact ⟨i, s, by simpa using hi, h1, ⟨hs, by rw [ht, h2.2]⟩, h2.1⟩
    · cases h2
  · rintro ⟨i, s, hi, ho, ⟨hs, ht⟩, hc⟩
    refine ⟨i, by simpa using hi, ?_⟩
    rw [hs, ht]
    simp [ho, hc]
/-- What is come to behind so many letters. -/
def IsRun (fs : List (List Int)) (ss : List Nat) (ts : List Int) (N : Nat) (word : List Int) : Nat → (Nat → Bool) → Prop
  | 0, g => IsCl fs N (fun j => decide (j = 0)) g
  | k + 1, g => ∃ h, IsRun fs ss ts N word k h ∧ IsCl fs N (stpB ss ts (word.getD k 0) h N) g
theorem rch_wy {fs : List (List Int)} {S : Nat → Nat → Nat → Prop} {N k : Nat} {o : Nat → Bool} {word : List Int} (h0 : ∀ j, j < N → o j = true → Wy word (Ff fs) S 0 0 j k) {q : Nat} (h : Rch fs N o q) : Wy word (Ff fs) S 0 0 q k := by
  induction h with
  | here hn h => exact h0 _ hn h
  | on _ hl hj ih => exact ih.free ⟨_, hl, hj⟩
theorem run_cl {fs : List (List Int)} {ss : List Nat} {ts : List Int} {N : Nat} {word : List Int} : ∀ (k : Nat) (g : Nat → Bool), IsRun fs ss ts N word k g → ∃ o, IsCl fs N o g
  | 0, _, h => ⟨_, h⟩
  | _ + 1, _, ⟨_, _, h⟩ => ⟨_, h⟩
theorem run_wy {fs : List (List Int)} {ss : List Nat} {ts : List Int} {N : Nat} {word : List Int} (hN : 0 < N) (hs : ss.length = N) (hokF : ∀ (i : Nat) (l : List Int), fs[i]? = some l → ∀ z ∈ l, 0 ≤ z ∧ z < (N : Int)) (hok : ∀ (i s : Nat) (t : Int), ss[i]? = some s → ts[i]? = some t → 0 < s → 0 ≤ t ∧ t < N) (k : Nat) (hk : k ≤ word.length) (g : Nat → Bool) (hg : IsRun fs ss ts N word k g) (q : Nat) (hq : q < N) :
    g q = true ↔ Wy word (Ff fs) (Sf ss ts) 0 0 q k := by
  constructor
  · have go : ∀ k, k ≤ word.length → ∀ g, IsRun fs ss ts N word k g → ∀ q, q < N → g q = true → Wy word (Ff fs) (Sf ss ts) 0 0 q k := by
      intro k
      induction k with
      | zero =>
        intro _ g hg q hq h
        refine rch_wy (fun j _ hj => ?_) ((hg q hq).1 h)
        have : j = 0 := by simpa using hj
        subst this
        exact .here
      | succ k ih =>
        intro hk g hg q hq h
        obtain ⟨f, hf, hg⟩ := hg
        refine rch_wy (fun j _ hj => ?_) ((hg q hq).1 h)
        obtain ⟨i, s, hi, ho, hS, hc⟩ := (stpB_iff _ _ _ _ _ _).1 hj
        refine (ih (by omega) f hf i hi ho).step hS (c := word.getD k 0) ?_ hc
        rw [List.getD_eq_getElem?_getD, List.getElem?_eq_getElem (by omega)]; rfl
    exact go k hk g hg q hq
  · intro h
    have go : ∀ q k, Wy word (Ff fs) (Sf ss ts) 0 0 q k → q < N ∧ ∀ g, IsRun fs ss ts N word k g → g q = true := by
      intro q k h
      induction h with
      | here => exact ⟨hN, fun g hg => (hg 0 hN).2 (.here hN (by simp))⟩
      | @free q i q' _ f ih =>
        obtain ⟨l, hl, hj⟩ := f
        have hq' : q' < N := by have := hokF _ _ hl _ hj; omega
        refine ⟨hq', fun g hg => ?_⟩
        obtain ⟨o, ho⟩ := run_cl i g hg
        exact (ho q' hq').2 (.on ((ho q ih.1).1 (ih.2 g hg)) hl hj)
      | @step q i s q' c _ hS hc hin ih =>
        have hpos : 0 < s := by
          rcases Nat.eq_zero_or_pos s with e | e
          · subst e; simp [inS] at hin
          · exact e
        have hr := hok q s q' hS.1 hS.2 hpos
        have ec : word.getD i 0 = c := by rw [List.getD_eq_getElem?_getD, hc]; rfl
        refine ⟨by omega, fun g hg => ?_⟩
        obtain ⟨f, hf, hg⟩ := hg
        exact (hg q' (by omega)).2 (.here (by omega) ((stpB_iff _ _ _ _ _ _).2 ⟨q, s, ih.1, ih.2 f hf, hS, by rw [ec]; exact hin⟩))
    exact (go q k h).2 g hg

end Go.Proofs.YtbbfjjjnifomgaaGreatDoor.A



/- The program's isState, and what asks whether a list has a number that is no state. -/
namespace Go.Proofs.YtbbfjjjnifomgaaGreatDoor.A
open Go.RowKit

/-- A number that is a state, of so many. -/
def isSt (n : Nat) (z : Int) : Bool := decide (0 ≤ z) && decide (z < (n : Int))
/-- A machine's four lists in a block. -/
def Bx (w : World) (p : Nat) (x0 x1 x2 x3 : Value) : Prop := w.cell? ⟨p, 0, none⟩ = some x0 ∧ w.cell? ⟨p, 1, none⟩ = some x1 ∧ w.cell? ⟨p, 2, none⟩ = some x2 ∧ w.cell? ⟨p, 3, none⟩ = some x3
theorem bx_below {w w' : World} {B p : Nat} {x0 x1 x2 x3 : Value} (hb : Below B w w') (hp : p < B) (h : Bx w p x0 x1 x2 x3) : Bx w' p x0 x1 x2 x3 :=
  ⟨(hb.cell (p := ⟨p, 0, none⟩) hp).trans h.1, (hb.cell (p := ⟨p, 1, none⟩) hp).trans h.2.1, (hb.cell (p := ⟨p, 2, none⟩) hp).trans h.2.2.1, (hb.cell (p := ⟨p, 3, none⟩) hp).trans h.2.2.2⟩
theorem bx_new (w : World) (x0 x1 x2 x3 : Value) : Bx (w.alloc (.cells #[x0, x1, x2, x3] 97)) w.heap.size x0 x1 x2 x3 := box4 w x0 x1 x2 x3 97

set_option maxHeartbeats 800000 in
theorem isState_any (a0 : Option Addr) (n0 c0 : Nat) (x1 x2 x3 : Value) (z : Int) (w : World) :
    Calls Tryz.prog 150 #[.agg #[.slice a0 n0 c0, x1, x2, x3], .int .i64 z] w fun e w' => e = .returned (.bool (isSt n0 z)) ∧ Below w.heap.size w w' := by
  obtain ⟨p0, p1, p2, p3⟩ := bx_new w (.slice a0 n0 c0) x1 x2 x3
  have HB := hide ((Below.refl w.heap.size w).alloc (Nat.le_refl _) (.cells #[.slice a0 n0 c0, x1, x2, x3] 97))
  by_cases z0 : 0 ≤ z
  · have h0 : decide (0 ≤ z) = true := by simp [z0]
    by_cases z1 : z < (n0 : Int)
    · have h1 : decide (z < (n0 : Int)) = true := by simp [z1]
      have HE := hide (show isSt n0 z = true by unfold isSt; rw [h0, h1]; rfl)
      go_enter Tryz.func150, Tryz.ntmps150
      go_wp2
      go_ret
      exact ⟨by rw [HE.out]; rfl, HB.out⟩
    · have h1 : decide (z < (n0 : Int)) = false := by simp [z1]
      have HE := hide (show isSt n0 z = false by unfold isSt; rw [h0, h1]; rfl)
      go_enter Tryz.func150, Tryz.ntmps150
      go_wp2
      go_ret
      exact ⟨by rw [HE.out]; rfl, HB.out⟩
  · have h0 : decide (0 ≤ z) = false := by simp [z0]
    have HE := hide (show isSt n0 z = false by unfold isSt; rw [h0]; rfl)
    go_enter Tryz.func150, Tryz.ntmps150
    go_wp2
    go_ret
    exact ⟨by rw [HE.out]; rfl, HB.out⟩

set_option maxHeartbeats 800000 in
theorem none_any (p : Nat) (a0 : Option Addr) (n0 c0 : Nat) (x1 x2 x3 : Value) (z : Int) (w : World) (hp : Bx w p (.slice a0 n0 c0) x1 x2 x3) :
    Calls Tryz.prog 149 #[.int .i64 z, .pointer (some ⟨p, 0, none⟩)] w fun e w' => e = .returned (.bool (!isSt n0 z)) ∧ Below w.heap.size w w' := by
  obtain ⟨p0, p1, p2, p3⟩ := hp
  go_enter Tryz.func149, Tryz.ntmps149
  go_wp2_with fail
  refine (isState_any a0 n0 c0 x1 x2 x3 z w).mono ?_
  rintro e w1 ⟨rfl, hb⟩
  have HB := hide hb
  clear hb
  go_wp2
  go_ret
  exact ⟨rfl, HB.out⟩

set_option maxHeartbeats 1600000 in
theorem indexI_any (p : Nat) (a0 : Option Addr) (n0 c0 : Nat) (x1 x2 x3 : Value) (a : Option Addr) (len cap : Nat) (l : List Int) (w : World) (hl : len ≤ maxLen) (h6 : l.length = len) (hpl : p < w.heap.size) (hp : Bx w p (.slice a0 n0 c0) x1 x2 x3) (hW : Wd w a l) :
    Calls Tryz.prog 169 #[.slice a len cap, .func (.func 149) #[] #[.pointer (some ⟨p, 0, none⟩)]] w fun e w' => ∃ z : Int, e = .returned (.int .i64 z) ∧ decide (0 ≤ z) = l.any (fun z => !isSt n0 z) ∧ Below w.heap.size w w' := by
  unfold maxLen at hl
  have HW := hide hW
  have HL := hide h6
  have HP := hide hp
  clear hW h6 hp
  go_enter Tryz.func169, Tryz.ntmps169
  go_wp2_with fail
  go_loopw [5, 8] (fun _ u wr => ∃ i : Nat, i ≤ len ∧ u = .int .i64 i ∧ (l.take i).any (fun z => !isSt n0 z) = false ∧ Below w.heap.size w wr) (fun _ u _ => len - (intOf u).toNat)
  case atStart => exact ⟨0, Nat.zero_le _, rfl, rfl, Below.refl _ _⟩
  case round =>
    obtain ⟨i, hi, rfl, hd, hb⟩ := hrel
    have HD := hide hd
    have HBW := hide hb
    clear hd
    by_cases hlt : i < len
    · obtain ⟨z, hz⟩ : ∃ z, l[i]? = some z := ⟨_, List.getElem?_eq_getElem (by rw [HL.out]; exact hlt)⟩
      obtain ⟨b, off, rfl, k0⟩ := wd_below hb HW.out i z hz
      have HN := hide (show (l.take (i + 1)).any (fun z => !isSt n0 z) = !isSt n0 z from by rw [take_at hz, List.any_append, HD.out]; simp)
      have HIN := hide (show (!isSt n0 z) = true → l.any (fun z => !isSt n0 z) = true from fun g => List.any_eq_true.2 ⟨z, List.mem_of_getElem? hz, g⟩)
      have i3 : (0 : Int) ≤ (i : Int) := by omega
      have i4 : (i : Int) < (len : Int) := by omega
      clear hz hb
      go_wp2_with fail
      refine (none_any p a0 n0 c0 x1 x2 x3 z wr (bx_below HBW.out hpl HP.out)).mono ?_
      rintro e w2 ⟨rfl, hb2⟩
      have HB2 := hide (HBW.out.trans (hb2.mono HBW.out.size))
      clear hb2
      cases hf : (!isSt n0 z)
      · have HF := hide hf
        clear hf
        go_wp2
        go_roundw
        case rel => exact ⟨i + 1, by omega, by go_num, by rw [HN.out, HF.out], HB2.out⟩
        case measure => simp [intOf]; omega
      · have HF := hide hf
        clear hf
        go_wp2
        go_ret
        exact ⟨(i : Int), rfl, by rw [HIN.out HF.out]; simp, HB2.out⟩
    · have e : i = len := by omega
      subst e
      have HT := hide (show l.take i = l from List.take_of_length_le (by have := HL.out; omega))
      clear hb
      go_wp2
      go_ret
      exact ⟨-1, rfl, by rw [← HT.out, HD.out]; rfl, HBW.out⟩

set_option maxHeartbeats 800000 in
theorem containsI_any (p : Nat) (a0 : Option Addr) (n0 c0 : Nat) (x1 x2 x3 : Value) (a : Option Addr) (len cap : Nat) (l : List Int) (w : World) (hl : len ≤ maxLen) (h6 : l.length = len) (hpl : p < w.heap.size) (hp : Bx w p (.slice a0 n0 c0) x1 x2 x3) (hW : Wd w a l) :
    Calls Tryz.prog 151 #[.slice a len cap, .func (.func 149) #[] #[.pointer (some ⟨p, 0, none⟩)]] w fun e w' => e = .returned (.bool (l.any (fun z => !isSt n0 z))) ∧ Below w.heap.size w w' := by
  have HC := hide (indexI_any p a0 n0 c0 x1 x2 x3 a len cap l w hl h6 hpl hp hW)
  clear hW h6 hp
  go_enter Tryz.func151, Tryz.ntmps151
  go_wp2_with fail
  refine HC.out.mono ?_
  rintro e w2 ⟨z, rfl, hz, hb2⟩
  have HB := hide hb2
  clear hb2 HC
  cases hg : l.any (fun z => !isSt n0 z)
  · have hz' : decide (0 ≤ z) = false := hz.trans hg
    have HG := hide hg
    clear hg hz
    go_wp2
    go_ret
    exact ⟨by rw [HG.out]; rfl, HB.out⟩
  · have hz' : decide (0 ≤ z) = true := hz.trans hg
    have HG := hide hg
    clear hg hz
    go_wp2
    go_ret
    exact ⟨by rw [HG.out]; rfl, HB.out⟩

end Go.Proofs.YtbbfjjjnifomgaaGreatDoor.A



/- The program's Right of a machine. -/
namespace Go.Proofs.YtbbfjjjnifomgaaGreatDoor.A
open Go.RowKit

theorem any_not_all (n : Nat) (l : List Int) : l.any (fun z => !isSt n z) = !(l.all fun z => decide (0 ≤ z) && decide (z < (n : Int))) := by
  induction l with
  | nil => rfl
  | cons a r ih => rw [List.any_cons, List.all_cons, ih, Bool.not_and]; rfl
theorem okS_free {N : Nat} {r : Int} {s : Nat} {t : Int} {l : List Int} (h : l.any (fun z => !isSt N z) = true) : okS N r s t l = false := by
  rw [any_not_all] at h
  unfold okS
  rw [show (l.all fun z => decide (0 ≤ z) && decide (z < (N : Int))) = false by simpa using h]
  simp
theorem okS_to {N : Nat} {r : Int} {s : Nat} {t : Int} {l : List Int} (h : isSt N t = false) (hs : s ≠ 0) : okS N r s t l = false := by
  unfold okS
  unfold isSt at h
  rw [h, show (s == 0) = false by simpa using hs]
  simp
theorem okS_low {N : Nat} {r : Int} {s : Nat} {t : Int} {l : List Int} (h : r < -1) : okS N r s t l = false := by
  unfold okS
  rw [show decide (-1 ≤ r) = false by simp; omega]
  rfl
theorem okS_high {N : Nat} {r : Int} {s : Nat} {t : Int} {l : List Int} (h : 16 ≤ r) : okS N r s t l = false := by
  unfold okS
  rw [show decide (r ≤ 15) = false by simp; omega]
  simp
theorem okS_yes {N : Nat} {r : Int} {s : Nat} {t : Int} {l : List Int} (h1 : l.any (fun z => !isSt N z) = false) (h2 : s = 0 ∨ isSt N t = true) (h3 : ¬ r < -1) (h4 : ¬ 16 ≤ r) : okS N r s t l = true := by
  rw [any_not_all] at h1
  unfold okS
  unfold isSt at h2
  rw [show (l.all fun z => decide (0 ≤ z) && decide (z < (N : Int))) = true by simpa using h1, show decide (-1 ≤ r) = true by simp; omega, show decide (r ≤ 15) = true by simp; omega]
  rcases h2 with rfl | h2
  · simp
  · rw [h2]; simp

set_option maxRecDepth 100000 in
set_option maxHeartbeats 6400000 in
theorem pright_any (a0 a1 a2 a3 : Option Addr) (n0 n1 n2 n3 c0 c1 c2 c3 : Nat) (fs : List (List Int)) (ss : List Nat) (ts rs : List Int) (w : World) (h0 : fs.length = n0) (h1 : ss.length = n1) (h2 : ts.length = n2) (h3 : rs.length = n3)
    (hll : ∀ (i : Nat) (l : List Int), fs[i]? = some l → l.length ≤ maxLen) (hF : Fs w a0 fs) (hS : Sts w a1 ss) (hT : Wd w a2 ts) (hR : Wd w a3 rs) :
    Calls Tryz.prog 126 #[.agg #[.slice a0 n0 c0, .slice a1 n1 c1, .slice a2 n2 c2, .slice a3 n3 c3]] w fun e w' => e = .returned (.bool (rightN fs ss ts rs)) ∧ Below w.heap.size w w' := by
  have hmf : ∀ (fn : Fn) (first cap : Array Value) (w : World), (Instr.makeFunc fn first cap).run Tryz.prog w = .ok (.func fn first cap) w := fun _ _ _ _ => rfl
  have HF := hide hF
  have HS := hide hS
  have HT := hide hT
  have HR := hide hR
  have H0 := hide h0
  have H1 := hide h1
  have H2 := hide h2
  have H3 := hide h3
  have HLL := hide hll
  clear hF hS hT hR h0 h1 h2 h3 hll
  have HBX := hide (bx_new w (.slice a0 n0 c0) (.slice a1 n1 c1) (.slice a2 n2 c2) (.slice a3 n3 c3))
  obtain ⟨p0, p1, p2, p3⟩ := HBX.out
  have hb0 := ((Below.refl w.heap.size w).alloc (Nat.le_refl _) (.cells #[.slice a0 n0 c0, .slice a1 n1 c1, .slice a2 n2 c2, .slice a3 n3 c3] 97))
  by_cases g0 : n0 < 1
  · have HE := hide (show rightN fs ss ts rs = false by unfold rightN; rw [H0.out]; have : decide (1 ≤ n0) = false := by simp; omega
                                                        rw [this]; rfl)
    go_enter Tryz.func126, Tryz.ntmps126
    go_wp2
    go_ret
    exact ⟨by rw [HE.out]; rfl, hb0⟩
  by_cases g1 : 3300 < n0
  · have HE := hide (show rightN fs ss ts rs = false by unfold rightN; rw [H0.out]; have : decide (n0 ≤ 3300) = false := by simp; omega
                                                        rw [this]; simp)
    go_enter Tryz.func126, Tryz.ntmps126
    go_wp2
    go_ret
    exact ⟨by rw [HE.out]; rfl, hb0⟩
  by_cases g2 : n1 = n0
  case neg =>
    have HE := hide (show rightN fs ss ts rs = false by unfold rightN; rw [H0.out, H1.out]; have : decide (n1 = n0) = false := by simp [g2]
                                                        rw [this]; simp)
    have y : ((n1 : Int) != (n0 : Int)) = true := by simp; omega
    go_enter Tryz.func126, Tryz.ntmps126
    go_wp2
    go_ret
    exact ⟨by rw [HE.out]; rfl, hb0⟩
  subst g2
  by_cases g3 : n2 = n1
  case neg =>
    have HE := hide (show rightN fs ss ts rs = false by unfold rightN; rw [H0.out, H2.out]; have : decide (n2 = n1) = false := by simp [g3]
                                                        rw [this]; simp)
    have y : ((n2 : Int) != (n1 : Int)) = true := by simp; omega
    go_enter Tryz.func126, Tryz.ntmps126
    go_wp2
    go_ret
    exact ⟨by rw [HE.out]; rfl, hb0⟩
  subst g3
  by_cases g4 : n3 = n2
  case neg =>
    have HE := hide (show rightN fs ss ts rs = false by unfold rightN; rw [H0.out, H3.out]; have : decide (n3 = n2) = false := by simp [g4]
                                                        rw [this]; simp)
    have y : ((n3 : Int) != (n2 : Int)) = true := by simp; omega
    go_enter Tryz.func126, Tryz.ntmps126
    go_wp2
    go_ret
    exact ⟨by rw [HE.out]; rfl, hb0⟩
  subst g4
  have HF0 := hide (fs_below hb0 HF.out)
  have HS0 := hide (sts_below hb0 HS.out)
  have HT0 := hide (wd_below hb0 HT.out)
  have HR0 := hide (wd_below hb0 HR.out)
  have HB := hide hb0
  have HZ := hide (show (w.alloc (.cells #[.slice a0 n3 c0, .slice a1 n3 c1, .slice a2 n3 c2, .slice a3 n3 c3] 97)).heap.size = w.heap.size + 1 by simp)
  clear hb0 HF HS HT HR
  go_enter Tryz.func126, Tryz.ntmps126
  go_wp2_with fail
  clear p0 p1 p2 p3
  generalize w.alloc (.cells #[.slice a0 n3 c0, .slice a1 n3 c1, .slice a2 n3 c2, .slice a3 n3 c3] 97) = W0 at *
  generalize hB : w.heap.size = B at *
  generalize decide ((n3 : Int) < 1) = dd1
  generalize decide (3300 < (n3 : Int)) = dd2
  go_loopw [5, 38] (fun _ i wr => ∃ k : Nat, k ≤ n3 ∧ i = .int .i64 k ∧ (∀ j, j < k → okSt fs ss ts rs n3 j = true) ∧ Below W0.heap.size W0 wr) (fun _ i _ => n3 - (intOf i).toNat)
  case atStart => exact ⟨0, Nat.zero_le _, rfl, fun j hj => by omega, Below.refl _ _⟩
  case round =>
    obtain ⟨k, hk, rfl, hall, hb⟩ := hrel
    have HA := hide hall
    have HBW := hide hb
    have HBB := hide (HB.out.trans (hb.mono (by rw [← hB]; exact HB.out.size)))
    have HPB := hide (show B < W0.heap.size by rw [HZ.out]; omega)
    clear hall
    by_cases hlt : k < n3
    · obtain ⟨r, hcr⟩ : ∃ r, rs[k]? = some r := ⟨_, List.getElem?_eq_getElem (by rw [H3.out]; exact hlt)⟩
      obtain ⟨s, hcs⟩ : ∃ s, ss[k]? = some s := ⟨_, List.getElem?_eq_getElem (by rw [H1.out]; exact hlt)⟩
      obtain ⟨t, hct⟩ : ∃ t, ts[k]? = some t := ⟨_, List.getElem?_eq_getElem (by rw [H2.out]; exact hlt)⟩
      obtain ⟨l, hcl⟩ : ∃ l, fs[k]? = some l := ⟨_, List.getElem?_eq_getElem (by rw [H0.out]; exact hlt)⟩
      obtain ⟨rb, ro, rfl, _⟩ := HR0.out k r hcr
      obtain ⟨sb, so, rfl, _, hs16⟩ := HS0.out k s hcs
      obtain ⟨tb, to, rfl, _⟩ := HT0.out k t hct
      obtain ⟨fb, fo, fa, fc, rfl, kf, hwd⟩ := (fs_below hb HF0.out) k l hcl
      have HK := hide (okSt_at (N := n3) hcr hcs hct hcl)
      have HLM := hide (HLL.out k l hcl)
      have HW := hide hwd
      have HCR := hide hcr
      have HCS := hide hcs
      have HCT := hide hct
      have i1 : (0 : Int) ≤ (k : Int) := by omega
      have i2 : (k : Int) < (n3 : Int) := by omega
      have HBAD := hide (show okS n3 r s t l = false → rightN fs ss ts rs = false from fun e => right_not (i := k) (by rw [H0.out]; exact hlt) (by rw [H0.out, HK.out, e]))
      have HNXT := hide (show okS n3 r s t l = true → ∀ j, j < k + 1 → okSt fs ss ts rs n3 j = true from fun e j hj => by
        by_cases ej : j = k
        · subst ej; rw [HK.out, e]
        · exact HA.out j (by omega))
      clear hcr hcs hct hcl hwd
      have HX := hide (bx_below hb HPB.out HBX.out)
      obtain ⟨q0, q1, q2, q3⟩ := HX.out
      clear hb
      go_wp2_with fail
      refine (containsI_any B _ n3 c0 _ _ _ fa l.length fc l wr HLM.out rfl (by have := HBW.out.size; have := HPB.out; omega) HX.out HW.out).mono ?_
      rintro e w2 ⟨rfl, hb2⟩
      have HW2 := hide (HBW.out.trans (hb2.mono HBW.out.size))
      have HB2 := hide (HB.out.trans (HW2.out.mono (by rw [← hB]; exact HB.out.size)))
      clear hb2 q0 q1 q2 q3 kf
      have HX2 := hide (bx_below HW2.out HPB.out HBX.out)
      obtain ⟨q0, q1, q2, q3⟩ := HX2.out
      obtain ⟨b', o', e', kr⟩ := (wd_below HW2.out HR0.out) k r HCR.out
      obtain ⟨rfl, rfl⟩ : b' = rb ∧ o' = ro := by simp only [Option.some.injEq, Addr.mk.injEq] at e'; exact ⟨e'.1.symm, e'.2.1.symm⟩
      obtain ⟨b2', o2', e2', kss, _⟩ := (sts_below HW2.out HS0.out) k s HCS.out
      obtain ⟨rfl, rfl⟩ : b2' = sb ∧ o2' = so := by simp only [Option.some.injEq, Addr.mk.injEq] at e2'; exact ⟨e2'.1.symm, e2'.2.1.symm⟩
      obtain ⟨b3', o3', e3', kt⟩ := (wd_below HW2.out HT0.out) k t HCT.out
      obtain ⟨rfl, rfl⟩ : b3' = tb ∧ o3' = to := by simp only [Option.some.injEq, Addr.mk.injEq] at e3'; exact ⟨e3'.1.symm, e3'.2.1.symm⟩
      clear e' e2' e3'
      cases hfr : l.any (fun z => !isSt n3 z)
      case true =>
        have HE := hide (HBAD.out (okS_free hfr))
        clear hfr
        go_wp2
        go_ret
        exact ⟨by rw [HE.out]; rfl, hB ▸ HB2.out⟩
      have HFR := hide hfr
      clear hfr
      by_cases s0 : s = 0
      · subst s0
        by_cases r0 : r < -1
        · have HE := hide (HBAD.out (okS_low r0))
          have y1 : decide (r < -1) = true := by simp [r0]
          go_wp2
          go_ret
          exact ⟨by rw [HE.out]; rfl, hB ▸ HB2.out⟩
        have y1 : decide (r < -1) = false := by simp; omega
        by_cases r1 : 16 ≤ r
        · have HE := hide (HBAD.out (okS_high r1))
          have y2 : decide (16 ≤ r) = true := by simp [r1]
          go_wp2
          go_ret
          exact ⟨by rw [HE.out]; rfl, hB ▸ HB2.out⟩
        have y2 : decide (16 ≤ r) = false := by simp; omega
        have HN := hide (HNXT.out (okS_yes HFR.out (.inl rfl) r0 r1))
        go_wp2
        go_roundw
        case rel => exact ⟨k + 1, by omega, by go_num, HN.out, HW2.out⟩
        case measure => simp [intOf]; omega
      · have ys : ((s : Int) != 0) = true := by simp; omega
        go_wp2_with fail
        refine (none_any B _ n3 c0 _ _ _ t w2 HX2.out).mono ?_
        rintro e w3 ⟨rfl, hb3⟩
        have HW3 := hide (HW2.out.trans (hb3.mono HW2.out.size))
        have HB3 := hide (HB.out.trans (HW3.out.mono (by rw [← hB]; exact HB.out.size)))
        have q3' := (HW3.out.cell (p := ⟨B, 3, none⟩) HPB.out).trans HBX.out.2.2.2
        obtain ⟨b4', o4', e4', kr'⟩ := (wd_below HW3.out HR0.out) k r HCR.out
        obtain ⟨rfl, rfl⟩ : b4' = b' ∧ o4' = o' := by simp only [Option.some.injEq, Addr.mk.injEq] at e4'; exact ⟨e4'.1.symm, e4'.2.1.symm⟩
        clear hb3 q0 q1 q2 q3 kr kss kt e4'
        cases hto : isSt n3 t
        case false =>
          have HE := hide (HBAD.out (okS_to hto s0))
          clear hto
          go_wp2
          go_ret
          exact ⟨by rw [HE.out]; rfl, hB ▸ HB3.out⟩
        have HTO := hide hto
        clear hto
        by_cases r0 : r < -1
        · have HE := hide (HBAD.out (okS_low r0))
          have y1 : decide (r < -1) = true := by simp [r0]
          go_wp2
          go_ret
          exact ⟨by rw [HE.out]; rfl, hB ▸ HB3.out⟩
        have y1 : decide (r < -1) = false := by simp; omega
        by_cases r1 : 16 ≤ r
        · have HE := hide (HBAD.out (okS_high r1))
          have y2 : decide (16 ≤ r) = true := by simp [r1]
          go_wp2
          go_ret
          exact ⟨by rw [HE.out]; rfl, hB ▸ HB3.out⟩
        have y2 : decide (16 ≤ r) = false := by simp; omega
        have HN := hide (HNXT.out (okS_yes HFR.out (.inr HTO.out) r0 r1))
        go_wp2
        go_roundw
        case rel => exact ⟨k + 1, by omega, by go_num, HN.out, HW3.out⟩
        case measure => simp [intOf]; omega
    · have e : k = n3 := by omega
      subst e
      have HE := hide (show rightN fs ss ts rs = true from right_yes (by rw [H0.out]; omega) (by rw [H0.out]; omega) (by rw [H0.out, H1.out]) (by rw [H0.out, H2.out]) (by rw [H0.out, H3.out]) (by rw [H0.out]; exact HA.out))
      clear hb
      go_wp2
      go_ret
      exact ⟨by rw [HE.out]; rfl, hB ▸ HBB.out⟩

end Go.Proofs.YtbbfjjjnifomgaaGreatDoor.A


