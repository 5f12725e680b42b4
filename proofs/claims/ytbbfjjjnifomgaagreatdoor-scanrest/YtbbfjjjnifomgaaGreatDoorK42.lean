/- Plain mathematics: words of a word's beginning; rules of any depth; the longest match of a machine that matches as the rules do. -/
import Derived.OpenShut
import Derived.Lib.LaidTab
import Derived.Below
import Derived.Outline
import Derived.Deep.Heap
import Derived.Deep.OwnRows
import Derived.Deep.QuietTactic
import Derived.Deep.Slices
import Derived.ProofKit
import Derived.WalkKit
import Derived.WalkSpells
import Derived.WalkLawsBesides
import Derived.Deep.WholeRow
import Derived.Deep.MidRow
import Derived.DeepKeys5
import Derived.Maps.OwnSet
import Derived.Maps.OwnOps
import Derived.Maps.AppendAt
import Derived.Maps.RangeWalk
import Derived.Deep.RegionLaw
import Derived.Deep.Cut
import Derived.Deep.CutRange
import Derived.Deep.RegionHeld3
import Derived.Deep.AppendLies
import Derived.BigQuiet
import Derived.Laws.AppendOwn
import Derived.Shelf.Small.Strs
import Derived.Shelf.Strconv.Itoa0
import Derived.Shelf.Strconv.Itoa1
import Derived.Shelf.LaysM
import Derived.Shelf.Strconv.Itoa2
import Derived.Shelf.Strconv.Clone
import Derived.Shelf.Strings.Search1
import Derived.Shelf.Strings.Search2
import Derived.Shelf.Strings.Search3
import Derived.Shelf.Strings.Count
import Derived.Shelf.Strings.Shaped
import Derived.Shelf.Strconv.AppendUint10
import Derived.Shelf.Strconv.AppendInt10
import Derived.Shelf.Strconv.AppendIntPublic10
import Derived.Shelf.Strings.Split
import Derived.Shelf.Strings.SplitShaped
import Derived.Shelf.Bits.Mul64
import Derived.Shelf.Unicode.DecodeSlow
import Derived.Ground.Names2Prog
import Derived.Shelf.Slices.Clone
import Derived.Ground.SlgnProg
import Derived.Shelf.SlicesE.Clone
import Derived.Deep.Strs
import Derived.Laws.OwnMore
import Derived.OwnWalk
import Derived.Deep.AppendSrc
import Derived.Laws.AppendOwnNone
import Derived.Laws.IdiomStrings
import Derived.Laws.BytesArg
import Derived.LaidMore
import Derived.HandedShaped
import Derived.Shelf.Vars
import Derived.MakeChecks
import Derived.Stop.LaidErr
import Derived.Defers
import Derived.Recover
import Derived.Lib.SplitLaws
import Derived.Maps.Keyed
import Derived.Laws.Tables
import Derived.Laws.Rows
import Derived.Laws.CopyOwn
import Derived.Deep.LoopGhost
import Derived.Test.YtbbfjjjnifomgaaGreatDoorK1
import Derived.Test.YtbbfjjjnifomgaaGreatDoorK3
import Derived.Test.YtbbfjjjnifomgaaGreatDoorK22
import Derived.Test.YtbbfjjjnifomgaaGreatDoorK41
import Derived.Test.YtbbfjjjnifomgaaGreatDoorK7
import Derived.Test.YtbbfjjjnifomgaaGreatDoorK20
import Derived.Test.YtbbfjjjnifomgaaGreatDoorK26
import Derived.Test.YtbbfjjjnifomgaaGreatDoorK28
import Derived.Test.YtbbfjjjnifomgaaGreatDoorK2
import Derived.Test.YtbbfjjjnifomgaaGreatDoorK16
import Derived.Test.YtbbfjjjnifomgaaGreatDoorK17
import Derived.Test.YtbbfjjjnifomgaaGreatDoorK24
import Derived.Test.YtbbfjjjnifomgaaGreatDoorK39
namespace Go.Proofs.YtbbfjjjnifomgaaGreatDoor.A
open Go.RowKit
set_option linter.unusedVariables false

theorem ch_part {α : Type} {L A B : Nat} (R R' : α → Nat → Nat → Prop) (hR : ∀ x, Up A (R x)) (hR' : ∀ x, Up B (R' x)) (h : ∀ x i j, j ≤ L → (R x i j ↔ R' x i j)) : ∀ (l : List α) (i j : Nat), j ≤ L → (Ch (l.map R) i j ↔ Ch (l.map R') i j)
  | [], i, j, _ => Iff.rfl
  | x :: r, i, j, hj => by
    have ih := fun k => ch_part R R' hR hR' h r k j hj
    constructor
    · rintro ⟨k, h1, h2⟩
      have a := hR x i k h1
      have b := ch_up (r.map R) (fun S hS => by obtain ⟨y, _, rfl⟩ := List.mem_map.1 hS; exact hR y) k j a.2 h2
      exact ⟨k, (h x i k (by omega)).1 h1, (ih k).1 h2⟩
    · rintro ⟨k, h1, h2⟩
      have a := hR' x i k h1
      have b := ch_up (r.map R') (fun S hS => by obtain ⟨y, _, rfl⟩ := List.mem_map.1 hS; exact hR' y) k j a.2 h2
      exact ⟨k, (h x i k (by omega)).2 h1, (ih k).2 h2⟩
theorem tm_part {L A B : Nat} {R R' : Nat → Nat → Prop} (hR : Up A R) (hR' : Up B R') (h : ∀ i j, j ≤ L → (R i j ↔ R' i j)) : ∀ (m i j : Nat), j ≤ L → (Tm R m i j ↔ Tm R' m i j)
  | 0, i, j, _ => Iff.rfl
  | m + 1, i, j, hj => by
    have ih := fun k => tm_part hR hR' h m k j hj
    constructor
    · rintro ⟨k, h1, h2⟩
      have a := hR i k h1
      have b := tm_up hR m k j a.2 h2
      exact ⟨k, (h i k (by omega)).1 h1, (ih k).1 h2⟩
    · rintro ⟨k, h1, h2⟩
      have a := hR' i k h1
      have b := tm_up hR' m k j a.2 h2
      exact ⟨k, (h i k (by omega)).2 h1, (ih k).2 h2⟩
/-- What lies in a beginning of a word lies in the word. -/
theorem mt_take {word : List Int} {L : Nat} (hL : L ≤ word.length) : ∀ (n : Nat) (t : Ex n) (i j : Nat), j ≤ L → (Mt (word.take L) n t i j ↔ Mt word n t i j)
  | 0, _, _, _, _ => Iff.rfl
  | n + 1, t, i, j, hj => by
    have ih := fun (x : Ex n) i j (h : j ≤ L) => mt_take hL n x i j h
    have e2 := ch_part (L := L) (fun x => Mt (word.take L) n x) (fun x => Mt word n x) (fun x => mt_up _ n x) (fun x => mt_up _ n x) ih (ks t) i j hj
    have e4 := fun x m => tm_part (L := L) (mt_up (word.take L) n x) (mt_up word n x) (ih x) m i j hj
    have hlen : (word.take L).length = L := by rw [List.length_take]; omega
    have e1 : j = i + 1 → ((∃ c, (word.take L)[i]? = some c ∧ inS (st t) c = true) ↔ ∃ c, word[i]? = some c ∧ inS (st t) c = true) := fun e => by
      rw [List.getElem?_take_of_lt (by omega)]
    constructor
    · intro h
      have hij := mt_up _ (n + 1) t i j h
      obtain ⟨hi, h⟩ := h
      refine ⟨by omega, ?_⟩
      rcases h with ⟨k, h⟩ | ⟨k, ej, h⟩ | ⟨k, h⟩ | ⟨k, x, hx, h⟩ | ⟨k, x, hx, m, h⟩ | ⟨k, x, hx, h⟩
      · exact .inl ⟨k, h⟩
      · exact .inr (.inl ⟨k, ej, (e1 ej).1 h⟩)
      · exact .inr (.inr (.inl ⟨k, e2.1 h⟩))
      · exact .inr (.inr (.inr (.inl ⟨k, x, hx, (ih x i j hj).1 h⟩)))
      · exact .inr (.inr (.inr (.inr (.inl ⟨k, x, hx, m, (e4 x m).1 h⟩))))
      · exact .inr (.inr (.inr (.inr (.inr ⟨k, x, hx, h.imp id (ih x i j hj).1⟩))))
    · intro h
      have hij := mt_up _ (n + 1) t i j h
      obtain ⟨hi, h⟩ := h
      refine ⟨by omega, ?_⟩
      rcases h with ⟨k, h⟩ | ⟨k, ej, h⟩ | ⟨k, h⟩ | ⟨k, x, hx, h⟩ | ⟨k, x, hx, m, h⟩ | ⟨k, x, hx, h⟩
      · exact .inl ⟨k, h⟩
      · exact .inr (.inl ⟨k, ej, (e1 ej).2 h⟩)
      · exact .inr (.inr (.inl ⟨k, e2.2 h⟩))
      · exact .inr (.inr (.inr (.inl ⟨k, x, hx, (ih x i j hj).2 h⟩)))
      · exact .inr (.inr (.inr (.inr (.inl ⟨k, x, hx, m, (e4 x m).2 h⟩))))
      · exact .inr (.inr (.inr (.inr (.inr ⟨k, x, hx, h.imp id (ih x i j hj).2⟩))))
/-- The document's Ends tells of every beginning. -/
theorem ends_take (word : List Int) (n : Nat) (t : Ex n) {m : Nat} (hm : m ≤ word.length) : endsE word n t (fun i => decide (i = 0)) m = hasE n t (word.take m) := by
  rw [Bool.eq_iff_iff, has_iff, ends_tells word n t _ (fun i h => by have := of_decide_eq_true h; omega)]
  have hlen : (word.take m).length = m := by rw [List.length_take]; omega
  rw [hlen, mt_take hm n t 0 m (Nat.le_refl _)]
  constructor
  · rintro ⟨i, h, q⟩
    obtain rfl := of_decide_eq_true h
    exact q
  · intro q
    exact ⟨0, decide_eq_true rfl, q⟩

/-- Has rule r of rules a word? -/
def hasL (l : List Rl) (word : List Int) (r : Int) : Bool := match l[r.toNat]? with | some x => hasE x.n x.t word | none => false
theorem hasW_iff (l : List Rl) (word : List Int) (a k m : Nat) (hm : m ≤ (word.drop a).length) : hasW l word a k m = hasL l ((word.drop a).take m) (k : Int) := by
  unfold hasW hasL
  rw [show ((k : Nat) : Int).toNat = k by omega]
  cases l[k]? with
  | none => rfl
  | some x => exact ends_take _ _ _ hm

/-- The best of the pairs (rule, length) that have been looked at. -/
def Bst (P : Nat → Nat → Bool) (a N : Nat) (S : Nat → Nat → Prop) (s : Int × Int) : Prop :=
  (s = ((a : Int) + 1, -1) ∧ ∀ k m, S k m → 1 ≤ m → m ≤ N → P k m = false) ∨
  ∃ k m : Nat, s = ((a : Int) + (m : Int), (k : Int)) ∧ 1 ≤ m ∧ m ≤ N ∧ P k m = true ∧ S k m ∧ ∀ k' m', S k' m' → 1 ≤ m' → m' ≤ N → P k' m' = true → m' < m ∨ (m' = m ∧ k ≤ k')
theorem bst_step {P : Nat → Nat → Bool} {a N k n : Nat} {s : Int × Int} (hn : n + 1 ≤ N)
    (h : Bst P a N (fun k' m' => k' < k ∨ (k' = k ∧ n + 1 < m')) s) :
    Bst P a N (fun k' m' => k' < k ∨ (k' = k ∧ n < m')) (if P k (n + 1) = true ∧ (s.2 < 0 ∨ s.1 < (a : Int) + ((n + 1 : Nat) : Int)) then ((a : Int) + ((n + 1 : Nat) : Int), (k : Int)) else s) := by
  by_cases hP : P k (n + 1) = true
  · rcases h with ⟨rfl, h⟩ | ⟨k0, m0, rfl, h1, h2, h3, h4, h5⟩
    · rw [if_pos ⟨hP, .inl (by show (-1 : Int) < 0; omega)⟩]
      refine .inr ⟨k, n + 1, rfl, by omega, hn, hP, .inr ⟨rfl, by omega⟩, fun k' m' hS m1 m2 p => ?_⟩
      by_cases e : k' = k ∧ m' = n + 1
      · exact .inr ⟨e.2, by omega⟩
      · have := h k' m' (by rcases hS with q | q; exact .inl q; exact .inr ⟨q.1, by omega⟩) m1 m2
        rw [p] at this; cases this
    · by_cases c : m0 < n + 1
      · rw [if_pos ⟨hP, .inr (by show (a : Int) + (m0 : Int) < _; omega)⟩]
        refine .inr ⟨k, n + 1, rfl, by omega, hn, hP, .inr ⟨rfl, by omega⟩, fun k' m' hS m1 m2 p => ?_⟩
        by_cases e : k' = k ∧ m' = n + 1
        · exact .inr ⟨e.2, by omega⟩
        · have := h5 k' m' (by rcases hS with q | q; exact .inl q; exact .inr ⟨q.1, by omega⟩) m1 m2 p
          left; omega
      · rw [if_neg (by
          rintro ⟨-, q | q⟩
          · have : ((k0 : Nat) : Int) < 0 := q
            omega
          · have : (a : Int) + (m0 : Int) < (a : Int) + ((n + 1 : Nat) : Int) := q
            omega)]
        refine .inr ⟨k0, m0, rfl, h1, h2, h3, by rcases h4 with q | q; exact .inl q; exact .inr ⟨q.1, by omega⟩, fun k' m' hS m1 m2 p => ?_⟩
        by_cases e : k' = k ∧ m' = n + 1
        · have : k0 ≤ k := by rcases h4 with q | q <;> omega
          by_cases e2 : m' = m0
          · exact .inr ⟨e2, by omega⟩
          · left; omega
        · exact h5 k' m' (by rcases hS with q | q; exact .inl q; exact .inr ⟨q.1, by omega⟩) m1 m2 p
  · rw [if_neg (fun q => hP q.1)]
    have hP' : P k (n + 1) = false := by simpa using hP
    rcases h with ⟨rfl, h⟩ | ⟨k0, m0, rfl, h1, h2, h3, h4, h5⟩
    · refine .inl ⟨rfl, fun k' m' hS m1 m2 => ?_⟩
      by_cases e : k' = k ∧ m' = n + 1
      · rw [e.1, e.2]; exact hP'
      · exact h k' m' (by rcases hS with q | q; exact .inl q; exact .inr ⟨q.1, by omega⟩) m1 m2
    · refine .inr ⟨k0, m0, rfl, h1, h2, h3, by rcases h4 with q | q; exact .inl q; exact .inr ⟨q.1, by omega⟩, fun k' m' hS m1 m2 p => ?_⟩
      by_cases e : k' = k ∧ m' = n + 1
      · rw [e.1, e.2, hP'] at p; cases p
      · exact h5 k' m' (by rcases hS with q | q; exact .inl q; exact .inr ⟨q.1, by omega⟩) m1 m2 p
theorem bst_congr {P : Nat → Nat → Bool} {a N : Nat} {S S' : Nat → Nat → Prop} {s : Int × Int} (h : ∀ k m, 1 ≤ m → m ≤ N → (S k m ↔ S' k m)) (hb : Bst P a N S s) : Bst P a N S' s := by
  rcases hb with ⟨e, h1⟩ | ⟨k0, m0, e, h1, h2, h3, h4, h5⟩
  · exact .inl ⟨e, fun k m hS m1 m2 => h1 k m ((h k m m1 m2).2 hS) m1 m2⟩
  · exact .inr ⟨k0, m0, e, h1, h2, h3, (h k0 m0 h1 h2).1 h4, fun k m hS m1 m2 p => h5 k m ((h k m m1 m2).2 hS) m1 m2 p⟩
theorem bst_in {l : List Rl} {word : List Int} {a k N : Nat} : ∀ (n : Nat) (s : Int × Int), n ≤ N → Bst (hasW l word a) a N (fun k' m' => k' < k ∨ (k' = k ∧ n < m')) s → Bst (hasW l word a) a N (fun k' m' => k' < k ∨ (k' = k ∧ 0 < m')) (inF l word a k n s)
  | 0, s, _, h => h
  | n + 1, s, hn, h => bst_in n _ (by omega) (bst_step hn h)
theorem bst_out {l : List Rl} {word : List Int} {a : Nat} : ∀ k, Bst (hasW l word a) a (word.length - a) (fun k' _ => k' < k) (outF l word a k)
  | 0 => .inl ⟨rfl, fun k m h => by omega⟩
  | k + 1 => bst_congr (fun k' m m1 m2 => by omega) (bst_in (N := word.length - a) (word.length - a) _ (Nat.le_refl _) (bst_congr (fun k' m m1 m2 => by omega) (bst_out k)))
end Go.Proofs.YtbbfjjjnifomgaaGreatDoor.A



/- Plain mathematics: the longest match of a machine that matches as the rules do is the best of the rules. -/
namespace Go.Proofs.YtbbfjjjnifomgaaGreatDoor.A
open Go.RowKit
set_option linter.unusedVariables false

theorem least_spec9 (p : Int → Bool) : ∀ (m : Nat) (r : Int), (leastR p m r = -1 ∧ ∀ j : Nat, j < m → p (r + j) = false) ∨ ∃ j : Nat, j < m ∧ leastR p m r = r + j ∧ p (r + j) = true ∧ ∀ i : Nat, i < j → p (r + i) = false
  | 0, r => .inl ⟨rfl, fun j hj => by omega⟩
  | m + 1, r => by
    unfold leastR
    cases hp : p r
    · rw [if_neg (by simp)]
      rcases least_spec9 p m (r + 1) with ⟨h1, h2⟩ | ⟨j, h1, h2, h3, h4⟩
      · refine .inl ⟨h1, fun j hj => ?_⟩
        cases j with
        | zero => simpa using hp
        | succ j => have := h2 j (by omega); rw [show r + ((j + 1 : Nat) : Int) = r + 1 + (j : Int) by omega]; exact this
      · refine .inr ⟨j + 1, by omega, by rw [h2]; omega, by rw [show r + ((j + 1 : Nat) : Int) = r + 1 + (j : Int) by omega]; exact h3, fun i hi => ?_⟩
        cases i with
        | zero => simpa using hp
        | succ i => have := h4 i (by omega); rw [show r + ((i + 1 : Nat) : Int) = r + 1 + (i : Int) by omega]; exact this
    · rw [if_pos rfl]
      exact .inr ⟨0, by omega, by omega, by simpa using hp, fun i hi => by omega⟩

/-- Does a rule end behind m letters? -/
def gd (nx : List (List Int)) (ru V : List Int) (m : Nat) : Prop := 0 ≤ runF nx V m ∧ ru.getD (runF nx V m).toNat 0 ≠ -1
theorem lg_spec (nx : List (List Int)) (ru V : List Int) (f : Int) : ∀ k, (lgF nx ru V f k = (-1, -1) ∧ ∀ m, 1 ≤ m → m ≤ k → ¬ gd nx ru V m) ∨ ∃ m : Nat, 1 ≤ m ∧ m ≤ k ∧ lgF nx ru V f k = (f + (m : Int), ru.getD (runF nx V m).toNat 0) ∧ gd nx ru V m ∧ ∀ m', m < m' → m' ≤ k → ¬ gd nx ru V m'
  | 0 => .inl ⟨rfl, fun m h1 h2 => by omega⟩
  | k + 1 => by
    unfold lgF
    by_cases c : 0 ≤ runF nx V (k + 1) ∧ ru.getD (runF nx V (k + 1)).toNat 0 ≠ -1
    · rw [if_pos c]
      exact .inr ⟨k + 1, by omega, Nat.le_refl _, by rw [show f + (k : Int) + 1 = f + ((k + 1 : Nat) : Int) by omega], c, fun m' h1 h2 => by omega⟩
    · rw [if_neg c]
      rcases lg_spec nx ru V f k with ⟨h1, h2⟩ | ⟨m, h1, h2, h3, h4, h5⟩
      · refine .inl ⟨h1, fun m m1 m2 => ?_⟩
        by_cases e : m = k + 1
        · rw [e]; exact c
        · exact h2 m m1 (by omega)
      · refine .inr ⟨m, h1, by omega, h3, h4, fun m' m1 m2 => ?_⟩
        by_cases e : m' = k + 1
        · rw [e]; exact c
        · exact h5 m' m1 (by omega)
section
variable {nx : List (List Int)} {ru : List Int}
theorem run_of_take (hr : rightD nx ru = true) {V : List Int} {m : Nat} (hm : m ≤ V.length) : runR nx ru (V.take m) = runF nx V m := by
  unfold runR
  rw [if_pos hr, List.length_take, Nat.min_eq_left hm]
  exact run_take m (Nat.le_refl _) hm
theorem gd_iff (hr : rightD nx ru = true) (h16 : ∀ x ∈ nx, x.length = 16) {V : List Int} {m : Nat} (hm : m ≤ V.length) : (gd nx ru V m ↔ 0 ≤ matR nx ru (V.take m)) ∧ (gd nx ru V m → matR nx ru (V.take m) = ru.getD (runF nx V m).toNat 0) := by
  obtain ⟨h1, h2, h3, h4, h5⟩ := right_open hr
  have hrng := run_rng hr h16 V m
  unfold matR
  rw [run_of_take hr hm]
  by_cases c : 0 ≤ runF nx V m
  · rw [if_pos c]
    have hlt : (runF nx V m).toNat < ru.length := by omega
    have hge := (h4 (runF nx V m).toNat _ (List.getElem?_eq_getElem hlt)).1
    have e : ru.getD (runF nx V m).toNat 0 = ru[(runF nx V m).toNat]'hlt := by rw [List.getD_eq_getElem?_getD, List.getElem?_eq_getElem hlt]; rfl
    refine ⟨⟨fun g => ?_, fun g => ⟨c, fun q => by rw [q] at g; omega⟩⟩, fun _ => rfl⟩
    have := g.2
    rw [e] at this ⊢
    omega
  · rw [if_neg c]
    exact ⟨⟨fun g => absurd g.1 c, fun g => by omega⟩, fun g => absurd g.1 c⟩
/-- THE LONGEST MATCH of a machine that matches as rules do is the best of the rules. -/
theorem long_one (hr : rightD nx ru = true) (h16 : ∀ x ∈ nx, x.length = 16) {l : List Rl} (hm : ∀ word, matR nx ru word = leastR (hasL l word) l.length 0) {word : List Int} {a : Nat} (ha : a < word.length) : longR nx ru word (a : Int) = lgW l word a := by
  unfold longR
  rw [if_pos ⟨hr, by omega, by omega⟩, show ((a : Nat) : Int).toNat = a by omega]
  have hlen : (word.drop a).length = word.length - a := List.length_drop
  have hW := fun (k m : Nat) (h : m ≤ word.length - a) => hasW_iff l word a k m (by rw [hlen]; exact h)
  have hG := fun (m : Nat) (h : m ≤ word.length - a) => gd_iff hr h16 (V := word.drop a) (m := m) (by rw [hlen]; exact h)
  obtain ⟨V, hV⟩ : ∃ V, word.drop a = V := ⟨_, rfl⟩
  rw [hV] at hW hG ⊢
  have hsome : ∀ m, m ≤ word.length - a → (gd nx ru V m ↔ ∃ j : Nat, j < l.length ∧ hasW l word a j m = true) := fun m hm1 => by
    rw [(hG m hm1).1, hm]
    rcases least_spec9 (hasL l (V.take m)) l.length 0 with ⟨e, h⟩ | ⟨j, h1, e, h2, h3⟩
    · rw [e]
      refine ⟨fun q => by omega, fun ⟨j, hj, q⟩ => ?_⟩
      rw [hW j m hm1] at q
      have := h j hj
      rw [show (0 : Int) + (j : Int) = (j : Int) by omega, q] at this
      cases this
    · rw [e]
      refine ⟨fun _ => ⟨j, h1, ?_⟩, fun _ => by omega⟩
      rw [hW j m hm1]
      rw [show (0 : Int) + (j : Int) = (j : Int) by omega] at h2
      exact h2
  unfold lgW
  rcases lg_spec nx ru V (a : Int) (word.length - a) with ⟨e, h⟩ | ⟨m, h1, h2, e, h3, h4⟩
  · rw [e]
    rcases bst_out (l := l) (word := word) (a := a) l.length with ⟨e', h'⟩ | ⟨k, m, e', m1, m2, m3, m4, m5⟩
    · rw [e', if_neg (by show ¬ (0 : Int) ≤ -1; omega)]
    · exact absurd ((hsome m m2).2 ⟨k, m4, m3⟩) (h m m1 m2)
  · rcases bst_out (l := l) (word := word) (a := a) l.length with ⟨e', h'⟩ | ⟨k, m', e', m1, m2, m3, m4, m5⟩
    · obtain ⟨j, hj, q⟩ := (hsome m h2).1 h3
      rw [h' j m hj h1 h2] at q
      cases q
    · rw [e, e', if_pos (by show (0 : Int) ≤ (k : Int); omega)]
      have g' := (hsome m' m2).2 ⟨k, m4, m3⟩
      have le1 : m' ≤ m := by
        rcases Nat.lt_or_ge m m' with q | q
        · exact absurd g' (h4 m' q m2)
        · exact q
      have hv := (hG m h2).2 h3
      rw [hm] at hv
      rcases least_spec9 (hasL l (V.take m)) l.length 0 with ⟨e2, q⟩ | ⟨j, q1, e2, q2, q3⟩
      · have := (hG m h2).1.1 h3
        rw [hm, e2] at this
        omega
      · rw [← hv, e2]
        rw [show (0 : Int) + (j : Int) = (j : Int) by omega] at q2 ⊢
        have pj : hasW l word a j m = true := by rw [hW j m h2]; exact q2
        have em : m' = m := by
          rcases m5 j m q1 h1 h2 pj with q | q <;> omega
        subst em
        have kj : k ≤ j := by
          rcases m5 j m' q1 h1 h2 pj with q | q <;> omega
        have jk : j ≤ k := by
          rcases Nat.lt_or_ge k j with q | q
          · have := q3 k q
            rw [show (0 : Int) + (k : Int) = (k : Int) by omega, ← hW k m' m2, m3] at this
            cases this
          · exact q
        rw [show j = k by omega]
/-- .. and so are the pieces. -/
theorem cut_congr {lg lg' : Nat → Int × Int} {len : Nat} (h : ∀ a, a < len → lg a = lg' a) : ∀ f a, cutF lg len f a = cutF lg' len f a
  | 0, _ => rfl
  | f + 1, a => by
    unfold cutF
    by_cases c : a < len
    · rw [if_pos c, if_pos c, h a c, cut_congr h f]
    · rw [if_neg c, if_neg c]
theorem cut_one (hr : rightD nx ru = true) (h16 : ∀ x ∈ nx, x.length = 16) {l : List Rl} (hm : ∀ word, matR nx ru word = leastR (hasL l word) l.length 0) (word : List Int) : cutW (fun a => longR nx ru word (a : Int)) word.length = cutW (lgW l word) word.length :=
  cut_congr (fun a ha => long_one hr h16 hm ha) _ _
end
end Go.Proofs.YtbbfjjjnifomgaaGreatDoor.A



/- Expressions raised to a common depth; the document's Regexes. -/
namespace Go.Proofs.YtbbfjjjnifomgaaGreatDoor.A
open Go.RowKit
set_option linter.unusedVariables false

/-- The same expression among those of N levels. -/
def toE : (N n : Nat) → Ex n → Ex N
  | 0, _, _ => ()
  | _ + 1, 0, _ => (0, 0, [])
  | N + 1, n + 1, t => (kd t, st t, (ks t).map fun x => toE N n x)
theorem rx_to {w : World} : ∀ (n N : Nat) (t : Ex n) (v : Value), n ≤ N → Rx w n t v → Rx w N (toE N n t) v
  | 0, _, _, _, _, h => h.elim
  | n + 1, 0, _, _, hN, _ => by omega
  | n + 1, N + 1, t, v, hN, ⟨a, len, cap, h1, h2, h3, h4, h5, h6, h7⟩ => by
    refine ⟨a, len, cap, h1, h2, h3, h4, h5, ?_, ?_⟩
    · show ((ks t).map fun x => toE N n x).length = len
      rw [List.length_map]; exact h6
    · rcases h7 with h7 | ⟨b, off, e, h7⟩
      · exact .inl h7
      · refine .inr ⟨b, off, e, fun i x hx => ?_⟩
        have hx' : ((ks t).map fun x => toE N n x)[i]? = some x := hx
        rw [List.getElem?_map] at hx'
        obtain ⟨y, hy, rfl⟩ := Option.map_eq_some_iff.1 hx'
        obtain ⟨c0, c1, c2, p0, p1, p2, p3⟩ := h7 i y hy
        exact ⟨c0, c1, c2, p0, p1, p2, rx_to n N y _ (by omega) p3⟩
theorem mt_to (word : List Int) : ∀ (n N : Nat) (t : Ex n) (i j : Nat), n ≤ N → full n t → (Mt word N (toE N n t) i j ↔ Mt word n t i j)
  | 0, _, _, _, _, _, h => h.elim
  | n + 1, 0, _, _, _, hN, _ => by omega
  | n + 1, N + 1, t, i, j, hN, hf => by
    have hf' : ∀ x ∈ ks t, full n x := hf
    have ih := fun x (hx : x ∈ ks t) i j => mt_to word n N x i j (by omega) (hf' x hx)
    have e : ((ks t).map fun x => toE N n x).map (fun x => Mt word N x) = (ks t).map (fun x => Mt word n x) := by
      rw [List.map_map]
      exact List.map_congr_left fun x hx => funext fun i => funext fun j => propext (ih x hx i j)
    have eh : ((ks t).map fun x => toE N n x).head? = ((ks t).head?).map (fun x => toE N n x) := by cases ks t <;> rfl
    have et : ∀ x, x ∈ ks t → Mt word N (toE N n x) = Mt word n x := fun x hx => funext fun i => funext fun j => propext (ih x hx i j)
    show (i ≤ word.length ∧ (
      (kd t = 0 ∧ i = j) ∨ (kd t = 1 ∧ j = i + 1 ∧ ∃ c, word[i]? = some c ∧ inS (st t) c = true) ∨
      (kd t = 2 ∧ Ch (((ks t).map fun x => toE N n x).map (fun x => Mt word N x)) i j) ∨ (kd t = 3 ∧ ∃ x ∈ (ks t).map fun x => toE N n x, Mt word N x i j) ∨
      (kd t = 4 ∧ ∃ x ∈ ((ks t).map fun x => toE N n x).head?, ∃ m, Tm (Mt word N x) m i j) ∨ (kd t = 5 ∧ ∃ x ∈ ((ks t).map fun x => toE N n x).head?, i = j ∨ Mt word N x i j))) ↔ _
    rw [e, eh]
    have e3 : (∃ x ∈ (ks t).map fun x => toE N n x, Mt word N x i j) ↔ ∃ x ∈ ks t, Mt word n x i j := by
      constructor
      · rintro ⟨x, hx, h⟩
        obtain ⟨y, hy, rfl⟩ := List.mem_map.1 hx
        exact ⟨y, hy, (ih y hy i j).1 h⟩
      · rintro ⟨y, hy, h⟩
        exact ⟨_, List.mem_map.2 ⟨y, hy, rfl⟩, (ih y hy i j).2 h⟩
    have e4 : (∃ x ∈ ((ks t).head?).map (fun x => toE N n x), ∃ m, Tm (Mt word N x) m i j) ↔ ∃ x ∈ (ks t).head?, ∃ m, Tm (Mt word n x) m i j := by
      cases hk : ks t with
      | nil => simp
      | cons y r => simp [et y (by rw [hk]; simp)]
    have e5 : (∃ x ∈ ((ks t).head?).map (fun x => toE N n x), i = j ∨ Mt word N x i j) ↔ ∃ x ∈ (ks t).head?, i = j ∨ Mt word n x i j := by
      cases hk : ks t with
      | nil => simp
      | cons y r => simp [et y (by rw [hk]; simp)]
    rw [e3, e4, e5]
    exact Iff.rfl
theorem has_to {n N : Nat} {t : Ex n} (hN : n ≤ N) (hf : full n t) (word : List Int) : hasE N (toE N n t) word = hasE n t word := by
  rw [Bool.eq_iff_iff, has_iff, has_iff]
  exact mt_to word n N t 0 word.length hN hf
theorem shapes_to : ∀ (n N : Nat) (t : Ex n), n ≤ N → full n t → shapesE N (toE N n t) = shapesE n t
  | 0, _, _, _, h => h.elim
  | n + 1, 0, _, hN, _ => by omega
  | n + 1, N + 1, t, hN, hf => by
    have hf' : ∀ x ∈ ks t, full n x := hf
    show (okE (kd t) (st t) ((ks t).map fun x => toE N n x).length && ((ks t).map fun x => toE N n x).all (fun x => shapesE N x)) = (okE (kd t) (st t) (ks t).length && (ks t).all (fun x => shapesE n x))
    rw [List.length_map, List.all_map]
    congr 1
    rw [Bool.eq_iff_iff, List.all_eq_true, List.all_eq_true]
    constructor
    · intro h x hx
      have := h x hx
      rw [Function.comp, shapes_to n N x (by omega) (hf' x hx)] at this
      exact this
    · intro h x hx
      rw [Function.comp, shapes_to n N x (by omega) (hf' x hx)]
      exact h x hx
theorem full_to : ∀ (n N : Nat) (t : Ex n), n ≤ N → full n t → full N (toE N n t)
  | 0, _, _, _, h => h.elim
  | n + 1, 0, _, hN, _ => by omega
  | n + 1, N + 1, t, hN, hf => by
    have hf' : ∀ x ∈ ks t, full n x := hf
    intro x hx
    obtain ⟨y, hy, rfl⟩ := List.mem_map.1 (show x ∈ (ks t).map fun x => toE N n x from hx)
    exact full_to n N y (by omega) (hf' y hy)
theorem foldl_congr' {α β : Type} {f g : β → α → β} : ∀ (l : List α) (b : β), (∀ x ∈ l, ∀ b, f b x = g b x) → l.foldl f b = l.foldl g b
  | [], _, _ => rfl
  | x :: r, b, h => by
    rw [List.foldl_cons, List.foldl_cons, h x List.mem_cons_self]
    exact foldl_congr' r _ fun y hy => h y (List.mem_cons_of_mem _ hy)
theorem nodes_to : ∀ (n N : Nat) (t : Ex n), n ≤ N → full n t → nodesE N (toE N n t) = nodesE n t
  | 0, _, _, _, h => h.elim
  | n + 1, 0, _, hN, _ => by omega
  | n + 1, N + 1, t, hN, hf => by
    have hf' : ∀ x ∈ ks t, full n x := hf
    show ((ks t).map fun x => toE N n x).foldl (fun a x => if a < 101 then a + nodesE N x else a) 1 = (ks t).foldl (fun a x => if a < 101 then a + nodesE n x else a) 1
    rw [List.foldl_map]
    exact foldl_congr' _ _ fun x hx b => by rw [nodes_to n N x (by omega) (hf' x hx)]
theorem deep_to : ∀ (n N : Nat) (t : Ex n) (m : Nat), n ≤ N → full n t → deepE N (toE N n t) m = deepE n t m
  | 0, _, _, _, _, h => h.elim
  | n + 1, 0, _, _, hN, _ => by omega
  | n + 1, N + 1, t, 0, hN, hf => rfl
  | n + 1, N + 1, t, m + 1, hN, hf => by
    have hf' : ∀ x ∈ ks t, full n x := hf
    show (((ks t).map fun x => toE N n x).foldl (fun a x => max a (deepE N x m)) 0) + 1 = ((ks t).foldl (fun a x => max a (deepE n x m)) 0) + 1
    rw [List.foldl_map]
    congr 1
    exact foldl_congr' _ _ fun x hx b => by rw [deep_to n N x m (by omega) (hf' x hx)]
theorem right_to {n N : Nat} {t : Ex n} (hN : n ≤ N) (hf : full n t) : rightE N (toE N n t) = rightE n t := by
  unfold rightE
  rw [deep_to n N t 12 hN hf, nodes_to n N t hN hf, shapes_to n N t hN hf]

/-- The expressions of rules, of one depth. -/
def exsL (N : Nat) (l : List Rl) : List (Ex N) := l.map fun x => toE N x.n x.t
theorem has_exs {N : Nat} {l : List Rl} (hN : ∀ x ∈ l, x.n ≤ N ∧ full x.n x.t) (word : List Int) (r : Int) : hasN (exsL N l) word r = hasL l word r := by
  unfold hasN hasL exsL
  rw [List.getElem?_map]
  cases h : l[r.toNat]? with
  | none => rfl
  | some x =>
    have := hN x (List.mem_of_getElem? h)
    exact has_to this.1 this.2 word
theorem least_exs {N : Nat} {l : List Rl} (hN : ∀ x ∈ l, x.n ≤ N ∧ full x.n x.t) (word : List Int) (m : Nat) (r : Int) : leastR (hasN (exsL N l) word) m r = leastR (hasL l word) m r := by
  rw [show hasN (exsL N l) word = hasL l word from funext fun r => has_exs hN word r]

/-- The rules' expressions, as cells. -/
def CellsX (w : World) (l : List Rl) (xs : List Value) : Prop := xs.length = l.length * 3 ∧ ∀ (i : Nat) (x : Rl), l[i]? = some x → ∃ c0 c1 c2, xs[i * 3]? = some c0 ∧ xs[i * 3 + 1]? = some c1 ∧ xs[i * 3 + 2]? = some c2 ∧ Rx w x.n x.t (.agg #[c0, c1, c2])
theorem own_exs {w w' : World} {base n : Nat} {v : Value} {l : List Rl} {xs : List Value} {N : Nat} (h : w'.ownsRow base 55 3 v n xs) (hn : n = l.length) (hx : CellsX w l xs) (hb : Below w.heap.size w w') (hN : ∀ x ∈ l, x.n ≤ N) : ∃ a c, v = .slice a n c ∧ Exs w' N a (exsL N l) := by
  rcases h.2 with ⟨rfl, h0⟩ | ⟨g, cap, cur, rfl, _, hg, _, _, _, ht⟩
  · exact ⟨none, 0, by rw [h0], fun i p hp => by
      have := (List.getElem?_eq_some_iff.1 hp).1
      unfold exsL at this
      rw [List.length_map] at this
      omega⟩
  · refine ⟨_, _, rfl, fun i p hp => ?_⟩
    unfold exsL at hp
    rw [List.getElem?_map] at hp
    obtain ⟨y, hy, rfl⟩ := Option.map_eq_some_iff.1 hp
    have hi := (List.getElem?_eq_some_iff.1 hy).1
    obtain ⟨c0, c1, c2, h1, h2, h3, h4⟩ := hx.2 i y hy
    have at_ : ∀ j v, j < n * 3 → xs[j]? = some v → w'.cell? ⟨g, j, none⟩ = some v := fun j v hj hv => by
      rw [← ht, List.getElem?_take_of_lt hj] at hv
      rw [cell_of_row _ _ _ _ _ _ hg]; simpa using hv
    exact ⟨g, 0, c0, c1, c2, rfl, by rw [Nat.zero_add]; exact at_ _ _ (by omega) h1, by rw [Nat.zero_add]; exact at_ _ _ (by omega) h2, by rw [Nat.zero_add]; exact at_ _ _ (by omega) h3, rx_to _ _ _ _ (hN y (List.mem_of_getElem? hy)) (rx_below hb _ _ _ h4)⟩
end Go.Proofs.YtbbfjjjnifomgaaGreatDoor.A


