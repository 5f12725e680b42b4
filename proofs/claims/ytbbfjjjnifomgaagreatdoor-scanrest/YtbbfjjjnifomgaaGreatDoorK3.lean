/- The words of an expression: plain mathematics. -/
import Derived.WalkKit
import Derived.ProofKit
import Derived.Outline
import Derived.BigQuiet
import Derived.Deep.QuietTactic
import Derived.Below
import Derived.Test.YtbbfjjjnifomgaaGreatDoorK1
import Derived.Test.YtbbfjjjnifomgaaGreatDoorK2
import Derived.Deep.RegionHeld3
namespace Go.Proofs.YtbbfjjjnifomgaaGreatDoor.A

/-- Is a number a category in a set? -/
def inS (s : Nat) (c : Int) : Bool := decide (0 ≤ c) && (decide (c < 16) && (s / 2 ^ c.toNat % 2 == 1))
/-- One behind the other. -/
def Ch : List (Nat → Nat → Prop) → Nat → Nat → Prop
  | [], i, j => i = j
  | R :: r, i, j => ∃ k, R i k ∧ Ch r k j
/-- So many times. -/
def Tm (R : Nat → Nat → Prop) : Nat → Nat → Nat → Prop
  | 0, i, j => i = j
  | m + 1, i, j => ∃ k, R i k ∧ Tm R m k j
/-- A word of an expression lies from one place of a word to another. -/
def Mt (word : List Int) : (n : Nat) → Ex n → Nat → Nat → Prop
  | 0, _, _, _ => False
  | n + 1, t, i, j => i ≤ word.length ∧ (
      (kd t = 0 ∧ i = j) ∨ (kd t = 1 ∧ j = i + 1 ∧ ∃ c, word[i]? = some c ∧ inS (st t) c = true) ∨
      (kd t = 2 ∧ Ch ((ks t).map (fun x => Mt word n x)) i j) ∨ (kd t = 3 ∧ ∃ x ∈ ks t, Mt word n x i j) ∨
      (kd t = 4 ∧ ∃ x ∈ (ks t).head?, ∃ m, Tm (Mt word n x) m i j) ∨ (kd t = 5 ∧ ∃ x ∈ (ks t).head?, i = j ∨ Mt word n x i j))

/-- Places rise, and stay in the word. -/
def Up (L : Nat) (R : Nat → Nat → Prop) : Prop := ∀ i j, R i j → i ≤ j ∧ j ≤ L
theorem ch_up {L : Nat} : ∀ (l : List (Nat → Nat → Prop)) (_ : ∀ R ∈ l, Up L R) (i j : Nat), i ≤ L → Ch l i j → i ≤ j ∧ j ≤ L
  | [], _, i, j, hi, h => by cases h; exact ⟨Nat.le_refl _, hi⟩
  | R :: r, hl, i, j, _, ⟨k, h1, h2⟩ => by
    have a := hl R (by simp) i k h1
    have b := ch_up r (fun R' h => hl R' (by simp [h])) k j a.2 h2
    omega
theorem tm_up {L : Nat} {R : Nat → Nat → Prop} (h : Up L R) : ∀ (m i j : Nat), i ≤ L → Tm R m i j → i ≤ j ∧ j ≤ L
  | 0, i, j, hi, e => by cases e; exact ⟨Nat.le_refl _, hi⟩
  | m + 1, i, j, _, ⟨k, h1, h2⟩ => by
    have a := h i k h1
    have b := tm_up h m k j a.2 h2
    omega
theorem mt_up (word : List Int) : ∀ (n : Nat) (t : Ex n), Up word.length (Mt word n t)
  | 0, _ => fun _ _ h => h.elim
  | n + 1, t => by
    rintro i j ⟨hi, h⟩
    rcases h with ⟨_, rfl⟩ | ⟨_, rfl, c, hc, _⟩ | ⟨_, h⟩ | ⟨_, x, _, h⟩ | ⟨_, x, _, m, h⟩ | ⟨_, x, _, h⟩
    · exact ⟨Nat.le_refl _, hi⟩
    · have := (List.getElem?_eq_some_iff.1 hc).1; omega
    · refine ch_up _ (fun R hR => ?_) i j hi h
      obtain ⟨x, _, rfl⟩ := List.mem_map.1 hR
      exact mt_up word n x
    · exact mt_up word n x i j h
    · exact tm_up (mt_up word n x) m i j hi h
    · rcases h with rfl | h
      · exact ⟨Nat.le_refl _, hi⟩
      · exact mt_up word n x i j h
/-- A way has no need of steps that stand still. -/
theorem tm_short {L : Nat} {R : Nat → Nat → Prop} (hR : Up L R) : ∀ (m i j : Nat), i ≤ L → Tm R m i j → ∃ p, p ≤ j - i ∧ Tm R p i j
  | 0, i, j, _, e => ⟨0, Nat.zero_le _, e⟩
  | m + 1, i, j, _, ⟨k, h1, h2⟩ => by
    have a := hR i k h1
    obtain ⟨p, hp, ht⟩ := tm_short hR m k j a.2 h2
    have b := tm_up hR p k j a.2 ht
    by_cases e : i = k
    · subst e; exact ⟨p, hp, ht⟩
    · exact ⟨p + 1, by omega, k, h1, ht⟩

/-- One round more of a star. -/
def stepE (f : (Nat → Bool) → Nat → Bool) (o : Nat → Bool) (j : Nat) : Bool := o j || f o j
def iterE (f : (Nat → Bool) → Nat → Bool) : Nat → (Nat → Bool) → Nat → Bool
  | 0, o => o
  | m + 1, o => iterE f m (stepE f o)
/-- At which places a word of the expression may end, that begins at one of those told. -/
def endsE (word : List Int) : (n : Nat) → Ex n → (Nat → Bool) → Nat → Bool
  | 0, _, _, _ => false
  | n + 1, t, o, j =>
    if kd t = 0 then o j
    else if kd t = 1 then decide (0 < j) && (o (j - 1) && (match word[j - 1]? with | some c => inS (st t) c | none => false))
    else if kd t = 2 then (ks t).foldl (fun o x => endsE word n x o) o j
    else if kd t = 3 then (ks t).any (fun x => endsE word n x o j)
    else if kd t = 4 then (match (ks t).head? with | some x => iterE (fun o => endsE word n x o) (word.length + 1) o j | none => false)
    else if kd t = 5 then (match (ks t).head? with | some x => stepE (fun o => endsE word n x o) o j | none => false)
    else false
/-- It tells just the places that words lead to. -/
def Tells (L : Nat) (R : Nat → Nat → Prop) (f : (Nat → Bool) → Nat → Bool) : Prop := ∀ o : Nat → Bool, (∀ i, o i = true → i ≤ L) → ∀ j, f o j = true ↔ ∃ i, o i = true ∧ R i j
theorem tells_in {L : Nat} {R : Nat → Nat → Prop} {f : (Nat → Bool) → Nat → Bool} (hR : Up L R) (hf : Tells L R f) {o : Nat → Bool} (ho : ∀ i, o i = true → i ≤ L) : ∀ i, f o i = true → i ≤ L := fun j h => by
  obtain ⟨i, _, h2⟩ := (hf o ho j).1 h
  exact (hR i j h2).2
theorem ch_tells {α : Type} {L : Nat} (R : α → Nat → Nat → Prop) (f : α → (Nat → Bool) → Nat → Bool) (hR : ∀ x, Up L (R x)) (hf : ∀ x, Tells L (R x) (f x)) : ∀ (l : List α), Tells L (Ch (l.map R)) (fun o => l.foldl (fun o x => f x o) o)
  | [] => fun o _ j => ⟨fun h => ⟨j, h, rfl⟩, fun ⟨i, h, e⟩ => by cases e; exact h⟩
  | x :: r => fun o ho j => by
    have ih := ch_tells R f hR hf r (f x o) (tells_in (hR x) (hf x) ho) j
    show (r.foldl (fun o x => f x o) (f x o)) j = true ↔ _
    rw [ih]
    constructor
    · rintro ⟨k, h1, h2⟩
      obtain ⟨i, a, b⟩ := (hf x o ho k).1 h1
      exact ⟨i, a, k, b, h2⟩
    · rintro ⟨i, a, k, b, h2⟩
      exact ⟨k, (hf x o ho k).2 ⟨i, a, b⟩, h2⟩
theorem step_in {L : Nat} {R : Nat → Nat → Prop} {f : (Nat → Bool) → Nat → Bool} (hR : Up L R) (hf : Tells L R f) {o : Nat → Bool} (ho : ∀ i, o i = true → i ≤ L) : ∀ i, stepE f o i = true → i ≤ L := fun i h => by
  unfold stepE at h
  rw [Bool.or_eq_true] at h
  rcases h with h | h
  · exact ho i h
  · exact tells_in hR hf ho i h
theorem iter_tells {L : Nat} {R : Nat → Nat → Prop} {f : (Nat → Bool) → Nat → Bool} (hR : Up L R) (hf : Tells L R f) : ∀ (m : Nat) (o : Nat → Bool), (∀ i, o i = true → i ≤ L) → ∀ j, iterE f m o j = true ↔ ∃ i, o i = true ∧ ∃ p, p ≤ m ∧ Tm R p i j
  | 0, o, _, j => ⟨fun h => ⟨j, h, 0, Nat.le_refl _, rfl⟩, fun ⟨i, h, p, hp, ht⟩ => by
      obtain rfl : p = 0 := by omega
      cases ht; exact h⟩
  | m + 1, o, ho, j => by
    show iterE f m (stepE f o) j = true ↔ _
    rw [iter_tells hR hf m (stepE f o) (step_in hR hf ho) j]
    constructor
    · rintro ⟨k, h, p, hp, ht⟩
      unfold stepE at h
      rw [Bool.or_eq_true] at h
      rcases h with h | h
      · exact ⟨k, h, p, by omega, ht⟩
      · obtain ⟨i, a, b⟩ := (hf o ho k).1 h
        exact ⟨i, a, p + 1, by omega, k, b, ht⟩
    · rintro ⟨i, h, p, hp, ht⟩
      cases p with
      | zero => exact ⟨i, by unfold stepE; rw [h]; rfl, 0, Nat.zero_le _, ht⟩
      | succ p =>
        obtain ⟨k, b, ht⟩ := ht
        exact ⟨k, by unfold stepE; rw [Bool.or_eq_true]; exact .inr ((hf o ho k).2 ⟨i, h, b⟩), p, by omega, ht⟩
theorem ends_tells (word : List Int) : ∀ (n : Nat) (t : Ex n), Tells word.length (Mt word n t) (endsE word n t)
  | 0, _ => fun _ _ _ => ⟨(fun h => by cases h), fun ⟨_, _, h⟩ => h.elim⟩
  | n + 1, t => by
    intro o ho j
    unfold endsE
    by_cases k0 : kd t = 0
    · rw [if_pos k0]
      constructor
      · intro h; exact ⟨j, h, ho j h, .inl ⟨k0, rfl⟩⟩
      · rintro ⟨i, h, _, q⟩
        rcases q with ⟨_, rfl⟩ | ⟨q, _⟩ | ⟨q, _⟩ | ⟨q, _⟩ | ⟨q, _⟩ | ⟨q, _⟩
        · exact h
        all_goals omega
    · rw [if_neg k0]
      by_cases k1 : kd t = 1
      · rw [if_pos k1]
        constructor
        · intro h
          simp only [Bool.and_eq_true, decide_eq_true_eq] at h
          obtain ⟨h1, h2, h3⟩ := h
          cases hc : word[j - 1]? with
          | none => rw [hc] at h3; cases h3
          | some c => rw [hc] at h3; exact ⟨j - 1, h2, ho _ h2, .inr (.inl ⟨k1, by omega, c, hc, h3⟩)⟩
        · rintro ⟨i, h, _, q⟩
          rcases q with ⟨q, _⟩ | ⟨_, rfl, c, hc, hs⟩ | ⟨q, _⟩ | ⟨q, _⟩ | ⟨q, _⟩ | ⟨q, _⟩
          · omega
          · simp [h, hc, hs]
          all_goals omega
      · rw [if_neg k1]
        by_cases k2 : kd t = 2
        · rw [if_pos k2]
          have key := ch_tells (fun x => Mt word n x) (fun x => endsE word n x) (fun x => mt_up word n x) (fun x => ends_tells word n x) (ks t) o ho j
          constructor
          · intro h
            obtain ⟨i, a, b⟩ := key.1 h
            exact ⟨i, a, ho i a, .inr (.inr (.inl ⟨k2, b⟩))⟩
          · rintro ⟨i, h, _, q⟩
            rcases q with ⟨q, _⟩ | ⟨q, _⟩ | ⟨_, q⟩ | ⟨q, _⟩ | ⟨q, _⟩ | ⟨q, _⟩
            · omega
            · omega
            · exact key.2 ⟨i, h, q⟩
            all_goals omega
        · rw [if_neg k2]
          by_cases k3 : kd t = 3
          · rw [if_pos k3, List.any_eq_true]
            constructor
            · rintro ⟨x, hx, h⟩
              obtain ⟨i, a, b⟩ := (ends_tells word n x o ho j).1 h
              exact ⟨i, a, ho i a, .inr (.inr (.inr (.inl ⟨k3, x, hx, b⟩)))⟩
            · rintro ⟨i, h, _, q⟩
              rcases q with ⟨q, _⟩ | ⟨q, _⟩ | ⟨q, _⟩ | ⟨_, x, hx, q⟩ | ⟨q, _⟩ | ⟨q, _⟩
              · omega
              · omega
              · omega
              · exact ⟨x, hx, (ends_tells word n x o ho j).2 ⟨i, h, q⟩⟩
              all_goals omega
          · rw [if_neg k3]
            by_cases k4 : kd t = 4
            · rw [if_pos k4]
              cases hh : (ks t).head? with
              | none =>
                constructor
                · intro h; cases h
                · rintro ⟨i, h, _, q⟩
                  rcases q with ⟨q, _⟩ | ⟨q, _⟩ | ⟨q, _⟩ | ⟨q, _⟩ | ⟨_, x, hx, q⟩ | ⟨q, _⟩
                  · omega
                  · omega
                  · omega
                  · omega
                  · rw [hh] at hx; cases hx
                  · omega
              | some x =>
                have key := iter_tells (mt_up word n x) (ends_tells word n x) (word.length + 1) o ho j
                show iterE (fun o => endsE word n x o) (word.length + 1) o j = true ↔ _
                constructor
                · intro h
                  obtain ⟨i, a, p, _, b⟩ := key.1 h
                  exact ⟨i, a, ho i a, .inr (.inr (.inr (.inr (.inl ⟨k4, x, hh, p, b⟩))))⟩
                · rintro ⟨i, h, hi, q⟩
                  rcases q with ⟨q, _⟩ | ⟨q, _⟩ | ⟨q, _⟩ | ⟨q, _⟩ | ⟨_, y, hy, m, q⟩ | ⟨q, _⟩
                  · omega
                  · omega
                  · omega
                  · omega
                  · rw [hh] at hy
                    cases hy
                    have up := tm_up (mt_up word n x) m i j hi q
                    obtain ⟨p, hp, ht⟩ := tm_short (mt_up word n x) m i j hi q
                    exact key.2 ⟨i, h, p, by omega, ht⟩
                  · omega
            · rw [if_neg k4]
              by_cases k5 : kd t = 5
              · rw [if_pos k5]
                cases hh : (ks t).head? with
                | none =>
                  constructor
                  · intro h; cases h
                  · rintro ⟨i, h, _, q⟩
                    rcases q with ⟨q, _⟩ | ⟨q, _⟩ | ⟨q, _⟩ | ⟨q, _⟩ | ⟨q, _⟩ | ⟨_, x, hx, q⟩
                    · omega
                    · omega
                    · omega
                    · omega
                    · omega
                    · rw [hh] at hx; cases hx
                | some x =>
                  show (o j || endsE word n x o j) = true ↔ _
                  rw [Bool.or_eq_true, ends_tells word n x o ho j]
                  constructor
                  · rintro (h | ⟨i, a, b⟩)
                    · exact ⟨j, h, ho j h, .inr (.inr (.inr (.inr (.inr ⟨k5, x, hh, .inl rfl⟩))))⟩
                    · exact ⟨i, a, ho i a, .inr (.inr (.inr (.inr (.inr ⟨k5, x, hh, .inr b⟩))))⟩
                  · rintro ⟨i, h, _, q⟩
                    rcases q with ⟨q, _⟩ | ⟨q, _⟩ | ⟨q, _⟩ | ⟨q, _⟩ | ⟨q, _⟩ | ⟨_, y, hy, q⟩
                    · omega
                    · omega
                    · omega
                    · omega
                    · omega
                    · rw [hh] at hy
                      cases hy
                      rcases q with rfl | q
                      · exact .inl h
                      · exact .inr ⟨i, h, q⟩
              · rw [if_neg k5]
                constructor
                · intro h; cases h
                · rintro ⟨i, h, _, q⟩
                  rcases q with ⟨q, _⟩ | ⟨q, _⟩ | ⟨q, _⟩ | ⟨q, _⟩ | ⟨q, _⟩ | ⟨q, _⟩ <;> omega
/-- Has it a word? -/
def hasE (n : Nat) (t : Ex n) (word : List Int) : Bool := endsE word n t (fun i => decide (i = 0)) word.length
theorem has_iff (n : Nat) (t : Ex n) (word : List Int) : hasE n t word = true ↔ Mt word n t 0 word.length := by
  unfold hasE
  rw [ends_tells word n t _ (fun i h => by have := of_decide_eq_true h; omega)]
  constructor
  · rintro ⟨i, h, m⟩
    obtain rfl := of_decide_eq_true h
    exact m
  · intro m
    exact ⟨0, decide_eq_true rfl, m⟩

end Go.Proofs.YtbbfjjjnifomgaaGreatDoor.A



/- What words begin with: plain mathematics. -/
namespace Go.Proofs.YtbbfjjjnifomgaaGreatDoor.A

/-- Has it the empty word? -/
def emptyE : (n : Nat) → Ex n → Bool
  | 0, _ => false
  | n + 1, t =>
    if kd t = 0 then true else if kd t = 1 then false else if kd t = 2 then (ks t).all (fun x => emptyE n x) else if kd t = 3 then (ks t).any (fun x => emptyE n x)
    else if kd t = 4 ∨ kd t = 5 then (ks t).head?.isSome else false
end Go.Proofs.YtbbfjjjnifomgaaGreatDoor.A



/- What turning leaves as it is; what is alike: plain mathematics. -/
namespace Go.Proofs.YtbbfjjjnifomgaaGreatDoor.A

theorem fold_max_le {α : Type} (f : α → Nat) (B : Nat) : ∀ (l : List α) (a : Nat), l.foldl (fun a x => max a (f x)) a ≤ B ↔ a ≤ B ∧ ∀ x ∈ l, f x ≤ B
  | [], a => by simp
  | x :: r, a => by
    show r.foldl _ (max a (f x)) ≤ B ↔ _
    rw [fold_max_le f B r, Nat.max_le]
    simp only [List.mem_cons, forall_eq_or_imp]
    exact and_assoc
/-- How many nodes there are. -/
def realN : (n : Nat) → Ex n → Nat
  | 0, _ => 0
  | n + 1, t => 1 + ((ks t).map (fun x => realN n x)).sum
theorem fold_real {α : Type} (f g : α → Nat) (h : ∀ x, (g x ≤ 100 → f x = g x) ∧ (100 < g x → 100 < f x)) : ∀ (l : List α) (a : Nat),
    (a + (l.map g).sum ≤ 100 → l.foldl (fun a x => if a < 101 then a + f x else a) a = a + (l.map g).sum) ∧ (100 < a + (l.map g).sum → 100 < l.foldl (fun a x => if a < 101 then a + f x else a) a)
  | [], a => by simp
  | x :: r, a => by
    have hx := h x
    have e : (x :: r).foldl (fun a x => if a < 101 then a + f x else a) a = r.foldl (fun a x => if a < 101 then a + f x else a) (if a < 101 then a + f x else a) := rfl
    rw [e, List.map_cons, List.sum_cons]
    by_cases q : a < 101
    · rw [if_pos q]
      have ih := fold_real f g h r (a + f x)
      by_cases g1 : g x ≤ 100
      · rw [hx.1 g1] at ih ⊢
        rw [← Nat.add_assoc]
        exact ih
      · have := hx.2 (by omega)
        have e2 := fold_full f r (a + f x) (by omega)
        rw [e2]
        constructor <;> intro _ <;> omega
    · rw [if_neg q, fold_full f r a q]
      constructor <;> intro _ <;> omega
theorem nodes_real : ∀ (n : Nat) (t : Ex n), (realN n t ≤ 100 → nodesE n t = realN n t) ∧ (100 < realN n t → 100 < nodesE n t)
  | 0, _ => ⟨fun _ => rfl, fun h => by have : (100 : Nat) < 0 := h; omega⟩
  | n + 1, t => fold_real (fun x => nodesE n x) (fun x => realN n x) (fun x => nodes_real n x) (ks t) 1
/-- May it be? -/
def rightE (n : Nat) (t : Ex n) : Bool := decide (deepE n t 12 ≤ 12) && (decide (nodesE n t ≤ 100) && shapesE n t)
/-- Every part is an expression. -/
def full : (n : Nat) → Ex n → Prop
  | 0, _ => False
  | n + 1, t => ∀ x ∈ ks t, full n x
theorem rx_full {w : World} : ∀ (n : Nat) (t : Ex n) (v : Value), Rx w n t v → full n t
  | 0, _, _, h => h
  | n + 1, t, _, ⟨a, len, cap, _, _, _, _, _, h6, h7⟩ => by
    intro x hx
    rcases h7 with h7 | ⟨b, off, _, h7⟩
    · subst h7
      rw [List.length_eq_zero_iff.1 h6] at hx
      cases hx
    · obtain ⟨i, hi⟩ := List.getElem?_of_mem hx
      obtain ⟨c0, c1, c2, _, _, _, p⟩ := h7 i x hi
      exact rx_full n x _ p
end Go.Proofs.YtbbfjjjnifomgaaGreatDoor.A



/- The document's Right, Same. -/
namespace Go.Proofs.YtbbfjjjnifomgaaGreatDoor.A
open Go.RowKit

theorem rx_form {w : World} {n : Nat} {t : Ex n} {v : Value} (h : Rx w n t v) : ∃ c0 c1 c2, v = .agg #[c0, c1, c2] := by
  cases n with
  | zero => exact h.elim
  | succ n => obtain ⟨a, len, cap, e, _⟩ := h; exact ⟨_, _, _, e⟩

end Go.Proofs.YtbbfjjjnifomgaaGreatDoor.A


