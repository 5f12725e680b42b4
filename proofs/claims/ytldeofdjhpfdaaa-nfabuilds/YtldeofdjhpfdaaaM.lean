/- The words of an expression: plain mathematics. -/
import Derived.Test.YtldeofdjhpfdaaaC
namespace Go.Proofs.Ytldeofdjhpfdaaa.A

/-- Is a number a category in a set? -/
def inS (s : Nat) (c : Int) : Bool := decide (0 ≤ c) && (decide (c < 16) && (s / 2 ^ c.toNat % 2 == 1))
/-- One behind the other. -/
def Ch : List (Nat → Nat → Prop) → Nat → Nat → Prop
  | [], i, j => i = j
  | R :: r, i, j => ∃ k, R i k ∧ Ch r k j
/-- So many times. -/
def Tm (R : Nat → Nat → Prop) : Nat → Nat → Nat → Prop
  | 0, i, j => i = j
  | m + 1, i, j => ∃ k, R i k ∧ Tm R m k j
/-- A word of an expression lies from one place of a word to another. -/
def Mt (word : List Int) : (n : Nat) → Ex n → Nat → Nat → Prop
  | 0, _, _, _ => False
  | n + 1, t, i, j => i ≤ word.length ∧ (
      (kd t = 0 ∧ i = j) ∨ (kd t = 1 ∧ j = i + 1 ∧ ∃ c, word[i]? = some c ∧ inS (st t) c = true) ∨
      (kd t = 2 ∧ Ch ((ks t).map (fun x => Mt word n x)) i j) ∨ (kd t = 3 ∧ ∃ x ∈ ks t, Mt word n x i j) ∨
      (kd t = 4 ∧ ∃ x ∈ (ks t).head?, ∃ m, Tm (Mt word n x) m i j) ∨ (kd t = 5 ∧ ∃ x ∈ (ks t).head?, i = j ∨ Mt word n x i j))

/-- Places rise, and stay in the word. -/
def Up (L : Nat) (R : Nat → Nat → Prop) : Prop := ∀ i j, R i j → i ≤ j ∧ j ≤ L
theorem ch_up {L : Nat} : ∀ (l : List (Nat → Nat → Prop)) (_ : ∀ R ∈ l, Up L R) (i j : Nat), i ≤ L → Ch l i j → i ≤ j ∧ j ≤ L
  | [], _, i, j, hi, h => by cases h; exact ⟨Nat.le_refl _, hi⟩
  | R :: r, hl, i, j, _, ⟨k, h1, h2⟩ => by
    have a := hl R (by simp) i k h1
    have b := ch_up r (fun R' h => hl R' (by simp [h])) k j a.2 h2
    omega
theorem tm_up {L : Nat} {R : Nat → Nat → Prop} (h : Up L R) : ∀ (m i j : Nat), i ≤ L → Tm R m i j → i ≤ j ∧ j ≤ L
  | 0, i, j, hi, e => by cases e; exact ⟨Nat.le_refl _, hi⟩
  | m + 1, i, j, _, ⟨k, h1, h2⟩ => by
    have a := h i k h1
    have b := tm_up h m k j a.2 h2
    omega
theorem mt_up (word : List Int) : ∀ (n : Nat) (t : Ex n), Up word.length (Mt word n t)
  | 0, _ => fun _ _ h => h.elim
  | n + 1, t => by
    rintro i j ⟨hi, h⟩
    rcases h with ⟨_, rfl⟩ | ⟨_, rfl, c, hc, _⟩ | ⟨_, h⟩ | ⟨_, x, _, h⟩ | ⟨_, x, _, m, h⟩ | ⟨_, x, _, h⟩
    · exact ⟨Nat.le_refl _, hi⟩
    · have := (List.getElem?_eq_some_iff.1 hc).1; omega
    · refine ch_up _ (fun R hR => ?_) i j hi h
      obtain ⟨x, _, rfl⟩ := List.mem_map.1 hR
      exact mt_up word n x
    · exact mt_up word n x i j h
    · exact tm_up (mt_up word n x) m i j hi h
    · rcases h with rfl | h
      · exact ⟨Nat.le_refl _, hi⟩
      · exact mt_up word n x i j h
/-- A way has no need of steps that stand still. -/
theorem tm_short {L : Nat} {R : Nat → Nat → Prop} (hR : Up L R) : ∀ (m i j : Nat), i ≤ L → Tm R m i j → ∃ p, p ≤ j - i ∧ Tm R p i j
  | 0, i, j, _, e => ⟨0, Nat.zero_le _, e⟩
  | m + 1, i, j, _, ⟨k, h1, h2⟩ => by
    have a := hR i k h1
    obtain ⟨p, hp, ht⟩ := tm_short hR m k j a.2 h2
    have b := tm_up hR p k j a.2 ht
    by_cases e : i = k
    · subst e; exact ⟨p, hp, ht⟩
    · exact ⟨p + 1, by omega, k, h1, ht⟩

/-- One round more of a star. -/
def stepE (f : (Nat → Bool) → Nat → Bool) (o : Nat → Bool) (j : Nat) : Bool := o j || f o j
def iterE (f : (Nat → Bool) → Nat → Bool) : Nat → (Nat → Bool) → Nat → Bool
  | 0, o => o
  | m + 1, o => iterE f m (stepE f o)
/-- At which places a word of the expression may end, that begins at one of those told. -/
def endsE (word : List Int) : (n : Nat) → Ex n → (Nat → Bool) → Nat → Bool
  | 0, _, _, _ => false
  | n + 1, t, o, j =>
    if kd t = 0 then o j
    else if kd t = 1 then decide (0 < j) && (o (j - 1) && (match word[j - 1]? with | some c => inS (st t) c | none => false))
    else if kd t = 2 then (ks t).foldl (fun o x => endsE word n x o) o j
    else if kd t = 3 then (ks t).any (fun x => endsE word n x o j)
    else if kd t = 4 then (match (ks t).head? with | some x => iterE (fun o => endsE word n x o) (word.length + 1) o j | none => false)
    else if kd t = 5 then (match (ks t).head? with | some x => stepE (fun o => endsE word n x o) o j | none => false)
    else false
/-- It tells just the places that words lead to. -/
def Tells (L : Nat) (R : Nat → Nat → Prop) (f : (Nat → Bool) → Nat → Bool) : Prop := ∀ o : Nat → Bool, (∀ i, o i = true → i ≤ L) → ∀ j, f o j = true ↔ ∃ i, o i = true ∧ R i j
theorem tells_in {L : Nat} {R : Nat → Nat → Prop} {f : (Nat → Bool) → Nat → Bool} (hR : Up L R) (hf : Tells L R f) {o : Nat → Bool} (ho : ∀ i, o i = true → i ≤ L) : ∀ i, f o i = true → i ≤ L := fun j h => by
  obtain ⟨i, _, h2⟩ := (hf o ho j).1 h
  exact (hR i j h2).2
theorem ch_tells {α : Type} {L : Nat} (R : α → Nat → Nat → Prop) (f : α → (Nat → Bool) → Nat → Bool) (hR : ∀ x, Up L (R x)) (hf : ∀ x, Tells L (R x) (f x)) : ∀ (l : List α), Tells L (Ch (l.map R)) (fun o => l.foldl (fun o x => f x o) o)
  | [] => fun o _ j => ⟨fun h => ⟨j, h, rfl⟩, fun ⟨i, h, e⟩ => by cases e; exact h⟩
  | x :: r => fun o ho j => by
    have ih := ch_tells R f hR hf r (f x o) (tells_in (hR x) (hf x) ho) j
    show (r.foldl (fun o x => f x o) (f x o)) j = true ↔ _
    rw [ih]
    constructor
    · rintro ⟨k, h1, h2⟩
      obtain ⟨i, a, b⟩ := (hf x o ho k).1 h1
      exact ⟨i, a, k, b, h2⟩
    · rintro ⟨i, a, k, b, h2⟩
      exact ⟨k, (hf x o ho k).2 ⟨i, a, b⟩, h2⟩
theorem step_in {L : Nat} {R : Nat → Nat → Prop} {f : (Nat → Bool) → Nat → Bool} (hR : Up L R) (hf : Tells L R f) {o : Nat → Bool} (ho : ∀ i, o i = true → i ≤ L) : ∀ i, stepE f o i = true → i ≤ L := fun i h => by
  unfold stepE at h
  rw [Bool.or_eq_true] at h
  rcases h with h | h
  · exact ho i h
  · exact tells_in hR hf ho i h
theorem iter_tells {L : Nat} {R : Nat → Nat → Prop} {f : (Nat → Bool) → Nat → Bool} (hR : Up L R) (hf : Tells L R f) : ∀ (m : Nat) (o : Nat → Bool), (∀ i, o i = true → i ≤ L) → ∀ j, iterE f m o j = true ↔ ∃ i, o i = true ∧ ∃ p, p ≤ m ∧ Tm R p i j
  | 0, o, _, j => ⟨fun h => ⟨j, h, 0, Nat.le_refl _, rfl⟩, fun ⟨i, h, p, hp, ht⟩ => by
      obtain rfl : p = 0 := by omega
      cases ht; exact h⟩
  | m + 1, o, ho, j => by
    show iterE f m (stepE f o) j = true ↔ _
    rw [iter_tells hR hf m (stepE f o) (step_in hR hf ho) j]
    constructor
    · rintro ⟨k, h, p, hp, ht⟩
      unfold stepE at h
      rw [Bool.or_eq_true] at h
      rcases h with h | h
      · exact ⟨k, h, p, by omega, ht⟩
      · obtain ⟨i, a, b⟩ := (hf o ho k).1 h
        exact ⟨i, a, p + 1, by omega, k, b, ht⟩
    · rintro ⟨i, h, p, hp, ht⟩
      cases p with
      | zero => exact ⟨i, by unfold stepE; rw [h]; rfl, 0, Nat.zero_le _, ht⟩
      | succ p =>
        obtain ⟨k, b, ht⟩ := ht
        exact ⟨k, by unfold stepE; rw [Bool.or_eq_true]; exact .inr ((hf o ho k).2 ⟨i, h, b⟩), p, by omega, ht⟩
theorem ends_tells (word : List Int) : ∀ (n : Nat) (t : Ex n), Tells word.length (Mt word n t) (endsE word n t)
  | 0, _ => fun _ _ _ => ⟨(fun h => by cases h), fun ⟨_, _, h⟩ => h.elim⟩
  | n + 1, t => by
    intro o ho j
    unfold endsE
    by_cases k0 : kd t = 0
    · rw [if_pos k0]
      constructor
      · intro h; exact ⟨j, h, ho j h, .inl ⟨k0, rfl⟩⟩
      · rintro ⟨i, h, _, q⟩
        rcases q with ⟨_, rfl⟩ | ⟨q, _⟩ | ⟨q, _⟩ | ⟨q, _⟩ | ⟨q, _⟩ | ⟨q, _⟩
        · exact h
        all_goals omega
    · rw [if_neg k0]
      by_cases k1 : kd t = 1
      · rw [if_pos k1]
        constructor
        · intro h
          simp only [Bool.and_eq_true, decide_eq_true_eq] at h
          obtain ⟨h1, h2, h3⟩ := h
          cases hc : word[j - 1]? with
          | none => rw [hc] at h3; cases h3
          | some c => rw [hc] at h3; exact ⟨j - 1, h2, ho _ h2, .inr (.inl ⟨k1, by omega, c, hc, h3⟩)⟩
        · rintro ⟨i, h, _, q⟩
          rcases q with ⟨q, _⟩ | ⟨_, rfl, c, hc, hs⟩ | ⟨q, _⟩ | ⟨q, _⟩ | ⟨q, _⟩ | ⟨q, _⟩
          · omega
          · simp [h, hc, hs]
          all_goals omega
      · rw [if_neg k1]
        by_cases k2 : kd t = 2
        · rw [if_pos k2]
          have key := ch_tells (fun x => Mt word n x) (fun x => endsE word n x) (fun x => mt_up word n x) (fun x => ends_tells word n x) (ks t) o ho j
          constructor
          · intro h
            obtain ⟨i, a, b⟩ := key.1 h
            exact ⟨i, a, ho i a, .inr (.inr (.inl ⟨k2, b⟩))⟩
          · rintro ⟨i, h, _, q⟩
            rcases q with ⟨q, _⟩ | ⟨q, _⟩ | ⟨_, q⟩ | ⟨q, _⟩ | ⟨q, _⟩ | ⟨q, _⟩
            · omega
            · omega
            · exact key.2 ⟨i, h, q⟩
            all_goals omega
        · rw [if_neg k2]
          by_cases k3 : kd t = 3
          · rw [if_pos k3, List.any_eq_true]
            constructor
            · rintro ⟨x, hx, h⟩
              obtain ⟨i, a, b⟩ := (ends_tells word n x o ho j).1 h
              exact ⟨i, a, ho i a, .inr (.inr (.inr (.inl ⟨k3, x, hx, b⟩)))⟩
            · rintro ⟨i, h, _, q⟩
              rcases q with ⟨q, _⟩ | ⟨q, _⟩ | ⟨q, _⟩ | ⟨_, x, hx, q⟩ | ⟨q, _⟩ | ⟨q, _⟩
              · omega
              · omega
              · omega
              · exact ⟨x, hx, (ends_tells word n x o ho j).2 ⟨i, h, q⟩⟩
              all_goals omega
          · rw [if_neg k3]
            by_cases k4 : kd t = 4
            · rw [if_pos k4]
              cases hh : (ks t).head? with
              | none =>
                constructor
                · intro h; cases h
                · rintro ⟨i, h, _, q⟩
                  rcases q with ⟨q, _⟩ | ⟨q, _⟩ | ⟨q, _⟩ | ⟨q, _⟩ | ⟨_, x, hx, q⟩ | ⟨q, _⟩
                  · omega
                  · omega
                  · omega
                  · omega
                  · rw [hh] at hx; cases hx
                  · omega
              | some x =>
                have key := iter_tells (mt_up word n x) (ends_tells word n x) (word.length + 1) o ho j
                show iterE (fun o => endsE word n x o) (word.length + 1) o j = true ↔ _
                constructor
                · intro h
                  obtain ⟨i, a, p, _, b⟩ := key.1 h
                  exact ⟨i, a, ho i a, .inr (.inr (.inr (.inr (.inl ⟨k4, x, hh, p, b⟩))))⟩
                · rintro ⟨i, h, hi, q⟩
                  rcases q with ⟨q, _⟩ | ⟨q, _⟩ | ⟨q, _⟩ | ⟨q, _⟩ | ⟨_, y, hy, m, q⟩ | ⟨q, _⟩
                  · omega
                  · omega
                  · omega
                  · omega
                  · rw [hh] at hy
                    cases hy
                    have up := tm_up (mt_up word n x) m i j hi q
                    obtain ⟨p, hp, ht⟩ := tm_short (mt_up word n x) m i j hi q
                    exact key.2 ⟨i, h, p, by omega, ht⟩
                  · omega
            · rw [if_neg k4]
              by_cases k5 : kd t = 5
              · rw [if_pos k5]
                cases hh : (ks t).head? with
                | none =>
                  constructor
                  · intro h; cases h
                  · rintro ⟨i, h, _, q⟩
                    rcases q with ⟨q, _⟩ | ⟨q, _⟩ | ⟨q, _⟩ | ⟨q, _⟩ | ⟨q, _⟩ | ⟨_, x, hx, q⟩
                    · omega
                    · omega
                    · omega
                    · omega
                    · omega
                    · rw [hh] at hx; cases hx
                | some x =>
                  show (o j || endsE word n x o j) = true ↔ _
                  rw [Bool.or_eq_true, ends_tells word n x o ho j]
                  constructor
                  · rintro (h | ⟨i, a, b⟩)
                    · exact ⟨j, h, ho j h, .inr (.inr (.inr (.inr (.inr ⟨k5, x, hh, .inl rfl⟩))))⟩
                    · exact ⟨i, a, ho i a, .inr (.inr (.inr (.inr (.inr ⟨k5, x, hh, .inr b⟩))))⟩
                  · rintro ⟨i, h, _, q⟩
                    rcases q with ⟨q, _⟩ | ⟨q, _⟩ | ⟨q, _⟩ | ⟨q, _⟩ | ⟨q, _⟩ | ⟨_, y, hy, q⟩
                    · omega
                    · omega
                    · omega
                    · omega
                    · omega
                    · rw [hh] at hy
                      cases hy
                      rcases q with rfl | q
                      · exact .inl h
                      · exact .inr ⟨i, h, q⟩
              · rw [if_neg k5]
                constructor
                · intro h; cases h
                · rintro ⟨i, h, _, q⟩
                  rcases q with ⟨q, _⟩ | ⟨q, _⟩ | ⟨q, _⟩ | ⟨q, _⟩ | ⟨q, _⟩ | ⟨q, _⟩ <;> omega
/-- Has it a word? -/
def hasE (n : Nat) (t : Ex n) (word : List Int) : Bool := endsE word n t (fun i => decide (i = 0)) word.length
theorem has_iff (n : Nat) (t : Ex n) (word : List Int) : hasE n t word = true ↔ Mt word n t 0 word.length := by
  unfold hasE
  rw [ends_tells word n t _ (fun i h => by have := of_decide_eq_true h; omega)]
  constructor
  · rintro ⟨i, h, m⟩
    obtain rfl := of_decide_eq_true h
    exact m
  · intro m
    exact ⟨0, decide_eq_true rfl, m⟩

/-- The other way round. -/
def turnE : (n : Nat) → Ex n → Ex n
  | 0, _ => ()
  | n + 1, t => (kd t, st t, if kd t = 2 then ((ks t).map (fun x => turnE n x)).reverse else (ks t).map (fun x => turnE n x))
theorem kd_turn {n : Nat} (t : Ex (n + 1)) : kd (turnE (n + 1) t) = kd t := rfl
theorem st_turn {n : Nat} (t : Ex (n + 1)) : st (turnE (n + 1) t) = st t := rfl
theorem ks_turn {n : Nat} (t : Ex (n + 1)) : ks (turnE (n + 1) t) = if kd t = 2 then ((ks t).map (fun x => turnE n x)).reverse else (ks t).map (fun x => turnE n x) := rfl
theorem turn_turn : ∀ (n : Nat) (t : Ex n), turnE n (turnE n t) = t
  | 0, _ => rfl
  | n + 1, t => by
    have ih : ∀ l : List (Ex n), (l.map (fun x => turnE n x)).map (fun x => turnE n x) = l := fun l => by
      rw [List.map_map]
      conv => rhs; rw [← List.map_id l]
      exact List.map_congr_left fun x _ => turn_turn n x
    show (kd t, st t, if kd t = 2 then _ else _) = t
    by_cases k2 : kd t = 2
    · rw [if_pos k2, ks_turn, if_pos k2, List.map_reverse, List.reverse_reverse, ih]; rfl
    · rw [if_neg k2, ks_turn, if_neg k2, ih]; rfl
/-- Two relations are each other's, from behind. -/
def Rev (L : Nat) (R S : Nat → Nat → Prop) : Prop := ∀ i j, i ≤ L → j ≤ L → (R i j ↔ S (L - j) (L - i))
theorem ch_app (a b : List (Nat → Nat → Prop)) : ∀ (i j : Nat), Ch (a ++ b) i j ↔ ∃ k, Ch a i k ∧ Ch b k j := by
  induction a with
  | nil => intro i j; exact ⟨fun h => ⟨i, rfl, h⟩, fun ⟨k, e, h⟩ => by cases e; exact h⟩
  | cons R r ih =>
    intro i j
    constructor
    · rintro ⟨k, h1, h2⟩
      obtain ⟨k2, a1, a2⟩ := (ih k j).1 h2
      exact ⟨k2, ⟨k, h1, a1⟩, a2⟩
    · rintro ⟨k2, ⟨k, h1, a1⟩, a2⟩
      exact ⟨k, h1, (ih k j).2 ⟨k2, a1, a2⟩⟩
theorem ch_rev {α : Type} {L : Nat} (R S : α → Nat → Nat → Prop) (hR : ∀ x, Up L (R x)) (hS : ∀ x, Up L (S x)) (h : ∀ x, Rev L (R x) (S x)) : ∀ (l : List α), Rev L (Ch (l.map R)) (Ch (l.map S).reverse)
  | [] => fun i j hi hj => ⟨fun e => by cases e; rfl, fun e => by have e' : L - j = L - i := e; show i = j; omega⟩
  | x :: r => fun i j hi hj => by
    have ih := ch_rev R S hR hS h r
    have e1 : ((x :: r).map S).reverse = (r.map S).reverse ++ [S x] := by simp
    rw [e1, ch_app]
    constructor
    · rintro ⟨k, h1, h2⟩
      have hk := (hR x i k h1).2
      exact ⟨L - k, (ih k j hk hj).1 h2, L - i, (h x i k hi hk).1 h1, rfl⟩
    · rintro ⟨k, h1, k2, h2, e⟩
      cases e
      have hk := hS x k (L - i) h2
      refine ⟨L - k, ?_, ?_⟩
      · rw [h x i (L - k) hi (by omega)]
        rw [show L - (L - k) = k by omega]; exact h2
      · rw [ih (L - k) j (by omega) hj]
        rw [show L - (L - k) = k by omega]; exact h1
theorem tm_app {R : Nat → Nat → Prop} : ∀ (m i j k : Nat), Tm R m i j → R j k → Tm R (m + 1) i k
  | 0, i, j, k, e, h => by cases e; exact ⟨k, h, rfl⟩
  | m + 1, i, j, k, ⟨x, h1, h2⟩, h => ⟨x, h1, tm_app m x j k h2 h⟩
theorem tm_rev {L : Nat} {R S : Nat → Nat → Prop} (hR : Up L R) (h : Rev L R S) : ∀ (m i j : Nat), i ≤ L → j ≤ L → Tm R m i j → Tm S m (L - j) (L - i)
  | 0, i, j, _, _, e => by cases e; rfl
  | m + 1, i, j, hi, hj, ⟨k, h1, h2⟩ => by
    have hk := (hR i k h1).2
    exact tm_app m _ _ _ (tm_rev hR h m k j hk hj h2) ((h i k hi hk).1 h1)
theorem rev_symm {L : Nat} {R S : Nat → Nat → Prop} (h : Rev L R S) : Rev L S R := fun i j hi hj => by
  have := h (L - j) (L - i) (by omega) (by omega)
  rw [show L - (L - j) = j by omega, show L - (L - i) = i by omega] at this
  exact this.symm
theorem mt_rev (word : List Int) : ∀ (n : Nat) (t : Ex n), Rev word.length (Mt word n t) (Mt word.reverse n (turnE n t))
  | 0, _ => fun _ _ _ _ => Iff.rfl
  | n + 1, t => by
    intro i j hi hj
    have ih := fun x => mt_rev word n x
    have hl : word.reverse.length = word.length := by simp
    have upS := fun x : Ex n => hl ▸ mt_up word.reverse n (turnE n x)
    have hd : kd t ≠ 2 → (ks (turnE (n + 1) t)).head? = (ks t).head?.map (fun x => turnE n x) := fun k => by rw [ks_turn, if_neg k]; simp
    show (i ≤ word.length ∧ _) ↔ (word.length - j ≤ word.reverse.length ∧ _)
    rw [kd_turn, st_turn, hl]
    constructor
    · rintro ⟨_, q⟩
      refine ⟨by omega, ?_⟩
      rcases q with ⟨k, rfl⟩ | ⟨k, rfl, c, hc, hs⟩ | ⟨k, q⟩ | ⟨k, x, hx, q⟩ | ⟨k, x, hx, m, q⟩ | ⟨k, x, hx, q⟩
      · exact .inl ⟨k, rfl⟩
      · have hlt := (List.getElem?_eq_some_iff.1 hc).1
        refine .inr (.inl ⟨k, by omega, c, ?_, hs⟩)
        rw [List.getElem?_reverse (by omega), ← hc]
        congr 1; omega
      · refine .inr (.inr (.inl ⟨k, ?_⟩))
        have := (ch_rev (fun x => Mt word n x) (fun x => Mt word.reverse n (turnE n x)) (fun x => mt_up word n x) upS ih (ks t) i j hi hj).1 q
        rw [ks_turn, if_pos k, List.map_reverse, List.map_map]
        exact this
      · refine .inr (.inr (.inr (.inl ⟨k, turnE n x, ?_, (ih x i j hi hj).1 q⟩)))
        rw [ks_turn, if_neg (by omega)]; exact List.mem_map.2 ⟨x, hx, rfl⟩
      · refine .inr (.inr (.inr (.inr (.inl ⟨k, turnE n x, ?_, m, tm_rev (mt_up word n x) (ih x) m i j hi hj q⟩))))
        rw [hd (by omega), hx]; rfl
      · refine .inr (.inr (.inr (.inr (.inr ⟨k, turnE n x, by rw [hd (by omega), hx]; rfl, ?_⟩))))
        rcases q with rfl | q
        · exact .inl rfl
        · exact .inr ((ih x i j hi hj).1 q)
    · rintro ⟨_, q⟩
      refine ⟨hi, ?_⟩
      rcases q with ⟨k, e⟩ | ⟨k, e, c, hc, hs⟩ | ⟨k, q⟩ | ⟨k, y, hy, q⟩ | ⟨k, y, hy, m, q⟩ | ⟨k, y, hy, q⟩
      · exact .inl ⟨k, by omega⟩
      · have hlt := (List.getElem?_eq_some_iff.1 hc).1
        rw [hl] at hlt
        refine .inr (.inl ⟨k, by omega, c, ?_, hs⟩)
        rw [List.getElem?_reverse (by omega)] at hc
        rw [← hc]
        congr 1; omega
      · refine .inr (.inr (.inl ⟨k, ?_⟩))
        rw [ks_turn, if_pos k, List.map_reverse, List.map_map] at q
        exact (ch_rev (fun x => Mt word n x) (fun x => Mt word.reverse n (turnE n x)) (fun x => mt_up word n x) upS ih (ks t) i j hi hj).2 q
      · rw [ks_turn, if_neg (by omega)] at hy
        obtain ⟨x, hx, rfl⟩ := List.mem_map.1 hy
        exact .inr (.inr (.inr (.inl ⟨k, x, hx, (ih x i j hi hj).2 q⟩)))
      · rw [hd (by omega)] at hy
        obtain ⟨x, hx, rfl⟩ := Option.map_eq_some_iff.1 hy
        refine .inr (.inr (.inr (.inr (.inl ⟨k, x, hx, m, ?_⟩))))
        have := tm_rev (upS x) (rev_symm (ih x)) m _ _ (by omega) (by omega) q
        rw [show word.length - (word.length - i) = i by omega, show word.length - (word.length - j) = j by omega] at this
        exact this
      · rw [hd (by omega)] at hy
        obtain ⟨x, hx, rfl⟩ := Option.map_eq_some_iff.1 hy
        refine .inr (.inr (.inr (.inr (.inr ⟨k, x, hx, ?_⟩))))
        rcases q with e | q
        · exact .inl (by omega)
        · exact .inr ((ih x i j hi hj).2 q)
/-- The words of the turned one are those of the expression, from behind. -/
theorem has_turn (n : Nat) (t : Ex n) (word : List Int) : hasE n (turnE n t) word.reverse = hasE n t word := by
  rw [Bool.eq_iff_iff, has_iff, has_iff, List.length_reverse]
  have := mt_rev word n t 0 word.length (by omega) (by omega)
  rw [Nat.sub_self, Nat.sub_zero] at this
  exact this.symm
end Go.Proofs.Ytldeofdjhpfdaaa.A
