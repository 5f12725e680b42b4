/- The words of an expression: plain mathematics. -/
import Derived.Test.YtccaknabpnpjaaaGreatDoorPk1
namespace Go.Proofs.YtccaknabpnpjaaaGreatDoor.A

/-- Is a number a category in a set? -/
def inS (s : Nat) (c : Int) : Bool := decide (0 ≤ c) && (decide (c < 16) && (s / 2 ^ c.toNat % 2 == 1))
/-- One behind the other. -/
def Ch : List (Nat → Nat → Prop) → Nat → Nat → Prop
  | [], i, j => i = j
  | R :: r, i, j => ∃ k, R i k ∧ Ch r k j
/-- So many times. -/
def Tm (R : Nat → Nat → Prop) : Nat → Nat → Nat → Prop
  | 0, i, j => i = j
  | m + 1, i, j => ∃ k, R i k ∧ Tm R m k j
/-- A word of an expression lies from one place of a word to another. -/
def Mt (word : List Int) : (n : Nat) → Ex n → Nat → Nat → Prop
  | 0, _, _, _ => False
  | n + 1, t, i, j => i ≤ word.length ∧ (
      (kd t = 0 ∧ i = j) ∨ (kd t = 1 ∧ j = i + 1 ∧ ∃ c, word[i]? = some c ∧ inS (st t) c = true) ∨
      (kd t = 2 ∧ Ch ((ks t).map (fun x => Mt word n x)) i j) ∨ (kd t = 3 ∧ ∃ x ∈ ks t, Mt word n x i j) ∨
      (kd t = 4 ∧ ∃ x ∈ (ks t).head?, ∃ m, Tm (Mt word n x) m i j) ∨ (kd t = 5 ∧ ∃ x ∈ (ks t).head?, i = j ∨ Mt word n x i j))

/-- Places rise, and stay in the word. -/
def Up (L : Nat) (R : Nat → Nat → Prop) : Prop := ∀ i j, R i j → i ≤ j ∧ j ≤ L
theorem ch_up {L : Nat} : ∀ (l : List (Nat → Nat → Prop)) (_ : ∀ R ∈ l, Up L R) (i j : Nat), i ≤ L → Ch l i j → i ≤ j ∧ j ≤ L
  | [], _, i, j, hi, h => by cases h; exact ⟨Nat.le_refl _, hi⟩
  | R :: r, hl, i, j, _, ⟨k, h1, h2⟩ => by
    have a := hl R (by simp) i k h1
    have b := ch_up r (fun R' h => hl R' (by simp [h])) k j a.2 h2
    omega
theorem tm_up {L : Nat} {R : Nat → Nat → Prop} (h : Up L R) : ∀ (m i j : Nat), i ≤ L → Tm R m i j → i ≤ j ∧ j ≤ L
  | 0, i, j, hi, e => by cases e; exact ⟨Nat.le_refl _, hi⟩
  | m + 1, i, j, _, ⟨k, h1, h2⟩ => by
    have a := h i k h1
    have b := tm_up h m k j a.2 h2
    omega
theorem mt_up (word : List Int) : ∀ (n : Nat) (t : Ex n), Up word.length (Mt word n t)
  | 0, _ => fun _ _ h => h.elim
  | n + 1, t => by
    rintro i j ⟨hi, h⟩
    rcases h with ⟨_, rfl⟩ | ⟨_, rfl, c, hc, _⟩ | ⟨_, h⟩ | ⟨_, x, _, h⟩ | ⟨_, x, _, m, h⟩ | ⟨_, x, _, h⟩
    · exact ⟨Nat.le_refl _, hi⟩
    · have := (List.getElem?_eq_some_iff.1 hc).1; omega
    · refine ch_up _ (fun R hR => ?_) i j hi h
      obtain ⟨x, _, rfl⟩ := List.mem_map.1 hR
      exact mt_up word n x
    · exact mt_up word n x i j h
    · exact tm_up (mt_up word n x) m i j hi h
    · rcases h with rfl | h
      · exact ⟨Nat.le_refl _, hi⟩
      · exact mt_up word n x i j h
/-- A way has no need of steps that stand still. -/
theorem tm_short {L : Nat} {R : Nat → Nat → Prop} (hR : Up L R) : ∀ (m i j : Nat), i ≤ L → Tm R m i j → ∃ p, p ≤ j - i ∧ Tm R p i j
  | 0, i, j, _, e => ⟨0, Nat.zero_le _, e⟩
  | m + 1, i, j, _, ⟨k, h1, h2⟩ => by
    have a := hR i k h1
    obtain ⟨p, hp, ht⟩ := tm_short hR m k j a.2 h2
    have b := tm_up hR p k j a.2 ht
    by_cases e : i = k
    · subst e; exact ⟨p, hp, ht⟩
    · exact ⟨p + 1, by omega, k, h1, ht⟩

/-- One round more of a star. -/
def stepE (f : (Nat → Bool) → Nat → Bool) (o : Nat → Bool) (j : Nat) : Bool := o j || f o j
def iterE (f : (Nat → Bool) → Nat → Bool) : Nat → (Nat → Bool) → Nat → Bool
  | 0, o => o
  | m + 1, o => iterE f m (stepE f o)
/-- At which places a word of the expression may end, that begins at one of those told. -/
def endsE (word : List Int) : (n : Nat) → Ex n → (Nat → Bool) → Nat → Bool
  | 0, _, _, _ => false
  | n + 1, t, o, j =>
    if kd t = 0 then o j
    else if kd t = 1 then decide (0 < j) && (o (j - 1) && (match word[j - 1]? with | some c => inS (st t) c | none => false))
    else if kd t = 2 then (ks t).foldl (fun o x => endsE word n x o) o j
    else if kd t = 3 then (ks t).any (fun x => endsE word n x o j)
    else if kd t = 4 then (match (ks t).head? with | some x => iterE (fun o => endsE word n x o) (word.length + 1) o j | none => false)
    else if kd t = 5 then (match (ks t).head? with | some x => stepE (fun o => endsE word n x o) o j | none => false)
    else false
/-- It tells just the places that words lead to. -/
def Tells (L : Nat) (R : Nat → Nat → Prop) (f : (Nat → Bool) → Nat → Bool) : Prop := ∀ o : Nat → Bool, (∀ i, o i = true → i ≤ L) → ∀ j, f o j = true ↔ ∃ i, o i = true ∧ R i j
theorem tells_in {L : Nat} {R : Nat → Nat → Prop} {f : (Nat → Bool) → Nat → Bool} (hR : Up L R) (hf : Tells L R f) {o : Nat → Bool} (ho : ∀ i, o i = true → i ≤ L) : ∀ i, f o i = true → i ≤ L := fun j h => by
  obtain ⟨i, _, h2⟩ := (hf o ho j).1 h
  exact (hR i j h2).2
theorem ch_tells {α : Type} {L : Nat} (R : α → Nat → Nat → Prop) (f : α → (Nat → Bool) → Nat → Bool) (hR : ∀ x, Up L (R x)) (hf : ∀ x, Tells L (R x) (f x)) : ∀ (l : List α), Tells L (Ch (l.map R)) (fun o => l.foldl (fun o x => f x o) o)
  | [] => fun o _ j => ⟨fun h => ⟨j, h, rfl⟩, fun ⟨i, h, e⟩ => by cases e; exact h⟩
  | x :: r => fun o ho j => by
    have ih := ch_tells R f hR hf r (f x o) (tells_in (hR x) (hf x) ho) j
    show (r.foldl (fun o x => f x o) (f x o)) j = true ↔ _
    rw [ih]
    constructor
    · rintro ⟨k, h1, h2⟩
      obtain ⟨i, a, b⟩ := (hf x o ho k).1 h1
      exact ⟨i, a, k, b, h2⟩
    · rintro ⟨i, a, k, b, h2⟩
      exact ⟨k, (hf x o ho k).2 ⟨i, a, b⟩, h2⟩
theorem step_in {L : Nat} {R : Nat → Nat → Prop} {f : (Nat → Bool) → Nat → Bool} (hR : Up L R) (hf : Tells L R f) {o : Nat → Bool} (ho : ∀ i, o i = true → i ≤ L) : ∀ i, stepE f o i = true → i ≤ L := fun i h => by
  unfold stepE at h
  rw [Bool.or_eq_true] at h
  rcases h with h | h
  · exact ho i h
  · exact tells_in hR hf ho i h
theorem iter_tells {L : Nat} {R : Nat → Nat → Prop} {f : (Nat → Bool) → Nat → Bool} (hR : Up L R) (hf : Tells L R f) : ∀ (m : Nat) (o : Nat → Bool), (∀ i, o i = true → i ≤ L) → ∀ j, iterE f m o j = true ↔ ∃ i, o i = true ∧ ∃ p, p ≤ m ∧ Tm R p i j
  | 0, o, _, j => ⟨fun h => ⟨j, h, 0, Nat.le_refl _, rfl⟩, fun ⟨i, h, p, hp, ht⟩ => by
      obtain rfl : p = 0 := by omega
      cases ht; exact h⟩
  | m + 1, o, ho, j => by
    show iterE f m (stepE f o) j = true ↔ _
    rw [iter_tells hR hf m (stepE f o) (step_in hR hf ho) j]
    constructor
    · rintro ⟨k, h, p, hp, ht⟩
      unfold stepE at h
      rw [Bool.or_eq_true] at h
      rcases h with h | h
      · exact ⟨k, h, p, by omega, ht⟩
      · obtain ⟨i, a, b⟩ := (hf o ho k).1 h
        exact ⟨i, a, p + 1, by omega, k, b, ht⟩
    · rintro ⟨i, h, p, hp, ht⟩
      cases p with
      | zero => exact ⟨i, by unfold stepE; rw [h]; rfl, 0, Nat.zero_le _, ht⟩
      | succ p =>
        obtain ⟨k, b, ht⟩ := ht
        exact ⟨k, by unfold stepE; rw [Bool.or_eq_true]; exact .inr ((hf o ho k).2 ⟨i, h, b⟩), p, by omega, ht⟩
theorem ends_tells (word : List Int) : ∀ (n : Nat) (t : Ex n), Tells word.length (Mt word n t) (endsE word n t)
  | 0, _ => fun _ _ _ => ⟨(fun h => by cases h), fun ⟨_, _, h⟩ => h.elim⟩
  | n + 1, t => by
    intro o ho j
    unfold endsE
    by_cases k0 : kd t = 0
    · rw [if_pos k0]
      constructor
      · intro h; exact ⟨j, h, ho j h, .inl ⟨k0, rfl⟩⟩
      · rintro ⟨i, h, _, q⟩
        rcases q with ⟨_, rfl⟩ | ⟨q, _⟩ | ⟨q, _⟩ | ⟨q, _⟩ | ⟨q, _⟩ | ⟨q, _⟩
        · exact h
        all_goals omega
    · rw [if_neg k0]
      by_cases k1 : kd t = 1
      · rw [if_pos k1]
        constructor
        · intro h
          simp only [Bool.and_eq_true, decide_eq_true_eq] at h
          obtain ⟨h1, h2, h3⟩ := h
          cases hc : word[j - 1]? with
          | none => rw [hc] at h3; cases h3
          | some c => rw [hc] at h3; exact ⟨j - 1, h2, ho _ h2, .inr (.inl ⟨k1, by omega, c, hc, h3⟩)⟩
        · rintro ⟨i, h, _, q⟩
          rcases q with ⟨q, _⟩ | ⟨_, rfl, c, hc, hs⟩ | ⟨q, _⟩ | ⟨q, _⟩ | ⟨q, _⟩ | ⟨q, _⟩
          · omega
          · simp [h, hc, hs]
          all_goals omega
      · rw [if_neg k1]
        by_cases k2 : kd t = 2
        · rw [if_pos k2]
          have key := ch_tells (fun x => Mt word n x) (fun x => endsE word n x) (fun x => mt_up word n x) (fun x => ends_tells word n x) (ks t) o ho j
          constructor
          · intro h
            obtain ⟨i, a, b⟩ := key.1 h
            exact ⟨i, a, ho i a, .inr (.inr (.inl ⟨k2, b⟩))⟩
          · rintro ⟨i, h, _, q⟩
            rcases q with ⟨q, _⟩ | ⟨q, _⟩ | ⟨_, q⟩ | ⟨q, _⟩ | ⟨q, _⟩ | ⟨q, _⟩
            · omega
            · omega
            · exact key.2 ⟨i, h, q⟩
            all_goals omega
        · rw [if_neg k2]
          by_cases k3 : kd t = 3
          · rw [if_pos k3, List.any_eq_true]
            constructor
            · rintro ⟨x, hx, h⟩
              obtain ⟨i, a, b⟩ := (ends_tells word n x o ho j).1 h
              exact ⟨i, a, ho i a, .inr (.inr (.inr (.inl ⟨k3, x, hx, b⟩)))⟩
            · rintro ⟨i, h, _, q⟩
              rcases q with ⟨q, _⟩ | ⟨q, _⟩ | ⟨q, _⟩ | ⟨_, x, hx, q⟩ | ⟨q, _⟩ | ⟨q, _⟩
              · omega
              · omega
              · omega
              · exact ⟨x, hx, (ends_tells word n x o ho j).2 ⟨i, h, q⟩⟩
              all_goals omega
          · rw [if_neg k3]
            by_cases k4 : kd t = 4
            · rw [if_pos k4]
              cases hh : (ks t).head? with
              | none =>
                constructor
                · intro h; cases h
                · rintro ⟨i, h, _, q⟩
                  rcases q with ⟨q, _⟩ | ⟨q, _⟩ | ⟨q, _⟩ | ⟨q, _⟩ | ⟨_, x, hx, q⟩ | ⟨q, _⟩
                  · omega
                  · omega
                  · omega
                  · omega
                  · rw [hh] at hx; cases hx
                  · omega
              | some x =>
                have key := iter_tells (mt_up word n x) (ends_tells word n x) (word.length + 1) o ho j
                show iterE (fun o => endsE word n x o) (word.length + 1) o j = true ↔ _
                constructor
                · intro h
                  obtain ⟨i, a, p, _, b⟩ := key.1 h
                  exact ⟨i, a, ho i a, .inr (.inr (.inr (.inr (.inl ⟨k4, x, hh, p, b⟩))))⟩
                · rintro ⟨i, h, hi, q⟩
                  rcases q with ⟨q, _⟩ | ⟨q, _⟩ | ⟨q, _⟩ | ⟨q, _⟩ | ⟨_, y, hy, m, q⟩ | ⟨q, _⟩
                  · omega
                  · omega
                  · omega
                  · omega
                  · rw [hh] at hy
                    cases hy
                    have up := tm_up (mt_up word n x) m i j hi q
                    obtain ⟨p, hp, ht⟩ := tm_short (mt_up word n x) m i j hi q
                    exact key.2 ⟨i, h, p, by omega, ht⟩
                  · omega
            · rw [if_neg k4]
              by_cases k5 : kd t = 5
              · rw [if_pos k5]
                cases hh : (ks t).head? with
                | none =>
                  constructor
                  · intro h; cases h
                  · rintro ⟨i, h, _, q⟩
                    rcases q with ⟨q, _⟩ | ⟨q, _⟩ | ⟨q, _⟩ | ⟨q, _⟩ | ⟨q, _⟩ | ⟨_, x, hx, q⟩
                    · omega
                    · omega
                    · omega
                    · omega
                    · omega
                    · rw [hh] at hx; cases hx
                | some x =>
                  show (o j || endsE word n x o j) = true ↔ _
                  rw [Bool.or_eq_true, ends_tells word n x o ho j]
                  constructor
                  · rintro (h | ⟨i, a, b⟩)
                    · exact ⟨j, h, ho j h, .inr (.inr (.inr (.inr (.inr ⟨k5, x, hh, .inl rfl⟩))))⟩
                    · exact ⟨i, a, ho i a, .inr (.inr (.inr (.inr (.inr ⟨k5, x, hh, .inr b⟩))))⟩
                  · rintro ⟨i, h, _, q⟩
                    rcases q with ⟨q, _⟩ | ⟨q, _⟩ | ⟨q, _⟩ | ⟨q, _⟩ | ⟨q, _⟩ | ⟨_, y, hy, q⟩
                    · omega
                    · omega
                    · omega
                    · omega
                    · omega
                    · rw [hh] at hy
                      cases hy
                      rcases q with rfl | q
                      · exact .inl h
                      · exact .inr ⟨i, h, q⟩
              · rw [if_neg k5]
                constructor
                · intro h; cases h
                · rintro ⟨i, h, _, q⟩
                  rcases q with ⟨q, _⟩ | ⟨q, _⟩ | ⟨q, _⟩ | ⟨q, _⟩ | ⟨q, _⟩ | ⟨q, _⟩ <;> omega
/-- Has it a word? -/
def hasE (n : Nat) (t : Ex n) (word : List Int) : Bool := endsE word n t (fun i => decide (i = 0)) word.length
theorem has_iff (n : Nat) (t : Ex n) (word : List Int) : hasE n t word = true ↔ Mt word n t 0 word.length := by
  unfold hasE
  rw [ends_tells word n t _ (fun i h => by have := of_decide_eq_true h; omega)]
  constructor
  · rintro ⟨i, h, m⟩
    obtain rfl := of_decide_eq_true h
    exact m
  · intro m
    exact ⟨0, decide_eq_true rfl, m⟩

/-- The other way round. -/
def turnE : (n : Nat) → Ex n → Ex n
  | 0, _ => ()
  | n + 1, t => (kd t, st t, if kd t = 2 then ((ks t).map (fun x => turnE n x)).reverse else (ks t).map (fun x => turnE n x))
theorem kd_turn {n : Nat} (t : Ex (n + 1)) : kd (turnE (n + 1) t) = kd t := rfl
theorem st_turn {n : Nat} (t : Ex (n + 1)) : st (turnE (n + 1) t) = st t := rfl
theorem ks_turn {n : Nat} (t : Ex (n + 1)) : ks (turnE (n + 1) t) = if kd t = 2 then ((ks t).map (fun x => turnE n x)).reverse else (ks t).map (fun x => turnE n x) := rfl
theorem turn_turn : ∀ (n : Nat) (t : Ex n), turnE n (turnE n t) = t
  | 0, _ => rfl
  | n + 1, t => by
    have ih : ∀ l : List (Ex n), (l.map (fun x => turnE n x)).map (fun x => turnE n x) = l := fun l => by
      rw [List.map_map]
      conv => rhs; rw [← List.map_id l]
      exact List.map_congr_left fun x _ => turn_turn n x
    show (kd t, st t, if kd t = 2 then _ else _) = t
    by_cases k2 : kd t = 2
    · rw [if_pos k2, ks_turn, if_pos k2, List.map_reverse, List.reverse_reverse, ih]; rfl
    · rw [if_neg k2, ks_turn, if_neg k2, ih]; rfl
/-- Two relations are each other's, from behind. -/
def Rev (L : Nat) (R S : Nat → Nat → Prop) : Prop := ∀ i j, i ≤ L → j ≤ L → (R i j ↔ S (L - j) (L - i))
theorem ch_app (a b : List (Nat → Nat → Prop)) : ∀ (i j : Nat), Ch (a ++ b) i j ↔ ∃ k, Ch a i k ∧ Ch b k j := by
  induction a with
  | nil => intro i j; exact ⟨fun h => ⟨i, rfl, h⟩, fun ⟨k, e, h⟩ => by cases e; exact h⟩
  | cons R r ih =>
    intro i j
    constructor
    · rintro ⟨k, h1, h2⟩
      obtain ⟨k2, a1, a2⟩ := (ih k j).1 h2
      exact ⟨k2, ⟨k, h1, a1⟩, a2⟩
    · rintro ⟨k2, ⟨k, h1, a1⟩, a2⟩
      exact ⟨k, h1, (ih k j).2 ⟨k2, a1, a2⟩⟩
theorem ch_rev {α : Type} {L : Nat} (R S : α → Nat → Nat → Prop) (hR : ∀ x, Up L (R x)) (hS : ∀ x, Up L (S x)) (h : ∀ x, Rev L (R x) (S x)) : ∀ (l : List α), Rev L (Ch (l.map R)) (Ch (l.map S).reverse)
  | [] => fun i j hi hj => ⟨fun e => by cases e; rfl, fun e => by have e' : L - j = L - i := e; show i = j; omega⟩
  | x :: r => fun i j hi hj => by
    have ih := ch_rev R S hR hS h r
    have e1 : ((x :: r).map S).reverse = (r.map S).reverse ++ [S x] := by simp
    rw [e1, ch_app]
    constructor
    · rintro ⟨k, h1, h2⟩
      have hk := (hR x i k h1).2
      exact ⟨L - k, (ih k j hk hj).1 h2, L - i, (h x i k hi hk).1 h1, rfl⟩
    · rintro ⟨k, h1, k2, h2, e⟩
      cases e
      have hk := hS x k (L - i) h2
      refine ⟨L - k, ?_, ?_⟩
      · rw [h x i (L - k) hi (by omega)]
        rw [show L - (L - k) = k by omega]; exact h2
      · rw [ih (L - k) j (by omega) hj]
        rw [show L - (L - k) = k by omega]; exact h1
theorem tm_app {R : Nat → Nat → Prop} : ∀ (m i j k : Nat), Tm R m i j → R j k → Tm R (m + 1) i k
  | 0, i, j, k, e, h => by cases e; exact ⟨k, h, rfl⟩
  | m + 1, i, j, k, ⟨x, h1, h2⟩, h => ⟨x, h1, tm_app m x j k h2 h⟩
theorem tm_rev {L : Nat} {R S : Nat → Nat → Prop} (hR : Up L R) (h : Rev L R S) : ∀ (m i j : Nat), i ≤ L → j ≤ L → Tm R m i j → Tm S m (L - j) (L - i)
  | 0, i, j, _, _, e => by cases e; rfl
  | m + 1, i, j, hi, hj, ⟨k, h1, h2⟩ => by
    have hk := (hR i k h1).2
    exact tm_app m _ _ _ (tm_rev hR h m k j hk hj h2) ((h i k hi hk).1 h1)
theorem rev_symm {L : Nat} {R S : Nat → Nat → Prop} (h : Rev L R S) : Rev L S R := fun i j hi hj => by
  have := h (L - j) (L - i) (by omega) (by omega)
  rw [show L - (L - j) = j by omega, show L - (L - i) = i by omega] at this
  exact this.symm
theorem mt_rev (word : List Int) : ∀ (n : Nat) (t : Ex n), Rev word.length (Mt word n t) (Mt word.reverse n (turnE n t))
  | 0, _ => fun _ _ _ _ => Iff.rfl
  | n + 1, t => by
    intro i j hi hj
    have ih := fun x => mt_rev word n x
    have hl : word.reverse.length = word.length := by simp
    have upS := fun x : Ex n => hl ▸ mt_up word.reverse n (turnE n x)
    have hd : kd t ≠ 2 → (ks (turnE (n + 1) t)).head? = (ks t).head?.map (fun x => turnE n x) := fun k => by rw [ks_turn, if_neg k]; simp
    show (i ≤ word.length ∧ _) ↔ (word.length - j ≤ word.reverse.length ∧ _)
    rw [kd_turn, st_turn, hl]
    constructor
    · rintro ⟨_, q⟩
      refine ⟨by omega, ?_⟩
      rcases q with ⟨k, rfl⟩ | ⟨k, rfl, c, hc, hs⟩ | ⟨k, q⟩ | ⟨k, x, hx, q⟩ | ⟨k, x, hx, m, q⟩ | ⟨k, x, hx, q⟩
      · exact .inl ⟨k, rfl⟩
      · have hlt := (List.getElem?_eq_some_iff.1 hc).1
        refine .inr (.inl ⟨k, by omega, c, ?_, hs⟩)
        rw [List.getElem?_reverse (by omega), ← hc]
        congr 1; omega
      · refine .inr (.inr (.inl ⟨k, ?_⟩))
        have := (ch_rev (fun x => Mt word n x) (fun x => Mt word.reverse n (turnE n x)) (fun x => mt_up word n x) upS ih (ks t) i j hi hj).1 q
        rw [ks_turn, if_pos k, List.map_reverse, List.map_map]
        exact this
      · refine .inr (.inr (.inr (.inl ⟨k, turnE n x, ?_, (ih x i j hi hj).1 q⟩)))
        rw [ks_turn, if_neg (by omega)]; exact List.mem_map.2 ⟨x, hx, rfl⟩
      · refine .inr (.inr (.inr (.inr (.inl ⟨k, turnE n x, ?_, m, tm_rev (mt_up word n x) (ih x) m i j hi hj q⟩))))
        rw [hd (by omega), hx]; rfl
      · refine .inr (.inr (.inr (.inr (.inr ⟨k, turnE n x, by rw [hd (by omega), hx]; rfl, ?_⟩))))
        rcases q with rfl | q
        · exact .inl rfl
        · exact .inr ((ih x i j hi hj).1 q)
    · rintro ⟨_, q⟩
      refine ⟨hi, ?_⟩
      rcases q with ⟨k, e⟩ | ⟨k, e, c, hc, hs⟩ | ⟨k, q⟩ | ⟨k, y, hy, q⟩ | ⟨k, y, hy, m, q⟩ | ⟨k, y, hy, q⟩
      · exact .inl ⟨k, by omega⟩
      · have hlt := (List.getElem?_eq_some_iff.1 hc).1
        rw [hl] at hlt
        refine .inr (.inl ⟨k, by omega, c, ?_, hs⟩)
        rw [List.getElem?_reverse (by omega)] at hc
        rw [← hc]
        congr 1; omega
      · refine .inr (.inr (.inl ⟨k, ?_⟩))
        rw [ks_turn, if_pos k, List.map_reverse, List.map_map] at q
        exact (ch_rev (fun x => Mt word n x) (fun x => Mt word.reverse n (turnE n x)) (fun x => mt_up word n x) upS ih (ks t) i j hi hj).2 q
      · rw [ks_turn, if_neg (by omega)] at hy
        obtain ⟨x, hx, rfl⟩ := List.mem_map.1 hy
        exact .inr (.inr (.inr (.inl ⟨k, x, hx, (ih x i j hi hj).2 q⟩)))
      · rw [hd (by omega)] at hy
        obtain ⟨x, hx, rfl⟩ := Option.map_eq_some_iff.1 hy
        refine .inr (.inr (.inr (.inr (.inl ⟨k, x, hx, m, ?_⟩))))
        have := tm_rev (upS x) (rev_symm (ih x)) m _ _ (by omega) (by omega) q
        rw [show word.length - (word.length - i) = i by omega, show word.length - (word.length - j) = j by omega] at this
        exact this
      · rw [hd (by omega)] at hy
        obtain ⟨x, hx, rfl⟩ := Option.map_eq_some_iff.1 hy
        refine .inr (.inr (.inr (.inr (.inr ⟨k, x, hx, ?_⟩))))
        rcases q with e | q
        · exact .inl (by omega)
        · exact .inr ((ih x i j hi hj).2 q)
/-- The words of the turned one are those of the expression, from behind. -/
theorem has_turn (n : Nat) (t : Ex n) (word : List Int) : hasE n (turnE n t) word.reverse = hasE n t word := by
  rw [Bool.eq_iff_iff, has_iff, has_iff, List.length_reverse]
  have := mt_rev word n t 0 word.length (by omega) (by omega)
  rw [Nat.sub_self, Nat.sub_zero] at this
  exact this.symm
end Go.Proofs.YtccaknabpnpjaaaGreatDoor.A

/- What words begin with: plain mathematics. -/
namespace Go.Proofs.YtccaknabpnpjaaaGreatDoor.A

/-- Has it the empty word? -/
def emptyE : (n : Nat) → Ex n → Bool
  | 0, _ => false
  | n + 1, t =>
    if kd t = 0 then true else if kd t = 1 then false else if kd t = 2 then (ks t).all (fun x => emptyE n x) else if kd t = 3 then (ks t).any (fun x => emptyE n x)
    else if kd t = 4 ∨ kd t = 5 then (ks t).head?.isSome else false
theorem ch_still {L : Nat} : ∀ (l : List (Nat → Nat → Prop)) (_ : ∀ R ∈ l, Up L R) (i : Nat), Ch l i i ↔ ∀ R ∈ l, R i i
  | [], _, i => ⟨fun _ R h => by simp at h, fun _ => rfl⟩
  | R :: r, hl, i => by
    have ih := ch_still r (fun R' h => hl R' (by simp [h])) i
    constructor
    · rintro ⟨k, h1, h2⟩
      have a := hl R (by simp) i k h1
      have b := ch_up r (fun R' h => hl R' (by simp [h])) k i a.2 h2
      have e : k = i := by omega
      subst e
      intro R' h
      rcases List.mem_cons.1 h with rfl | h
      · exact h1
      · exact ih.1 h2 R' h
    · intro h
      exact ⟨i, h R (by simp), ih.2 (fun R' h' => h R' (by simp [h']))⟩
theorem mt_empty (word : List Int) : ∀ (n : Nat) (t : Ex n) (i : Nat), i ≤ word.length → (Mt word n t i i ↔ emptyE n t = true)
  | 0, _, _, _ => ⟨fun h => h.elim, fun h => by cases h⟩
  | n + 1, t, i, hi => by
    have ih := fun x => mt_empty word n x i hi
    unfold emptyE
    by_cases k0 : kd t = 0
    · rw [if_pos k0]; exact ⟨fun _ => rfl, fun _ => ⟨hi, .inl ⟨k0, rfl⟩⟩⟩
    · rw [if_neg k0]
      by_cases k1 : kd t = 1
      · rw [if_pos k1]
        constructor
        · rintro ⟨_, q⟩
          rcases q with ⟨q, _⟩ | ⟨_, q, _⟩ | ⟨q, _⟩ | ⟨q, _⟩ | ⟨q, _⟩ | ⟨q, _⟩ <;> omega
        · intro h; cases h
      · rw [if_neg k1]
        by_cases k2 : kd t = 2
        · rw [if_pos k2, List.all_eq_true]
          have key := ch_still (L := word.length) ((ks t).map (fun x => Mt word n x)) (fun R hR => by obtain ⟨x, _, rfl⟩ := List.mem_map.1 hR; exact mt_up word n x) i
          constructor
          · rintro ⟨_, q⟩
            rcases q with ⟨q, _⟩ | ⟨q, _⟩ | ⟨_, q⟩ | ⟨q, _⟩ | ⟨q, _⟩ | ⟨q, _⟩
            · omega
            · omega
            · intro x hx; exact (ih x).1 (key.1 q _ (List.mem_map.2 ⟨x, hx, rfl⟩))
            all_goals omega
          · intro h
            refine ⟨hi, .inr (.inr (.inl ⟨k2, key.2 fun R hR => ?_⟩))⟩
            obtain ⟨x, hx, rfl⟩ := List.mem_map.1 hR
            exact (ih x).2 (h x hx)
        · rw [if_neg k2]
          by_cases k3 : kd t = 3
          · rw [if_pos k3, List.any_eq_true]
            constructor
            · rintro ⟨_, q⟩
              rcases q with ⟨q, _⟩ | ⟨q, _⟩ | ⟨q, _⟩ | ⟨_, x, hx, q⟩ | ⟨q, _⟩ | ⟨q, _⟩
              · omega
              · omega
              · omega
              · exact ⟨x, hx, (ih x).1 q⟩
              all_goals omega
            · rintro ⟨x, hx, h⟩
              exact ⟨hi, .inr (.inr (.inr (.inl ⟨k3, x, hx, (ih x).2 h⟩)))⟩
          · rw [if_neg k3]
            by_cases k4 : kd t = 4
            · rw [if_pos (.inl k4), Option.isSome_iff_exists]
              constructor
              · rintro ⟨_, q⟩
                rcases q with ⟨q, _⟩ | ⟨q, _⟩ | ⟨q, _⟩ | ⟨q, _⟩ | ⟨_, x, hx, _⟩ | ⟨q, _⟩
                · omega
                · omega
                · omega
                · omega
                · exact ⟨x, hx⟩
                · omega
              · rintro ⟨x, hx⟩
                exact ⟨hi, .inr (.inr (.inr (.inr (.inl ⟨k4, x, hx, 0, rfl⟩))))⟩
            · by_cases k5 : kd t = 5
              · rw [if_pos (.inr k5), Option.isSome_iff_exists]
                constructor
                · rintro ⟨_, q⟩
                  rcases q with ⟨q, _⟩ | ⟨q, _⟩ | ⟨q, _⟩ | ⟨q, _⟩ | ⟨q, _⟩ | ⟨_, x, hx, _⟩
                  · omega
                  · omega
                  · omega
                  · omega
                  · omega
                  · exact ⟨x, hx⟩
                · rintro ⟨x, hx⟩
                  exact ⟨hi, .inr (.inr (.inr (.inr (.inr ⟨k5, x, hx, .inl rfl⟩))))⟩
              · rw [if_neg (by omega)]
                constructor
                · rintro ⟨_, q⟩
                  rcases q with ⟨q, _⟩ | ⟨q, _⟩ | ⟨q, _⟩ | ⟨q, _⟩ | ⟨q, _⟩ | ⟨q, _⟩ <;> omega
                · intro h; cases h
theorem has_empty (n : Nat) (t : Ex n) : hasE n t [] = emptyE n t := by
  rw [Bool.eq_iff_iff, has_iff]
  exact mt_empty [] n t 0 (Nat.le_refl _)
theorem empty_turn : ∀ (n : Nat) (t : Ex n), emptyE n (turnE n t) = emptyE n t := fun n t => by
  rw [← has_empty, ← has_empty]
  exact has_turn n t []

/-- The sets of those that come first, as long as the ones ahead have the empty word. -/
def firstL {α : Type} (f : α → Nat) (e : α → Bool) : List α → Nat
  | [] => 0
  | x :: r => f x ||| (if e x then firstL f e r else 0)
/-- What words begin with. -/
def firstE : (n : Nat) → Ex n → Nat
  | 0, _ => 0
  | n + 1, t =>
    if kd t = 1 then st t else if kd t = 2 then firstL (fun x => firstE n x) (fun x => emptyE n x) (ks t) else (ks t).foldl (fun a x => a ||| firstE n x) 0
theorem inS_or (a b : Nat) (c : Int) : inS (a ||| b) c = (inS a c || inS b c) := by
  have key : ∀ (k : Nat), (((a ||| b) / 2 ^ k % 2 == 1) : Bool) = ((a / 2 ^ k % 2 == 1) || (b / 2 ^ k % 2 == 1)) := fun k => by
    have := Nat.testBit_or a b k
    simp only [Nat.testBit_eq_decide_div_mod_eq] at this
    rw [Bool.eq_iff_iff] at this ⊢
    simpa using this
  unfold inS
  rw [key]
  cases decide (0 ≤ c) <;> cases decide (c < 16) <;> rfl
theorem inS_fold {α : Type} (f : α → Nat) (c : Int) : ∀ (l : List α) (a : Nat), inS (l.foldl (fun a x => a ||| f x) a) c = (inS a c || l.any (fun x => inS (f x) c))
  | [], a => by simp
  | x :: r, a => by
    show inS (r.foldl _ (a ||| f x)) c = _
    rw [inS_fold f c r, inS_or, List.any_cons, Bool.or_assoc]
theorem ch_first {α : Type} {L : Nat} (word : List Int) (R : α → Nat → Nat → Prop) (f : α → Nat) (e : α → Bool) (hR : ∀ x, Up L (R x)) (he : ∀ x i, i ≤ L → R x i i → e x = true) (hf : ∀ x i j, R x i j → i < j → ∃ c, word[i]? = some c ∧ inS (f x) c = true) :
    ∀ (l : List α) (i j : Nat), i ≤ L → Ch (l.map R) i j → i < j → ∃ c, word[i]? = some c ∧ inS (firstL f e l) c = true
  | [], i, j, _, h, hij => by have : i = j := h; omega
  | x :: r, i, j, hi, ⟨k, h1, h2⟩, hij => by
    have a := hR x i k h1
    by_cases q : i < k
    · obtain ⟨c, h3, h4⟩ := hf x i k h1 q
      exact ⟨c, h3, by show inS (f x ||| _) c = true; rw [inS_or, h4]; rfl⟩
    · have ek : k = i := by omega
      subst ek
      obtain ⟨c, h3, h4⟩ := ch_first word R f e hR he hf r k j hi h2 hij
      refine ⟨c, h3, ?_⟩
      show inS (f x ||| (if e x then firstL f e r else 0)) c = true
      rw [inS_or, he x k hi h1, if_pos rfl, h4, Bool.or_true]
theorem tm_first {L : Nat} {R : Nat → Nat → Prop} (hR : Up L R) : ∀ (m i j : Nat), i ≤ L → Tm R m i j → i < j → ∃ k, R i k ∧ i < k
  | 0, i, j, _, h, hij => by have : i = j := h; omega
  | m + 1, i, j, hi, ⟨k, h1, h2⟩, hij => by
    have a := hR i k h1
    by_cases q : i < k
    · exact ⟨k, h1, q⟩
    · have ek : k = i := by omega
      subst ek
      exact tm_first hR m k j hi h2 hij
/-- A word begins with one of the first categories. -/
theorem mt_first (word : List Int) : ∀ (n : Nat) (t : Ex n) (i j : Nat), Mt word n t i j → i < j → ∃ c, word[i]? = some c ∧ inS (firstE n t) c = true
  | 0, _, _, _, h, _ => h.elim
  | n + 1, t, i, j, ⟨hi, q⟩, hij => by
    have ih := fun x => mt_first word n x
    have kid : ∀ x ∈ ks t, ∀ c, inS (firstE n x) c = true → kd t ≠ 1 → kd t ≠ 2 → inS (firstE (n + 1) t) c = true := fun x hx c hc k1 k2 => by
      unfold firstE
      rw [if_neg k1, if_neg k2, inS_fold, Bool.or_eq_true]
      exact .inr (List.any_eq_true.2 ⟨x, hx, hc⟩)
    rcases q with ⟨_, e⟩ | ⟨k, rfl, c, hc, hs⟩ | ⟨k, q⟩ | ⟨k, x, hx, q⟩ | ⟨k, x, hx, m, q⟩ | ⟨k, x, hx, q⟩
    · omega
    · exact ⟨c, hc, by unfold firstE; rw [if_pos k]; exact hs⟩
    · unfold firstE
      rw [if_neg (by omega), if_pos k]
      exact ch_first word (fun x => Mt word n x) (fun x => firstE n x) (fun x => emptyE n x) (fun x => mt_up word n x) (fun x i hi h => (mt_empty word n x i hi).1 h) (fun x i j h hij => ih x i j h hij) (ks t) i j hi q hij
    · obtain ⟨c, h1, h2⟩ := ih x i j q hij
      exact ⟨c, h1, kid x hx c h2 (by omega) (by omega)⟩
    · obtain ⟨k', h1, h2⟩ := tm_first (mt_up word n x) m i j hi q hij
      obtain ⟨c, h3, h4⟩ := ih x i k' h1 h2
      exact ⟨c, h3, kid x (List.mem_of_mem_head? hx) c h4 (by omega) (by omega)⟩
    · rcases q with e | q
      · omega
      · obtain ⟨c, h1, h2⟩ := ih x i j q hij
        exact ⟨c, h1, kid x (List.mem_of_mem_head? hx) c h2 (by omega) (by omega)⟩
end Go.Proofs.YtccaknabpnpjaaaGreatDoor.A

/- What turning leaves as it is; what is alike: plain mathematics. -/
namespace Go.Proofs.YtccaknabpnpjaaaGreatDoor.A

theorem fold_max_le {α : Type} (f : α → Nat) (B : Nat) : ∀ (l : List α) (a : Nat), l.foldl (fun a x => max a (f x)) a ≤ B ↔ a ≤ B ∧ ∀ x ∈ l, f x ≤ B
  | [], a => by simp
  | x :: r, a => by
    show r.foldl _ (max a (f x)) ≤ B ↔ _
    rw [fold_max_le f B r, Nat.max_le]
    simp only [List.mem_cons, forall_eq_or_imp]
    exact and_assoc
theorem fold_max_same {α β : Type} (f : α → Nat) (g : β → Nat) (l : List α) (k : List β) (h : ∀ B, (∀ x ∈ l, f x ≤ B) ↔ ∀ y ∈ k, g y ≤ B) : l.foldl (fun a x => max a (f x)) 0 = k.foldl (fun a x => max a (g x)) 0 := by
  have e : ∀ B, l.foldl (fun a x => max a (f x)) 0 ≤ B ↔ k.foldl (fun a x => max a (g x)) 0 ≤ B := fun B => by
    rw [fold_max_le, fold_max_le, h B]
  exact Nat.le_antisymm ((e _).2 (Nat.le_refl _)) ((e _).1 (Nat.le_refl _))
theorem mem_turn {n : Nat} (t : Ex (n + 1)) (y : Ex n) : y ∈ ks (turnE (n + 1) t) ↔ ∃ x ∈ ks t, turnE n x = y := by
  rw [ks_turn]
  split
  · rw [List.mem_reverse, List.mem_map]
  · rw [List.mem_map]
theorem deep_turn : ∀ (n : Nat) (t : Ex n) (m : Nat), deepE n (turnE n t) m = deepE n t m
  | 0, _, _ => rfl
  | _ + 1, _, 0 => rfl
  | n + 1, t, m + 1 => by
    show (ks (turnE (n + 1) t)).foldl _ 0 + 1 = (ks t).foldl _ 0 + 1
    rw [fold_max_same (fun x => deepE n x m) (fun x => deepE n x m) (ks (turnE (n + 1) t)) (ks t) fun B => ?_]
    constructor
    · intro h x hx
      have := h (turnE n x) ((mem_turn t _).2 ⟨x, hx, rfl⟩)
      rw [deep_turn n x m] at this
      exact this
    · intro h y hy
      obtain ⟨x, hx, rfl⟩ := (mem_turn t y).1 hy
      rw [deep_turn n x m]
      exact h x hx
/-- How many nodes there are. -/
def realN : (n : Nat) → Ex n → Nat
  | 0, _ => 0
  | n + 1, t => 1 + ((ks t).map (fun x => realN n x)).sum
theorem fold_real {α : Type} (f g : α → Nat) (h : ∀ x, (g x ≤ 100 → f x = g x) ∧ (100 < g x → 100 < f x)) : ∀ (l : List α) (a : Nat),
    (a + (l.map g).sum ≤ 100 → l.foldl (fun a x => if a < 101 then a + f x else a) a = a + (l.map g).sum) ∧ (100 < a + (l.map g).sum → 100 < l.foldl (fun a x => if a < 101 then a + f x else a) a)
  | [], a => by simp
  | x :: r, a => by
    have hx := h x
    have e : (x :: r).foldl (fun a x => if a < 101 then a + f x else a) a = r.foldl (fun a x => if a < 101 then a + f x else a) (if a < 101 then a + f x else a) := rfl
    rw [e, List.map_cons, List.sum_cons]
    by_cases q : a < 101
    · rw [if_pos q]
      have ih := fold_real f g h r (a + f x)
      by_cases g1 : g x ≤ 100
      · rw [hx.1 g1] at ih ⊢
        rw [← Nat.add_assoc]
        exact ih
      · have := hx.2 (by omega)
        have e2 := fold_full f r (a + f x) (by omega)
        rw [e2]
        constructor <;> intro _ <;> omega
    · rw [if_neg q, fold_full f r a q]
      constructor <;> intro _ <;> omega
theorem nodes_real : ∀ (n : Nat) (t : Ex n), (realN n t ≤ 100 → nodesE n t = realN n t) ∧ (100 < realN n t → 100 < nodesE n t)
  | 0, _ => ⟨fun _ => rfl, fun h => by have : (100 : Nat) < 0 := h; omega⟩
  | n + 1, t => fold_real (fun x => nodesE n x) (fun x => realN n x) (fun x => nodes_real n x) (ks t) 1
theorem real_turn : ∀ (n : Nat) (t : Ex n), realN n (turnE n t) = realN n t
  | 0, _ => rfl
  | n + 1, t => by
    have e : ((ks t).map (fun x => turnE n x)).map (fun x => realN n x) = (ks t).map (fun x => realN n x) := by
      rw [List.map_map]; exact List.map_congr_left fun x _ => real_turn n x
    show 1 + ((ks (turnE (n + 1) t)).map _).sum = 1 + _
    rw [ks_turn]
    split
    · rw [List.map_reverse, List.sum_reverse, e]
    · rw [e]
theorem nodes_turn {n : Nat} {t : Ex n} (h : nodesE n t ≤ 100) : nodesE n (turnE n t) = nodesE n t := by
  have a := nodes_real n t
  have b := nodes_real n (turnE n t)
  rw [real_turn] at b
  have hr : realN n t ≤ 100 := by
    rcases Nat.lt_or_ge 100 (realN n t) with q | q
    · have := a.2 q; omega
    · exact q
  rw [b.1 hr, a.1 hr]
theorem shapes_turn : ∀ (n : Nat) (t : Ex n), shapesE n (turnE n t) = shapesE n t
  | 0, _ => rfl
  | n + 1, t => by
    show (okE (kd t) (st t) (ks (turnE (n + 1) t)).length && (ks (turnE (n + 1) t)).all _) = (okE (kd t) (st t) (ks t).length && (ks t).all _)
    have e1 : (ks (turnE (n + 1) t)).length = (ks t).length := by rw [ks_turn]; split <;> simp
    have e2 : (ks (turnE (n + 1) t)).all (fun x => shapesE n x) = (ks t).all (fun x => shapesE n x) := by
      rw [Bool.eq_iff_iff, List.all_eq_true, List.all_eq_true]
      constructor
      · intro h x hx
        have := h (turnE n x) ((mem_turn t _).2 ⟨x, hx, rfl⟩)
        rw [shapes_turn n x] at this
        exact this
      · intro h y hy
        obtain ⟨x, hx, rfl⟩ := (mem_turn t y).1 hy
        rw [shapes_turn n x]
        exact h x hx
    rw [e1, e2]
/-- May it be? -/
def rightE (n : Nat) (t : Ex n) : Bool := decide (deepE n t 12 ≤ 12) && (decide (nodesE n t ≤ 100) && shapesE n t)
theorem right_turn (n : Nat) (t : Ex n) (h : rightE n t = true) : rightE n (turnE n t) = true := by
  unfold rightE at h ⊢
  rw [deep_turn, shapes_turn]
  simp only [Bool.and_eq_true, decide_eq_true_eq] at h ⊢
  rw [nodes_turn h.2.1]
  exact h
/-- Two are alike, as far as a bound. -/
def sameE : (n : Nat) → Ex n → (k : Nat) → Ex k → Nat → Bool
  | 0, _, _, _, _ => false
  | _ + 1, _, 0, _, _ => false
  | _ + 1, a, _ + 1, b, 0 => decide (kd a = kd b) && (decide (st a = st b) && decide ((ks a).length = (ks b).length))
  | n + 1, a, k + 1, b, m + 1 => decide (kd a = kd b) && (decide (st a = st b) && (decide ((ks a).length = (ks b).length) && ((ks a).zip (ks b)).all (fun p => sameE n p.1 k p.2 m)))
/-- Every part is an expression. -/
def full : (n : Nat) → Ex n → Prop
  | 0, _ => False
  | n + 1, t => ∀ x ∈ ks t, full n x
theorem rx_full {w : World} : ∀ (n : Nat) (t : Ex n) (v : Value), Rx w n t v → full n t
  | 0, _, _, h => h
  | n + 1, t, _, ⟨a, len, cap, _, _, _, _, _, h6, h7⟩ => by
    intro x hx
    rcases h7 with h7 | ⟨b, off, _, h7⟩
    · subst h7
      rw [List.length_eq_zero_iff.1 h6] at hx
      cases hx
    · obtain ⟨i, hi⟩ := List.getElem?_of_mem hx
      obtain ⟨c0, c1, c2, _, _, _, p⟩ := h7 i x hi
      exact rx_full n x _ p
theorem full_turn : ∀ (n : Nat) (t : Ex n), full n t → full n (turnE n t)
  | 0, _, h => h
  | n + 1, t, h => by
    intro y hy
    obtain ⟨x, hx, rfl⟩ := (mem_turn t y).1 hy
    exact full_turn n x (h x hx)
theorem mem_zip_self {α : Type} : ∀ (l : List α) (p : α × α), p ∈ l.zip l → p.1 = p.2 ∧ p.1 ∈ l
  | [], p, h => by simp at h
  | x :: r, p, h => by
    simp only [List.zip_cons_cons, List.mem_cons] at h
    rcases h with rfl | h
    · exact ⟨rfl, by simp⟩
    · obtain ⟨a, b⟩ := mem_zip_self r p h
      exact ⟨a, by simp [b]⟩
theorem same_self : ∀ (n : Nat) (t : Ex n) (m : Nat), full n t → sameE n t n t m = true
  | 0, _, _, h => h.elim
  | n + 1, t, 0, _ => by simp [sameE]
  | n + 1, t, m + 1, h => by
    unfold sameE
    simp only [decide_true, Bool.true_and, List.all_eq_true]
    intro p hp
    obtain ⟨a, b⟩ := mem_zip_self _ p hp
    rw [← a]
    exact same_self n p.1 m (h _ b)
end Go.Proofs.YtccaknabpnpjaaaGreatDoor.A
