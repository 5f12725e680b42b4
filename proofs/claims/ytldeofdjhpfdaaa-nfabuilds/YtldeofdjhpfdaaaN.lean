/- What words begin with: plain mathematics. -/
import Derived.Test.YtldeofdjhpfdaaaM
namespace Go.Proofs.Ytldeofdjhpfdaaa.A

/-- Has it the empty word? -/
def emptyE : (n : Nat) → Ex n → Bool
  | 0, _ => false
  | n + 1, t =>
    if kd t = 0 then true else if kd t = 1 then false else if kd t = 2 then (ks t).all (fun x => emptyE n x) else if kd t = 3 then (ks t).any (fun x => emptyE n x)
    else if kd t = 4 ∨ kd t = 5 then (ks t).head?.isSome else false
theorem ch_still {L : Nat} : ∀ (l : List (Nat → Nat → Prop)) (_ : ∀ R ∈ l, Up L R) (i : Nat), Ch l i i ↔ ∀ R ∈ l, R i i
  | [], _, i => ⟨fun _ R h => by simp at h, fun _ => rfl⟩
  | R :: r, hl, i => by
    have ih := ch_still r (fun R' h => hl R' (by simp [h])) i
    constructor
    · rintro ⟨k, h1, h2⟩
      have a := hl R (by simp) i k h1
      have b := ch_up r (fun R' h => hl R' (by simp [h])) k i a.2 h2
      have e : k = i := by omega
      subst e
      intro R' h
      rcases List.mem_cons.1 h with rfl | h
      · exact h1
      · exact ih.1 h2 R' h
    · intro h
      exact ⟨i, h R (by simp), ih.2 (fun R' h' => h R' (by simp [h']))⟩
theorem mt_empty (word : List Int) : ∀ (n : Nat) (t : Ex n) (i : Nat), i ≤ word.length → (Mt word n t i i ↔ emptyE n t = true)
  | 0, _, _, _ => ⟨fun h => h.elim, fun h => by cases h⟩
  | n + 1, t, i, hi => by
    have ih := fun x => mt_empty word n x i hi
    unfold emptyE
    by_cases k0 : kd t = 0
    · rw [if_pos k0]; exact ⟨fun _ => rfl, fun _ => ⟨hi, .inl ⟨k0, rfl⟩⟩⟩
    · rw [if_neg k0]
      by_cases k1 : kd t = 1
      · rw [if_pos k1]
        constructor
        · rintro ⟨_, q⟩
          rcases q with ⟨q, _⟩ | ⟨_, q, _⟩ | ⟨q, _⟩ | ⟨q, _⟩ | ⟨q, _⟩ | ⟨q, _⟩ <;> omega
        · intro h; cases h
      · rw [if_neg k1]
        by_cases k2 : kd t = 2
        · rw [if_pos k2, List.all_eq_true]
          have key := ch_still (L := word.length) ((ks t).map (fun x => Mt word n x)) (fun R hR => by obtain ⟨x, _, rfl⟩ := List.mem_map.1 hR; exact mt_up word n x) i
          constructor
          · rintro ⟨_, q⟩
            rcases q with ⟨q, _⟩ | ⟨q, _⟩ | ⟨_, q⟩ | ⟨q, _⟩ | ⟨q, _⟩ | ⟨q, _⟩
            · omega
            · omega
            · intro x hx; exact (ih x).1 (key.1 q _ (List.mem_map.2 ⟨x, hx, rfl⟩))
            all_goals omega
          · intro h
            refine ⟨hi, .inr (.inr (.inl ⟨k2, key.2 fun R hR => ?_⟩))⟩
            obtain ⟨x, hx, rfl⟩ := List.mem_map.1 hR
            exact (ih x).2 (h x hx)
        · rw [if_neg k2]
          by_cases k3 : kd t = 3
          · rw [if_pos k3, List.any_eq_true]
            constructor
            · rintro ⟨_, q⟩
              rcases q with ⟨q, _⟩ | ⟨q, _⟩ | ⟨q, _⟩ | ⟨_, x, hx, q⟩ | ⟨q, _⟩ | ⟨q, _⟩
              · omega
              · omega
              · omega
              · exact ⟨x, hx, (ih x).1 q⟩
              all_goals omega
            · rintro ⟨x, hx, h⟩
              exact ⟨hi, .inr (.inr (.inr (.inl ⟨k3, x, hx, (ih x).2 h⟩)))⟩
          · rw [if_neg k3]
            by_cases k4 : kd t = 4
            · rw [if_pos (.inl k4), Option.isSome_iff_exists]
              constructor
              · rintro ⟨_, q⟩
                rcases q with ⟨q, _⟩ | ⟨q, _⟩ | ⟨q, _⟩ | ⟨q, _⟩ | ⟨_, x, hx, _⟩ | ⟨q, _⟩
                · omega
                · omega
                · omega
                · omega
                · exact ⟨x, hx⟩
                · omega
              · rintro ⟨x, hx⟩
                exact ⟨hi, .inr (.inr (.inr (.inr (.inl ⟨k4, x, hx, 0, rfl⟩))))⟩
            · by_cases k5 : kd t = 5
              · rw [if_pos (.inr k5), Option.isSome_iff_exists]
                constructor
                · rintro ⟨_, q⟩
                  rcases q with ⟨q, _⟩ | ⟨q, _⟩ | ⟨q, _⟩ | ⟨q, _⟩ | ⟨q, _⟩ | ⟨_, x, hx, _⟩
                  · omega
                  · omega
                  · omega
                  · omega
                  · omega
                  · exact ⟨x, hx⟩
                · rintro ⟨x, hx⟩
                  exact ⟨hi, .inr (.inr (.inr (.inr (.inr ⟨k5, x, hx, .inl rfl⟩))))⟩
              · rw [if_neg (by omega)]
                constructor
                · rintro ⟨_, q⟩
                  rcases q with ⟨q, _⟩ | ⟨q, _⟩ | ⟨q, _⟩ | ⟨q, _⟩ | ⟨q, _⟩ | ⟨q, _⟩ <;> omega
                · intro h; cases h
theorem has_empty (n : Nat) (t : Ex n) : hasE n t [] = emptyE n t := by
  rw [Bool.eq_iff_iff, has_iff]
  exact mt_empty [] n t 0 (Nat.le_refl _)
theorem empty_turn : ∀ (n : Nat) (t : Ex n), emptyE n (turnE n t) = emptyE n t := fun n t => by
  rw [← has_empty, ← has_empty]
  exact has_turn n t []

/-- The sets of those that come first, as long as the ones ahead have the empty word. -/
def firstL {α : Type} (f : α → Nat) (e : α → Bool) : List α → Nat
  | [] => 0
  | x :: r => f x ||| (if e x then firstL f e r else 0)
/-- What words begin with. -/
def firstE : (n : Nat) → Ex n → Nat
  | 0, _ => 0
  | n + 1, t =>
    if kd t = 1 then st t else if kd t = 2 then firstL (fun x => firstE n x) (fun x => emptyE n x) (ks t) else (ks t).foldl (fun a x => a ||| firstE n x) 0
theorem inS_or (a b : Nat) (c : Int) : inS (a ||| b) c = (inS a c || inS b c) := by
  have key : ∀ (k : Nat), (((a ||| b) / 2 ^ k % 2 == 1) : Bool) = ((a / 2 ^ k % 2 == 1) || (b / 2 ^ k % 2 == 1)) := fun k => by
    have := Nat.testBit_or a b k
    simp only [Nat.testBit_eq_decide_div_mod_eq] at this
    rw [Bool.eq_iff_iff] at this ⊢
    simpa using this
  unfold inS
  rw [key]
  cases decide (0 ≤ c) <;> cases decide (c < 16) <;> rfl
theorem inS_fold {α : Type} (f : α → Nat) (c : Int) : ∀ (l : List α) (a : Nat), inS (l.foldl (fun a x => a ||| f x) a) c = (inS a c || l.any (fun x => inS (f x) c))
  | [], a => by simp
  | x :: r, a => by
    show inS (r.foldl _ (a ||| f x)) c = _
    rw [inS_fold f c r, inS_or, List.any_cons, Bool.or_assoc]
theorem ch_first {α : Type} {L : Nat} (word : List Int) (R : α → Nat → Nat → Prop) (f : α → Nat) (e : α → Bool) (hR : ∀ x, Up L (R x)) (he : ∀ x i, i ≤ L → R x i i → e x = true) (hf : ∀ x i j, R x i j → i < j → ∃ c, word[i]? = some c ∧ inS (f x) c = true) :
    ∀ (l : List α) (i j : Nat), i ≤ L → Ch (l.map R) i j → i < j → ∃ c, word[i]? = some c ∧ inS (firstL f e l) c = true
  | [], i, j, _, h, hij => by have : i = j := h; omega
  | x :: r, i, j, hi, ⟨k, h1, h2⟩, hij => by
    have a := hR x i k h1
    by_cases q : i < k
    · obtain ⟨c, h3, h4⟩ := hf x i k h1 q
      exact ⟨c, h3, by show inS (f x ||| _) c = true; rw [inS_or, h4]; rfl⟩
    · have ek : k = i := by omega
      subst ek
      obtain ⟨c, h3, h4⟩ := ch_first word R f e hR he hf r k j hi h2 hij
      refine ⟨c, h3, ?_⟩
      show inS (f x ||| (if e x then firstL f e r else 0)) c = true
      rw [inS_or, he x k hi h1, if_pos rfl, h4, Bool.or_true]
theorem tm_first {L : Nat} {R : Nat → Nat → Prop} (hR : Up L R) : ∀ (m i j : Nat), i ≤ L → Tm R m i j → i < j → ∃ k, R i k ∧ i < k
  | 0, i, j, _, h, hij => by have : i = j := h; omega
  | m + 1, i, j, hi, ⟨k, h1, h2⟩, hij => by
    have a := hR i k h1
    by_cases q : i < k
    · exact ⟨k, h1, q⟩
    · have ek : k = i := by omega
      subst ek
      exact tm_first hR m k j hi h2 hij
/-- A word begins with one of the first categories. -/
theorem mt_first (word : List Int) : ∀ (n : Nat) (t : Ex n) (i j : Nat), Mt word n t i j → i < j → ∃ c, word[i]? = some c ∧ inS (firstE n t) c = true
  | 0, _, _, _, h, _ => h.elim
  | n + 1, t, i, j, ⟨hi, q⟩, hij => by
    have ih := fun x => mt_first word n x
    have kid : ∀ x ∈ ks t, ∀ c, inS (firstE n x) c = true → kd t ≠ 1 → kd t ≠ 2 → inS (firstE (n + 1) t) c = true := fun x hx c hc k1 k2 => by
      unfold firstE
      rw [if_neg k1, if_neg k2, inS_fold, Bool.or_eq_true]
      exact .inr (List.any_eq_true.2 ⟨x, hx, hc⟩)
    rcases q with ⟨_, e⟩ | ⟨k, rfl, c, hc, hs⟩ | ⟨k, q⟩ | ⟨k, x, hx, q⟩ | ⟨k, x, hx, m, q⟩ | ⟨k, x, hx, q⟩
    · omega
    · exact ⟨c, hc, by unfold firstE; rw [if_pos k]; exact hs⟩
    · unfold firstE
      rw [if_neg (by omega), if_pos k]
      exact ch_first word (fun x => Mt word n x) (fun x => firstE n x) (fun x => emptyE n x) (fun x => mt_up word n x) (fun x i hi h => (mt_empty word n x i hi).1 h) (fun x i j h hij => ih x i j h hij) (ks t) i j hi q hij
    · obtain ⟨c, h1, h2⟩ := ih x i j q hij
      exact ⟨c, h1, kid x hx c h2 (by omega) (by omega)⟩
    · obtain ⟨k', h1, h2⟩ := tm_first (mt_up word n x) m i j hi q hij
      obtain ⟨c, h3, h4⟩ := ih x i k' h1 h2
      exact ⟨c, h3, kid x (List.mem_of_mem_head? hx) c h4 (by omega) (by omega)⟩
    · rcases q with e | q
      · omega
      · obtain ⟨c, h1, h2⟩ := ih x i j q hij
        exact ⟨c, h1, kid x (List.mem_of_mem_head? hx) c h2 (by omega) (by omega)⟩
end Go.Proofs.Ytldeofdjhpfdaaa.A
