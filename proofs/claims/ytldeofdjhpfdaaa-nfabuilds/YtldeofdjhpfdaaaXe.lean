/- What the document's 'lay' writes: the free steps and the sets of an expression's machine. -/
import Derived.Test.YtldeofdjhpfdaaaXd
namespace Go.Proofs.Ytldeofdjhpfdaaa.A

theorem layM_one {n : Nat} {t : Ex (n + 1)} (h : kd t = 1) (b : Nat) (m : Mc) : layM (n + 1) t b m = ⟨m.fr, fun i => if i = b then A.st t else m.st i, fun i => if i = b then ((b + 2 * realN (n + 1) t - 1 : Nat) : Int) else m.to i⟩ := by
  show (if kd t = 1 then _ else _) = _
  rw [if_pos h]
theorem layM_two {n : Nat} {t : Ex (n + 1)} (h : kd t = 2) (b : Nat) (m : Mc) : layM (n + 1) t b m = addF ((ks t).foldl (layR (layM n) 2 b (b + 2 * realN (n + 1) t - 1)) (m, b + 1, b)).1 ((ks t).foldl (layR (layM n) 2 b (b + 2 * realN (n + 1) t - 1)) (m, b + 1, b)).2.2 (b + 2 * realN (n + 1) t - 1) := by
  show (if kd t = 1 then _ else if kd t = 2 then _ else _) = _
  rw [if_neg (by omega), if_pos h]
theorem layM_three {n : Nat} {t : Ex (n + 1)} (h : kd t = 3) (b : Nat) (m : Mc) : layM (n + 1) t b m = ((ks t).foldl (layR (layM n) 3 b (b + 2 * realN (n + 1) t - 1)) (m, b + 1, b)).1 := by
  show (if kd t = 1 then _ else if kd t = 2 then _ else if kd t = 3 then _ else _) = _
  rw [if_neg (by omega), if_neg (by omega), if_pos h]
theorem layM_else {n : Nat} {t : Ex (n + 1)} (h1 : kd t ≠ 1) (h2 : kd t ≠ 2) (h3 : kd t ≠ 3) (b : Nat) (m : Mc) : layM (n + 1) t b m = ((ks t).foldl (layR (layM n) (kd t) b (b + 2 * realN (n + 1) t - 1)) (addF m b (b + 2 * realN (n + 1) t - 1), b + 1, b)).1 := by
  show (if kd t = 1 then _ else if kd t = 2 then _ else if kd t = 3 then _ else _) = _
  rw [if_neg h1, if_neg h2, if_neg h3]
theorem ok_kind {k s l : Nat} (h : okE k s l = true) : k = 0 ∨ k = 1 ∨ k = 2 ∨ k = 3 ∨ k = 4 ∨ k = 5 := by
  unfold okE at h
  simp only [Bool.or_eq_true, Bool.and_eq_true, decide_eq_true_eq] at h
  omega

/-- The free steps that lay adds are those of the expression's machine. -/
theorem lay_fr : ∀ (n : Nat) (t : Ex n), full n t → shapesE n t = true → Adds (layM n) (Fr n) t
  | 0, _, h, _ => h.elim
  | n + 1, t, hf, hs => by
    obtain ⟨hok, hsh⟩ := shapes_open hs
    have hx : ∀ x ∈ ks t, Adds (layM n) (Fr n) x ∧ 1 ≤ realN n x := fun x hx => ⟨lay_fr n x (hf x hx) (hsh x hx), real_pos (hf x hx)⟩
    intro b m i z
    rcases ok_kind hok with k | k | k | k | k | k
    · have hl : ks t = [] := List.eq_nil_of_length_eq_zero (ok_none hok (.inl k))
      rw [layM_else (by omega) (by omega) (by omega), hl]
      show z ∈ (addF m b (b + 2 * realN (n + 1) t - 1)).fr i ↔ _
      rw [mem_addF]
      constructor
      · rintro (h | ⟨h1, h2⟩)
        · exact .inl h
        · exact .inr ⟨_, h2, .inr (.inl ⟨k, h1, rfl⟩)⟩
      · rintro (h | ⟨j, e, h⟩)
        · exact .inl h
        · rcases h with ⟨p, hp, _⟩ | ⟨_, h1, h2⟩ | ⟨h, _⟩ | ⟨h, _⟩ | ⟨h, _⟩ | ⟨h, _⟩
          · rw [hl] at hp; cases hp
          · exact .inr ⟨h1, by rw [e, h2]⟩
          all_goals omega
    · have hl : ks t = [] := List.eq_nil_of_length_eq_zero (ok_none hok (.inr k))
      rw [layM_one k]
      show z ∈ m.fr i ↔ _
      constructor
      · exact .inl
      · rintro (h | ⟨j, e, h⟩)
        · exact h
        · rcases h with ⟨p, hp, _⟩ | ⟨h, _⟩ | ⟨h, _⟩ | ⟨h, _⟩ | ⟨h, _⟩ | ⟨h, _⟩
          · rw [hl] at hp; cases hp
          all_goals omega
    · rw [layM_two k, lay_two b _ (ks t) m (b + 1) b i z hx]
      constructor
      · rintro (h | ⟨j, e, h | h⟩)
        · exact .inl h
        · exact .inr ⟨j, e, .inl h⟩
        · exact .inr ⟨j, e, .inr (.inr (.inl ⟨k, h⟩))⟩
      · rintro (h | ⟨j, e, h⟩)
        · exact .inl h
        · rcases h with h | ⟨h, _⟩ | ⟨_, h⟩ | ⟨h, _⟩ | ⟨h, _⟩ | ⟨h, _⟩
          · exact .inr ⟨j, e, .inl h⟩
          · omega
          · exact .inr ⟨j, e, .inr h⟩
          all_goals omega
    · rw [layM_three k, lay_more 3 b _ (by omega) (ks t) m (b + 1) b i z hx]
      constructor
      · rintro (h | ⟨j, e, p, hp, h | h | h | ⟨h, _⟩⟩)
        · exact .inl h
        · exact .inr ⟨j, e, .inl ⟨p, hp, h⟩⟩
        · exact .inr ⟨j, e, .inr (.inr (.inr (.inl ⟨k, p, hp, .inl h⟩)))⟩
        · exact .inr ⟨j, e, .inr (.inr (.inr (.inl ⟨k, p, hp, .inr h⟩)))⟩
        · omega
      · rintro (h | ⟨j, e, h⟩)
        · exact .inl h
        · rcases h with ⟨p, hp, h⟩ | ⟨h, _⟩ | ⟨h, _⟩ | ⟨_, p, hp, h⟩ | ⟨h, _⟩ | ⟨h, _⟩
          · exact .inr ⟨j, e, p, hp, .inl h⟩
          · omega
          · omega
          · rcases h with h | h
            · exact .inr ⟨j, e, p, hp, .inr (.inl h)⟩
            · exact .inr ⟨j, e, p, hp, .inr (.inr (.inl h))⟩
          all_goals omega
    · have hl := ok_one hok (.inl k)
      rw [layM_else (by omega) (by omega) (by omega), k, lay_more 4 b _ (by omega) (ks t) _ (b + 1) b i z hx, mem_addF]
      have hp1 : ∃ p, p ∈ layE (b + 1) (ks t) := by
        cases hc : ks t with
        | nil => rw [hc] at hl; simp at hl
        | cons x r => exact ⟨(b + 1, x), by show (b + 1, x) ∈ (b + 1, x) :: _; simp⟩
      obtain ⟨p1, hp1⟩ := hp1
      constructor
      · rintro ((h | ⟨h1, h2⟩) | ⟨j, e, p, hp, h | h | h | ⟨_, h⟩⟩)
        · exact .inl h
        · exact .inr ⟨_, h2, .inr (.inr (.inr (.inr (.inl ⟨k, p1, hp1, .inr (.inl ⟨h1, rfl⟩)⟩))))⟩
        · exact .inr ⟨j, e, .inl ⟨p, hp, h⟩⟩
        · exact .inr ⟨j, e, .inr (.inr (.inr (.inr (.inl ⟨k, p, hp, .inl h⟩))))⟩
        · exact .inr ⟨j, e, .inr (.inr (.inr (.inr (.inl ⟨k, p, hp, .inr (.inr (.inr h))⟩))))⟩
        · exact .inr ⟨j, e, .inr (.inr (.inr (.inr (.inl ⟨k, p, hp, .inr (.inr (.inl h))⟩))))⟩
      · rintro (h | ⟨j, e, h⟩)
        · exact .inl (.inl h)
        · rcases h with ⟨p, hp, h⟩ | ⟨h, _⟩ | ⟨h, _⟩ | ⟨h, _⟩ | ⟨_, p, hp, h⟩ | ⟨h, _⟩
          · exact .inr ⟨j, e, p, hp, .inl h⟩
          · omega
          · omega
          · omega
          · rcases h with h | ⟨h, h'⟩ | h | h
            · exact .inr ⟨j, e, p, hp, .inr (.inl h)⟩
            · exact .inl (.inr ⟨h, by rw [e, h']⟩)
            · exact .inr ⟨j, e, p, hp, .inr (.inr (.inr ⟨rfl, h⟩))⟩
            · exact .inr ⟨j, e, p, hp, .inr (.inr (.inl h))⟩
          · omega
    · have hl := ok_one hok (.inr k)
      rw [layM_else (by omega) (by omega) (by omega), k, lay_more 5 b _ (by omega) (ks t) _ (b + 1) b i z hx, mem_addF]
      have hp1 : ∃ p, p ∈ layE (b + 1) (ks t) := by
        cases hc : ks t with
        | nil => rw [hc] at hl; simp at hl
        | cons x r => exact ⟨(b + 1, x), by show (b + 1, x) ∈ (b + 1, x) :: _; simp⟩
      obtain ⟨p1, hp1⟩ := hp1
      constructor
      · rintro ((h | ⟨h1, h2⟩) | ⟨j, e, p, hp, h | h | h | ⟨h, _⟩⟩)
        · exact .inl h
        · exact .inr ⟨_, h2, .inr (.inr (.inr (.inr (.inr ⟨k, p1, hp1, .inr (.inl ⟨h1, rfl⟩)⟩))))⟩
        · exact .inr ⟨j, e, .inl ⟨p, hp, h⟩⟩
        · exact .inr ⟨j, e, .inr (.inr (.inr (.inr (.inr ⟨k, p, hp, .inl h⟩))))⟩
        · exact .inr ⟨j, e, .inr (.inr (.inr (.inr (.inr ⟨k, p, hp, .inr (.inr h)⟩))))⟩
        · omega
      · rintro (h | ⟨j, e, h⟩)
        · exact .inl (.inl h)
        · rcases h with ⟨p, hp, h⟩ | ⟨h, _⟩ | ⟨h, _⟩ | ⟨h, _⟩ | ⟨h, _⟩ | ⟨_, p, hp, h⟩
          · exact .inr ⟨j, e, p, hp, .inl h⟩
          · omega
          · omega
          · omega
          · omega
          · rcases h with h | ⟨h, h'⟩ | h
            · exact .inr ⟨j, e, p, hp, .inr (.inl h)⟩
            · exact .inl (.inr ⟨h, by rw [e, h']⟩)
            · exact .inr ⟨j, e, p, hp, .inr (.inr (.inl h))⟩

/-- Rising lists stay rising. -/
def Rising (m : Mc) : Prop := ∀ i, (m.fr i).Pairwise (· < ·)
theorem addF_rising {m : Mc} (h : Rising m) (a x : Nat) : Rising (addF m a x) := fun i => by
  show (if i = a then intoL (m.fr a) (x : Int) else m.fr i).Pairwise (· < ·)
  split
  · exact into_sorted _ (h a)
  · exact h i
theorem layR_rising {n : Nat} {lay1 : Ex n → Nat → Mc → Mc} (h1 : ∀ x b m, Rising m → Rising (lay1 x b m)) (kind b e : Nat) : ∀ (l : List (Ex n)) (q : Mc × Nat × Nat), Rising q.1 → Rising (l.foldl (layR lay1 kind b e) q).1
  | [], _, h => h
  | x :: l, q, h => by
    rw [List.foldl_cons]
    refine layR_rising h1 kind b e l _ ?_
    unfold layR
    split
    · exact addF_rising (h1 _ _ _ h) _ _
    · split
      · exact addF_rising (addF_rising (addF_rising (h1 _ _ _ h) _ _) _ _) _ _
      · exact addF_rising (addF_rising (h1 _ _ _ h) _ _) _ _
theorem lay_rising : ∀ (n : Nat) (t : Ex n) (b : Nat) (m : Mc), Rising m → Rising (layM n t b m)
  | 0, _, _, _, h => h
  | n + 1, t, b, m, h => by
    by_cases k1 : kd t = 1
    · rw [layM_one k1]; exact h
    by_cases k2 : kd t = 2
    · rw [layM_two k2]; exact addF_rising (layR_rising (lay_rising n) _ _ _ _ _ h) _ _
    by_cases k3 : kd t = 3
    · rw [layM_three k3]; exact layR_rising (lay_rising n) _ _ _ _ _ h
    rw [layM_else k1 k2 k3]
    exact layR_rising (lay_rising n) _ _ _ _ _ (addF_rising h _ _)

end Go.Proofs.Ytldeofdjhpfdaaa.A
