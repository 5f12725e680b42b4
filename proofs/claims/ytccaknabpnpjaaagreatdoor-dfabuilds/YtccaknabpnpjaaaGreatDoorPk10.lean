/- What the document's 'lay' writes: the free steps and the sets of an expression's machine. -/
import Derived.Test.YtccaknabpnpjaaaGreatDoorPk9
import Derived.Test.YtccaknabpnpjaaaGreatDoorPk6
namespace Go.Proofs.YtccaknabpnpjaaaGreatDoor.A

theorem layM_one {n : Nat} {t : Ex (n + 1)} (h : kd t = 1) (b : Nat) (m : Mc) : layM (n + 1) t b m = ⟨m.fr, fun i => if i = b then A.st t else m.st i, fun i => if i = b then ((b + 2 * realN (n + 1) t - 1 : Nat) : Int) else m.to i⟩ := by
  show (if kd t = 1 then _ else _) = _
  rw [if_pos h]
theorem layM_two {n : Nat} {t : Ex (n + 1)} (h : kd t = 2) (b : Nat) (m : Mc) : layM (n + 1) t b m = addF ((ks t).foldl (layR (layM n) 2 b (b + 2 * realN (n + 1) t - 1)) (m, b + 1, b)).1 ((ks t).foldl (layR (layM n) 2 b (b + 2 * realN (n + 1) t - 1)) (m, b + 1, b)).2.2 (b + 2 * realN (n + 1) t - 1) := by
  show (if kd t = 1 then _ else if kd t = 2 then _ else _) = _
  rw [if_neg (by omega), if_pos h]
theorem layM_three {n : Nat} {t : Ex (n + 1)} (h : kd t = 3) (b : Nat) (m : Mc) : layM (n + 1) t b m = ((ks t).foldl (layR (layM n) 3 b (b + 2 * realN (n + 1) t - 1)) (m, b + 1, b)).1 := by
  show (if kd t = 1 then _ else if kd t = 2 then _ else if kd t = 3 then _ else _) = _
  rw [if_neg (by omega), if_neg (by omega), if_pos h]
theorem layM_else {n : Nat} {t : Ex (n + 1)} (h1 : kd t ≠ 1) (h2 : kd t ≠ 2) (h3 : kd t ≠ 3) (b : Nat) (m : Mc) : layM (n + 1) t b m = ((ks t).foldl (layR (layM n) (kd t) b (b + 2 * realN (n + 1) t - 1)) (addF m b (b + 2 * realN (n + 1) t - 1), b + 1, b)).1 := by
  show (if kd t = 1 then _ else if kd t = 2 then _ else if kd t = 3 then _ else _) = _
  rw [if_neg h1, if_neg h2, if_neg h3]
theorem ok_kind {k s l : Nat} (h : okE k s l = true) : k = 0 ∨ k = 1 ∨ k = 2 ∨ k = 3 ∨ k = 4 ∨ k = 5 := by
  unfold okE at h
  simp only [Bool.or_eq_true, Bool.and_eq_true, decide_eq_true_eq] at h
  omega

/-- The free steps that lay adds are those of the expression's machine. -/
theorem lay_fr : ∀ (n : Nat) (t : Ex n), full n t → shapesE n t = true → Adds (layM n) (Fr n) t
  | 0, _, h, _ => h.elim
  | n + 1, t, hf, hs => by
    obtain ⟨hok, hsh⟩ := shapes_open hs
    have hx : ∀ x ∈ ks t, Adds (layM n) (Fr n) x ∧ 1 ≤ realN n x := fun x hx => ⟨lay_fr n x (hf x hx) (hsh x hx), real_pos (hf x hx)⟩
    intro b m i z
    rcases ok_kind hok with k | k | k | k | k | k
    · have hl : ks t = [] := List.eq_nil_of_length_eq_zero (ok_none hok (.inl k))
      rw [layM_else (by omega) (by omega) (by omega), hl]
      show z ∈ (addF m b (b + 2 * realN (n + 1) t - 1)).fr i ↔ _
      rw [mem_addF]
      constructor
      · rintro (h | ⟨h1, h2⟩)
        · exact .inl h
        · exact .inr ⟨_, h2, .inr (.inl ⟨k, h1, rfl⟩)⟩
      · rintro (h | ⟨j, e, h⟩)
        · exact .inl h
        · rcases h with ⟨p, hp, _⟩ | ⟨_, h1, h2⟩ | ⟨h, _⟩ | ⟨h, _⟩ | ⟨h, _⟩ | ⟨h, _⟩
          · rw [hl] at hp; cases hp
          · exact .inr ⟨h1, by rw [e, h2]⟩
          all_goals omega
    · have hl : ks t = [] := List.eq_nil_of_length_eq_zero (ok_none hok (.inr k))
      rw [layM_one k]
      show z ∈ m.fr i ↔ _
      constructor
      · exact .inl
      · rintro (h | ⟨j, e, h⟩)
        · exact h
        · rcases h with ⟨p, hp, _⟩ | ⟨h, _⟩ | ⟨h, _⟩ | ⟨h, _⟩ | ⟨h, _⟩ | ⟨h, _⟩
          · rw [hl] at hp; cases hp
          all_goals omega
    · rw [layM_two k, lay_two b _ (ks t) m (b + 1) b i z hx]
      constructor
      · rintro (h | ⟨j, e, h | h⟩)
        · exact .inl h
        · exact .inr ⟨j, e, .inl h⟩
        · exact .inr ⟨j, e, .inr (.inr (.inl ⟨k, h⟩))⟩
      · rintro (h | ⟨j, e, h⟩)
        · exact .inl h
        · rcases h with h | ⟨h, _⟩ | ⟨_, h⟩ | ⟨h, _⟩ | ⟨h, _⟩ | ⟨h, _⟩
          · exact .inr ⟨j, e, .inl h⟩
          · omega
          · exact .inr ⟨j, e, .inr h⟩
          all_goals omega
    · rw [layM_three k, lay_more 3 b _ (by omega) (ks t) m (b + 1) b i z hx]
      constructor
      · rintro (h | ⟨j, e, p, hp, h | h | h | ⟨h, _⟩⟩)
        · exact .inl h
        · exact .inr ⟨j, e, .inl ⟨p, hp, h⟩⟩
        · exact .inr ⟨j, e, .inr (.inr (.inr (.inl ⟨k, p, hp, .inl h⟩)))⟩
        · exact .inr ⟨j, e, .inr (.inr (.inr (.inl ⟨k, p, hp, .inr h⟩)))⟩
        · omega
      · rintro (h | ⟨j, e, h⟩)
        · exact .inl h
        · rcases h with ⟨p, hp, h⟩ | ⟨h, _⟩ | ⟨h, _⟩ | ⟨_, p, hp, h⟩ | ⟨h, _⟩ | ⟨h, _⟩
          · exact .inr ⟨j, e, p, hp, .inl h⟩
          · omega
          · omega
          · rcases h with h | h
            · exact .inr ⟨j, e, p, hp, .inr (.inl h)⟩
            · exact .inr ⟨j, e, p, hp, .inr (.inr (.inl h))⟩
          all_goals omega
    · have hl := ok_one hok (.inl k)
      rw [layM_else (by omega) (by omega) (by omega), k, lay_more 4 b _ (by omega) (ks t) _ (b + 1) b i z hx, mem_addF]
      have hp1 : ∃ p, p ∈ layE (b + 1) (ks t) := by
        cases hc : ks t with
        | nil => rw [hc] at hl; simp at hl
        | cons x r => exact ⟨(b + 1, x), by show (b + 1, x) ∈ (b + 1, x) :: _; simp⟩
      obtain ⟨p1, hp1⟩ := hp1
      constructor
      · rintro ((h | ⟨h1, h2⟩) | ⟨j, e, p, hp, h | h | h | ⟨_, h⟩⟩)
        · exact .inl h
        · exact .inr ⟨_, h2, .inr (.inr (.inr (.inr (.inl ⟨k, p1, hp1, .inr (.inl ⟨h1, rfl⟩)⟩))))⟩
        · exact .inr ⟨j, e, .inl ⟨p, hp, h⟩⟩
        · exact .inr ⟨j, e, .inr (.inr (.inr (.inr (.inl ⟨k, p, hp, .inl h⟩))))⟩
        · exact .inr ⟨j, e, .inr (.inr (.inr (.inr (.inl ⟨k, p, hp, .inr (.inr (.inr h))⟩))))⟩
        · exact .inr ⟨j, e, .inr (.inr (.inr (.inr (.inl ⟨k, p, hp, .inr (.inr (.inl h))⟩))))⟩
      · rintro (h | ⟨j, e, h⟩)
        · exact .inl (.inl h)
        · rcases h with ⟨p, hp, h⟩ | ⟨h, _⟩ | ⟨h, _⟩ | ⟨h, _⟩ | ⟨_, p, hp, h⟩ | ⟨h, _⟩
          · exact .inr ⟨j, e, p, hp, .inl h⟩
          · omega
          · omega
          · omega
          · rcases h with h | ⟨h, h'⟩ | h | h
            · exact .inr ⟨j, e, p, hp, .inr (.inl h)⟩
            · exact .inl (.inr ⟨h, by rw [e, h']⟩)
            · exact .inr ⟨j, e, p, hp, .inr (.inr (.inr ⟨rfl, h⟩))⟩
            · exact .inr ⟨j, e, p, hp, .inr (.inr (.inl h))⟩
          · omega
    · have hl := ok_one hok (.inr k)
      rw [layM_else (by omega) (by omega) (by omega), k, lay_more 5 b _ (by omega) (ks t) _ (b + 1) b i z hx, mem_addF]
      have hp1 : ∃ p, p ∈ layE (b + 1) (ks t) := by
        cases hc : ks t with
        | nil => rw [hc] at hl; simp at hl
        | cons x r => exact ⟨(b + 1, x), by show (b + 1, x) ∈ (b + 1, x) :: _; simp⟩
      obtain ⟨p1, hp1⟩ := hp1
      constructor
      · rintro ((h | ⟨h1, h2⟩) | ⟨j, e, p, hp, h | h | h | ⟨h, _⟩⟩)
        · exact .inl h
        · exact .inr ⟨_, h2, .inr (.inr (.inr (.inr (.inr ⟨k, p1, hp1, .inr (.inl ⟨h1, rfl⟩)⟩))))⟩
        · exact .inr ⟨j, e, .inl ⟨p, hp, h⟩⟩
        · exact .inr ⟨j, e, .inr (.inr (.inr (.inr (.inr ⟨k, p, hp, .inl h⟩))))⟩
        · exact .inr ⟨j, e, .inr (.inr (.inr (.inr (.inr ⟨k, p, hp, .inr (.inr h)⟩))))⟩
        · omega
      · rintro (h | ⟨j, e, h⟩)
        · exact .inl (.inl h)
        · rcases h with ⟨p, hp, h⟩ | ⟨h, _⟩ | ⟨h, _⟩ | ⟨h, _⟩ | ⟨h, _⟩ | ⟨_, p, hp, h⟩
          · exact .inr ⟨j, e, p, hp, .inl h⟩
          · omega
          · omega
          · omega
          · omega
          · rcases h with h | ⟨h, h'⟩ | h
            · exact .inr ⟨j, e, p, hp, .inr (.inl h)⟩
            · exact .inl (.inr ⟨h, by rw [e, h']⟩)
            · exact .inr ⟨j, e, p, hp, .inr (.inr (.inl h))⟩

/-- Rising lists stay rising. -/
def Rising (m : Mc) : Prop := ∀ i, (m.fr i).Pairwise (· < ·)
theorem addF_rising {m : Mc} (h : Rising m) (a x : Nat) : Rising (addF m a x) := fun i => by
  show (if i = a then intoL (m.fr a) (x : Int) else m.fr i).Pairwise (· < ·)
  split
  · exact into_sorted _ (h a)
  · exact h i
theorem layR_rising {n : Nat} {lay1 : Ex n → Nat → Mc → Mc} (h1 : ∀ x b m, Rising m → Rising (lay1 x b m)) (kind b e : Nat) : ∀ (l : List (Ex n)) (q : Mc × Nat × Nat), Rising q.1 → Rising (l.foldl (layR lay1 kind b e) q).1
  | [], _, h => h
  | x :: l, q, h => by
    rw [List.foldl_cons]
    refine layR_rising h1 kind b e l _ ?_
    unfold layR
    split
    · exact addF_rising (h1 _ _ _ h) _ _
    · split
      · exact addF_rising (addF_rising (addF_rising (h1 _ _ _ h) _ _) _ _) _ _
      · exact addF_rising (addF_rising (h1 _ _ _ h) _ _) _ _
theorem lay_rising : ∀ (n : Nat) (t : Ex n) (b : Nat) (m : Mc), Rising m → Rising (layM n t b m)
  | 0, _, _, _, h => h
  | n + 1, t, b, m, h => by
    by_cases k1 : kd t = 1
    · rw [layM_one k1]; exact h
    by_cases k2 : kd t = 2
    · rw [layM_two k2]; exact addF_rising (layR_rising (lay_rising n) _ _ _ _ _ h) _ _
    by_cases k3 : kd t = 3
    · rw [layM_three k3]; exact layR_rising (lay_rising n) _ _ _ _ _ h
    rw [layM_else k1 k2 k3]
    exact layR_rising (lay_rising n) _ _ _ _ _ (addF_rising h _ _)

end Go.Proofs.YtccaknabpnpjaaaGreatDoor.A

/- What the document's 'lay' writes: the sets; the machine of several expressions. -/
namespace Go.Proofs.YtccaknabpnpjaaaGreatDoor.A

/-- A state's set and where it leads are what a step says, or as they were. -/
def Sets (P : Nat → Nat → Nat → Prop) (m m' : Mc) : Prop := ∀ i, (∃ s j, P i s j ∧ m'.st i = s ∧ m'.to i = (j : Int)) ∨ ((¬ ∃ s j, P i s j) ∧ m'.st i = m.st i ∧ m'.to i = m.to i)
theorem layR_sets {n : Nat} {lay1 : Ex n → Nat → Mc → Mc} {R : Ex n → Nat → Nat → Nat → Nat → Prop} (kind b e : Nat) : ∀ (l : List (Ex n)) (m : Mc) (s last : Nat), (∀ x ∈ l, (∀ b m, Sets (R x b) m (lay1 x b m)) ∧ 1 ≤ realN n x) →
    Sets (fun i u j => ∃ p ∈ layE s l, R p.2 p.1 i u j) m (l.foldl (layR lay1 kind b e) (m, s, last)).1
  | [], m, s, last, _ => fun i => .inr ⟨(by rintro ⟨_, _, p, hp, _⟩; cases hp), rfl, rfl⟩
  | x :: l, m, s, last, h => by
    obtain ⟨hx, h1⟩ := h x (by simp)
    have es : s + 2 * realN n x - 1 + 1 = s + 2 * realN n x := by omega
    rw [List.foldl_cons]
    obtain ⟨m1, last1, er, e1, e2⟩ : ∃ m1 last1, layR lay1 kind b e (m, s, last) x = (m1, s + 2 * realN n x - 1 + 1, last1) ∧ m1.st = (lay1 x s m).st ∧ m1.to = (lay1 x s m).to := by
      unfold layR
      split
      · exact ⟨_, _, rfl, rfl, rfl⟩
      · split
        · exact ⟨_, _, rfl, rfl, rfl⟩
        · exact ⟨_, _, rfl, rfl, rfl⟩
    rw [er, es]
    have ih := layR_sets kind b e l m1 (s + 2 * realN n x) last1 (fun y hy => h y (by simp [hy]))
    intro i
    rcases ih i with ⟨u, j, ⟨p, hp, hr⟩, q1, q2⟩ | ⟨hn, q1, q2⟩
    · exact .inl ⟨u, j, ⟨p, by show p ∈ (s, x) :: _; simp [hp], hr⟩, q1, q2⟩
    · rw [q1, q2, e1, e2]
      rcases hx s m i with ⟨u, j, hr, q3, q4⟩ | ⟨hn', q3, q4⟩
      · exact .inl ⟨u, j, ⟨(s, x), by show (s, x) ∈ (s, x) :: _; simp, hr⟩, q3, q4⟩
      · refine .inr ⟨?_, q3, q4⟩
        rintro ⟨u, j, p, hp, hr⟩
        rcases List.mem_cons.1 (show p ∈ (s, x) :: layE (s + 2 * realN n x) l from hp) with rfl | hp
        · exact hn' ⟨u, j, hr⟩
        · exact hn ⟨u, j, p, hp, hr⟩
theorem lay_sets : ∀ (n : Nat) (t : Ex n), full n t → shapesE n t = true → ∀ (b : Nat) (m : Mc), Sets (Sp n t b) m (layM n t b m)
  | 0, _, h, _ => h.elim
  | n + 1, t, hf, hs => by
    obtain ⟨hok, hsh⟩ := shapes_open hs
    have hx : ∀ x ∈ ks t, (∀ b m, Sets (Sp n x b) m (layM n x b m)) ∧ 1 ≤ realN n x := fun x hx => ⟨lay_sets n x (hf x hx) (hsh x hx), real_pos (hf x hx)⟩
    intro b m
    by_cases k1 : kd t = 1
    · have hl : ks t = [] := List.eq_nil_of_length_eq_zero (ok_none hok (.inr k1))
      rw [layM_one k1]
      intro i
      by_cases e : i = b
      · exact .inl ⟨A.st t, b + 2 * realN (n + 1) t - 1, .inl ⟨k1, e, rfl, rfl⟩, by show (if i = b then _ else _) = _; rw [if_pos e], by show (if i = b then _ else _) = _; rw [if_pos e]⟩
      · refine .inr ⟨?_, by show (if i = b then _ else _) = _; rw [if_neg e], by show (if i = b then _ else _) = _; rw [if_neg e]⟩
        rintro ⟨u, j, ⟨_, h, _⟩ | ⟨p, hp, _⟩⟩
        · exact e h
        · rw [hl] at hp; cases hp
    · have go : ∀ m m' : Mc, Sets (fun i u j => ∃ p ∈ layE (b + 1) (ks t), Sp n p.2 p.1 i u j) m m' → Sets (Sp (n + 1) t b) m m' := fun m m' h i => by
        rcases h i with ⟨u, j, hr, q1, q2⟩ | ⟨hn, q1, q2⟩
        · exact .inl ⟨u, j, .inr hr, q1, q2⟩
        · refine .inr ⟨?_, q1, q2⟩
          rintro ⟨u, j, ⟨h, _⟩ | h⟩
          · exact k1 h
          · exact hn ⟨u, j, h⟩
      by_cases k2 : kd t = 2
      · rw [layM_two k2]
        exact go m _ (layR_sets 2 b _ (ks t) m (b + 1) b hx)
      by_cases k3 : kd t = 3
      · rw [layM_three k3]
        exact go m _ (layR_sets 3 b _ (ks t) m (b + 1) b hx)
      rw [layM_else k1 k2 k3]
      exact go m _ (layR_sets (kd t) b _ (ks t) (addF m b (b + 2 * realN (n + 1) t - 1)) (b + 1) b hx)
/-- A state has one step by a set. -/
theorem sp_one : ∀ (n : Nat) (t : Ex n) (b i s j s' j' : Nat), full n t → shapesE n t = true → Sp n t b i s j → Sp n t b i s' j' → s = s' ∧ j = j'
  | 0, _, _, _, _, _, _, _, h, _, _, _ => h.elim
  | n + 1, t, b, i, s, j, s', j', hf, hs, h, h' => by
    obtain ⟨hok, hsh⟩ := shapes_open hs
    rcases h with ⟨k, _, e1, e2⟩ | ⟨p, hp, h⟩
    · have hl : ks t = [] := List.eq_nil_of_length_eq_zero (ok_none hok (.inr k))
      rcases h' with ⟨_, _, e3, e4⟩ | ⟨p, hp, _⟩
      · exact ⟨e1.trans e3.symm, e2.trans e4.symm⟩
      · rw [hl] at hp; cases hp
    · rcases h' with ⟨k, _, _, _⟩ | ⟨p', hp', h'⟩
      · have hl : ks t = [] := List.eq_nil_of_length_eq_zero (ok_none hok (.inr k))
        rw [hl] at hp; cases hp
      · have a := lay_in hf hp
        have a' := lay_in hf hp'
        have r := sp_rng n p.2 p.1 i s j a.2.2.2.1 h
        have r' := sp_rng n p'.2 p'.1 i s' j' a'.2.2.2.1 h'
        obtain rfl := lay_uniq (ks t) _ i p p' hf hp hp' r.1 (by unfold en; omega) r'.1 (by unfold en; omega)
        exact sp_one n p.2 p.1 i s j s' j' a.2.2.2.1 (hsh _ a.2.2.2.2.1) h h'

/-- What the document's Build does with a list of expressions. -/
def layA {n : Nat} : List (Ex n) → Nat → Mc → Mc
  | [], _, m => m
  | x :: l, b, m => layA l (b + 2 * realN n x) (addF (layM n x b m) 0 b)
theorem layA_fr {n : Nat} : ∀ (l : List (Ex n)) (b : Nat) (m : Mc) (i : Nat) (z : Int), (∀ x ∈ l, full n x ∧ shapesE n x = true) → (z ∈ (layA l b m).fr i ↔ z ∈ m.fr i ∨ ∃ j : Nat, z = j ∧ ∃ p ∈ layE b l, (i = 0 ∧ j = p.1) ∨ Fr n p.2 p.1 i j)
  | [], b, m, i, z, _ => by
    show z ∈ m.fr i ↔ _
    constructor
    · exact .inl
    · rintro (h | ⟨_, _, p, hp, _⟩)
      · exact h
      · cases hp
  | x :: l, b, m, i, z, h => by
    obtain ⟨h1, h2⟩ := h x (by simp)
    show z ∈ (layA l (b + 2 * realN n x) (addF (layM n x b m) 0 b)).fr i ↔ z ∈ m.fr i ∨ ∃ j : Nat, z = j ∧ ∃ p ∈ (b, x) :: layE (b + 2 * realN n x) l, (i = 0 ∧ j = p.1) ∨ Fr n p.2 p.1 i j
    rw [layA_fr l _ _ i z (fun y hy => h y (by simp [hy])), mem_addF, lay_fr n x h1 h2 b m i z]
    constructor
    · rintro (((h | ⟨j, e1, e2⟩) | ⟨e1, e2⟩) | ⟨j, e1, p, hp, e2⟩)
      · exact .inl h
      · exact .inr ⟨j, e1, (b, x), by simp, .inr e2⟩
      · exact .inr ⟨b, e2, (b, x), by simp, .inl ⟨e1, rfl⟩⟩
      · exact .inr ⟨j, e1, p, by simp [hp], e2⟩
    · rintro (h | ⟨j, e1, p, hp, e2⟩)
      · exact .inl (.inl (.inl h))
      · rcases List.mem_cons.1 hp with rfl | hp
        · rcases e2 with ⟨e2, e3⟩ | e2
          · exact .inl (.inr ⟨e2, by rw [e1, e3]⟩)
          · exact .inl (.inl (.inr ⟨j, e1, e2⟩))
        · exact .inr ⟨j, e1, p, hp, e2⟩
theorem layA_rising {n : Nat} : ∀ (l : List (Ex n)) (b : Nat) (m : Mc), Rising m → Rising (layA l b m)
  | [], _, _, h => h
  | x :: l, b, m, h => layA_rising l _ _ (addF_rising (lay_rising n x b m h) 0 b)
theorem layA_sets {n : Nat} : ∀ (l : List (Ex n)) (b : Nat) (m : Mc), (∀ x ∈ l, full n x ∧ shapesE n x = true) → Sets (fun i u j => ∃ p ∈ layE b l, Sp n p.2 p.1 i u j) m (layA l b m)
  | [], b, m, _ => fun i => .inr ⟨(by rintro ⟨_, _, p, hp, _⟩; cases hp), rfl, rfl⟩
  | x :: l, b, m, h => by
    obtain ⟨h1, h2⟩ := h x (by simp)
    have ih := layA_sets l (b + 2 * realN n x) (addF (layM n x b m) 0 b) (fun y hy => h y (by simp [hy]))
    intro i
    rcases ih i with ⟨u, j, ⟨p, hp, hr⟩, q1, q2⟩ | ⟨hn, q1, q2⟩
    · exact .inl ⟨u, j, ⟨p, by show p ∈ (b, x) :: _; simp [hp], hr⟩, q1, q2⟩
    · show (∃ u j, _ ∧ (layA l (b + 2 * realN n x) (addF (layM n x b m) 0 b)).st i = _ ∧ _) ∨ (_ ∧ (layA l (b + 2 * realN n x) (addF (layM n x b m) 0 b)).st i = _ ∧ _)
      rcases lay_sets n x h1 h2 b m i with ⟨u, j, hr, q3, q4⟩ | ⟨hn', q3, q4⟩
      · exact .inl ⟨u, j, ⟨(b, x), by show (b, x) ∈ (b, x) :: _; simp, hr⟩, q1.trans q3, q2.trans q4⟩
      · refine .inr ⟨?_, q1.trans q3, q2.trans q4⟩
        rintro ⟨u, j, p, hp, hr⟩
        rcases List.mem_cons.1 (show p ∈ (b, x) :: layE (b + 2 * realN n x) l from hp) with rfl | hp
        · exact hn' ⟨u, j, hr⟩
        · exact hn ⟨u, j, p, hp, hr⟩
/-- The empty machine. -/
def mc0 : Mc := ⟨fun _ => [], fun _ => 0, fun _ => 0⟩
/-- The free steps of the machine of expressions, as lists. -/
theorem build_fr {n : Nat} {ts : List (Ex n)} (h : ∀ x ∈ ts, full n x ∧ shapesE n x = true) (i : Nat) (z : Int) : z ∈ (layA ts 1 mc0).fr i ↔ ∃ j : Nat, z = j ∧ FrA ts i j := by
  rw [layA_fr ts 1 mc0 i z h]
  constructor
  · rintro (h | h)
    · cases h
    · exact h
  · exact .inr

end Go.Proofs.YtccaknabpnpjaaaGreatDoor.A

/- Ahead of layer 6: what is come to by the document's Close and Step, letter by letter, is what ways lead to. -/
namespace Go.Proofs.YtccaknabpnpjaaaGreatDoor.A

/-- A machine's free steps, and those by a set, as they lie in its lists. -/
def Ff (fs : List (List Int)) (i j : Nat) : Prop := ∃ l, fs[i]? = some l ∧ (j : Int) ∈ l
def Sf (ss : List Nat) (ts : List Int) (i s j : Nat) : Prop := ss[i]? = some s ∧ ts[i]? = some (j : Int)
theorem stpB_iff (ss : List Nat) (ts : List Int) (c : Int) (o : Nat → Bool) (N j : Nat) : stpB ss ts c o N j = true ↔ ∃ i s, i < N ∧ o i = true ∧ Sf ss ts i s j ∧ inS s c = true := by
  unfold stpB
  rw [List.any_eq_true]
  constructor
  · rintro ⟨i, hi, h⟩
    rw [Bool.and_eq_true] at h
    obtain ⟨h1, h2⟩ := h
    split at h2
    · rename_i s t hs ht
      rw [Bool.and_eq_true, beq_iff_eq] at h2
      exact ⟨i, s, by simpa using hi, h1, ⟨hs, by rw [ht, h2.2]⟩, h2.1⟩
    · cases h2
  · rintro ⟨i, s, hi, ho, ⟨hs, ht⟩, hc⟩
    refine ⟨i, by simpa using hi, ?_⟩
    rw [hs, ht]
    simp [ho, hc]
/-- What is come to behind so many letters. -/
def IsRun (fs : List (List Int)) (ss : List Nat) (ts : List Int) (N : Nat) (word : List Int) : Nat → (Nat → Bool) → Prop
  | 0, g => IsCl fs N (fun j => decide (j = 0)) g
  | k + 1, g => ∃ h, IsRun fs ss ts N word k h ∧ IsCl fs N (stpB ss ts (word.getD k 0) h N) g
theorem rch_wy {fs : List (List Int)} {S : Nat → Nat → Nat → Prop} {N k : Nat} {o : Nat → Bool} {word : List Int} (h0 : ∀ j, j < N → o j = true → Wy word (Ff fs) S 0 0 j k) {q : Nat} (h : Rch fs N o q) : Wy word (Ff fs) S 0 0 q k := by
  induction h with
  | here hn h => exact h0 _ hn h
  | on _ hl hj ih => exact ih.free ⟨_, hl, hj⟩
theorem run_cl {fs : List (List Int)} {ss : List Nat} {ts : List Int} {N : Nat} {word : List Int} : ∀ (k : Nat) (g : Nat → Bool), IsRun fs ss ts N word k g → ∃ o, IsCl fs N o g
  | 0, _, h => ⟨_, h⟩
  | _ + 1, _, ⟨_, _, h⟩ => ⟨_, h⟩
theorem run_wy {fs : List (List Int)} {ss : List Nat} {ts : List Int} {N : Nat} {word : List Int} (hN : 0 < N) (hs : ss.length = N) (hokF : ∀ (i : Nat) (l : List Int), fs[i]? = some l → ∀ z ∈ l, 0 ≤ z ∧ z < (N : Int)) (hok : ∀ (i s : Nat) (t : Int), ss[i]? = some s → ts[i]? = some t → 0 < s → 0 ≤ t ∧ t < N) (k : Nat) (hk : k ≤ word.length) (g : Nat → Bool) (hg : IsRun fs ss ts N word k g) (q : Nat) (hq : q < N) :
    g q = true ↔ Wy word (Ff fs) (Sf ss ts) 0 0 q k := by
  constructor
  · have go : ∀ k, k ≤ word.length → ∀ g, IsRun fs ss ts N word k g → ∀ q, q < N → g q = true → Wy word (Ff fs) (Sf ss ts) 0 0 q k := by
      intro k
      induction k with
      | zero =>
        intro _ g hg q hq h
        refine rch_wy (fun j _ hj => ?_) ((hg q hq).1 h)
        have : j = 0 := by simpa using hj
        subst this
        exact .here
      | succ k ih =>
        intro hk g hg q hq h
        obtain ⟨f, hf, hg⟩ := hg
        refine rch_wy (fun j _ hj => ?_) ((hg q hq).1 h)
        obtain ⟨i, s, hi, ho, hS, hc⟩ := (stpB_iff _ _ _ _ _ _).1 hj
        refine (ih (by omega) f hf i hi ho).step hS (c := word.getD k 0) ?_ hc
        rw [List.getD_eq_getElem?_getD, List.getElem?_eq_getElem (by omega)]; rfl
    exact go k hk g hg q hq
  · intro h
    have go : ∀ q k, Wy word (Ff fs) (Sf ss ts) 0 0 q k → q < N ∧ ∀ g, IsRun fs ss ts N word k g → g q = true := by
      intro q k h
      induction h with
      | here => exact ⟨hN, fun g hg => (hg 0 hN).2 (.here hN (by simp))⟩
      | @free q i q' _ f ih =>
        obtain ⟨l, hl, hj⟩ := f
        have hq' : q' < N := by have := hokF _ _ hl _ hj; omega
        refine ⟨hq', fun g hg => ?_⟩
        obtain ⟨o, ho⟩ := run_cl i g hg
        exact (ho q' hq').2 (.on ((ho q ih.1).1 (ih.2 g hg)) hl hj)
      | @step q i s q' c _ hS hc hin ih =>
        have hpos : 0 < s := by
          rcases Nat.eq_zero_or_pos s with e | e
          · subst e; simp [inS] at hin
          · exact e
        have hr := hok q s q' hS.1 hS.2 hpos
        have ec : word.getD i 0 = c := by rw [List.getD_eq_getElem?_getD, hc]; rfl
        refine ⟨by omega, fun g hg => ?_⟩
        obtain ⟨f, hf, hg⟩ := hg
        exact (hg q' (by omega)).2 (.here (by omega) ((stpB_iff _ _ _ _ _ _).2 ⟨q, s, ih.1, ih.2 f hf, hS, by rw [ec]; exact hin⟩))
    exact (go q k h).2 g hg

end Go.Proofs.YtccaknabpnpjaaaGreatDoor.A
