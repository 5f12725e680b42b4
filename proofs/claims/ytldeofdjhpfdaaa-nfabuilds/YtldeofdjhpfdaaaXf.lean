/- What the document's 'lay' writes: the sets; the machine of several expressions. -/
import Derived.Test.YtldeofdjhpfdaaaXe
namespace Go.Proofs.Ytldeofdjhpfdaaa.A

/-- A state's set and where it leads are what a step says, or as they were. -/
def Sets (P : Nat → Nat → Nat → Prop) (m m' : Mc) : Prop := ∀ i, (∃ s j, P i s j ∧ m'.st i = s ∧ m'.to i = (j : Int)) ∨ ((¬ ∃ s j, P i s j) ∧ m'.st i = m.st i ∧ m'.to i = m.to i)
theorem layR_sets {n : Nat} {lay1 : Ex n → Nat → Mc → Mc} {R : Ex n → Nat → Nat → Nat → Nat → Prop} (kind b e : Nat) : ∀ (l : List (Ex n)) (m : Mc) (s last : Nat), (∀ x ∈ l, (∀ b m, Sets (R x b) m (lay1 x b m)) ∧ 1 ≤ realN n x) →
    Sets (fun i u j => ∃ p ∈ layE s l, R p.2 p.1 i u j) m (l.foldl (layR lay1 kind b e) (m, s, last)).1
  | [], m, s, last, _ => fun i => .inr ⟨(by rintro ⟨_, _, p, hp, _⟩; cases hp), rfl, rfl⟩
  | x :: l, m, s, last, h => by
    obtain ⟨hx, h1⟩ := h x (by simp)
    have es : s + 2 * realN n x - 1 + 1 = s + 2 * realN n x := by omega
    rw [List.foldl_cons]
    obtain ⟨m1, last1, er, e1, e2⟩ : ∃ m1 last1, layR lay1 kind b e (m, s, last) x = (m1, s + 2 * realN n x - 1 + 1, last1) ∧ m1.st = (lay1 x s m).st ∧ m1.to = (lay1 x s m).to := by
      unfold layR
      split
      · exact ⟨_, _, rfl, rfl, rfl⟩
      · split
        · exact ⟨_, _, rfl, rfl, rfl⟩
        · exact ⟨_, _, rfl, rfl, rfl⟩
    rw [er, es]
    have ih := layR_sets kind b e l m1 (s + 2 * realN n x) last1 (fun y hy => h y (by simp [hy]))
    intro i
    rcases ih i with ⟨u, j, ⟨p, hp, hr⟩, q1, q2⟩ | ⟨hn, q1, q2⟩
    · exact .inl ⟨u, j, ⟨p, by show p ∈ (s, x) :: _; simp [hp], hr⟩, q1, q2⟩
    · rw [q1, q2, e1, e2]
      rcases hx s m i with ⟨u, j, hr, q3, q4⟩ | ⟨hn', q3, q4⟩
      · exact .inl ⟨u, j, ⟨(s, x), by show (s, x) ∈ (s, x) :: _; simp, hr⟩, q3, q4⟩
      · refine .inr ⟨?_, q3, q4⟩
        rintro ⟨u, j, p, hp, hr⟩
        rcases List.mem_cons.1 (show p ∈ (s, x) :: layE (s + 2 * realN n x) l from hp) with rfl | hp
        · exact hn' ⟨u, j, hr⟩
        · exact hn ⟨u, j, p, hp, hr⟩
theorem lay_sets : ∀ (n : Nat) (t : Ex n), full n t → shapesE n t = true → ∀ (b : Nat) (m : Mc), Sets (Sp n t b) m (layM n t b m)
  | 0, _, h, _ => h.elim
  | n + 1, t, hf, hs => by
    obtain ⟨hok, hsh⟩ := shapes_open hs
    have hx : ∀ x ∈ ks t, (∀ b m, Sets (Sp n x b) m (layM n x b m)) ∧ 1 ≤ realN n x := fun x hx => ⟨lay_sets n x (hf x hx) (hsh x hx), real_pos (hf x hx)⟩
    intro b m
    by_cases k1 : kd t = 1
    · have hl : ks t = [] := List.eq_nil_of_length_eq_zero (ok_none hok (.inr k1))
      rw [layM_one k1]
      intro i
      by_cases e : i = b
      · exact .inl ⟨A.st t, b + 2 * realN (n + 1) t - 1, .inl ⟨k1, e, rfl, rfl⟩, by show (if i = b then _ else _) = _; rw [if_pos e], by show (if i = b then _ else _) = _; rw [if_pos e]⟩
      · refine .inr ⟨?_, by show (if i = b then _ else _) = _; rw [if_neg e], by show (if i = b then _ else _) = _; rw [if_neg e]⟩
        rintro ⟨u, j, ⟨_, h, _⟩ | ⟨p, hp, _⟩⟩
        · exact e h
        · rw [hl] at hp; cases hp
    · have go : ∀ m m' : Mc, Sets (fun i u j => ∃ p ∈ layE (b + 1) (ks t), Sp n p.2 p.1 i u j) m m' → Sets (Sp (n + 1) t b) m m' := fun m m' h i => by
        rcases h i with ⟨u, j, hr, q1, q2⟩ | ⟨hn, q1, q2⟩
        · exact .inl ⟨u, j, .inr hr, q1, q2⟩
        · refine .inr ⟨?_, q1, q2⟩
          rintro ⟨u, j, ⟨h, _⟩ | h⟩
          · exact k1 h
          · exact hn ⟨u, j, h⟩
      by_cases k2 : kd t = 2
      · rw [layM_two k2]
        exact go m _ (layR_sets 2 b _ (ks t) m (b + 1) b hx)
      by_cases k3 : kd t = 3
      · rw [layM_three k3]
        exact go m _ (layR_sets 3 b _ (ks t) m (b + 1) b hx)
      rw [layM_else k1 k2 k3]
      exact go m _ (layR_sets (kd t) b _ (ks t) (addF m b (b + 2 * realN (n + 1) t - 1)) (b + 1) b hx)
/-- A state has one step by a set. -/
theorem sp_one : ∀ (n : Nat) (t : Ex n) (b i s j s' j' : Nat), full n t → shapesE n t = true → Sp n t b i s j → Sp n t b i s' j' → s = s' ∧ j = j'
  | 0, _, _, _, _, _, _, _, h, _, _, _ => h.elim
  | n + 1, t, b, i, s, j, s', j', hf, hs, h, h' => by
    obtain ⟨hok, hsh⟩ := shapes_open hs
    rcases h with ⟨k, _, e1, e2⟩ | ⟨p, hp, h⟩
    · have hl : ks t = [] := List.eq_nil_of_length_eq_zero (ok_none hok (.inr k))
      rcases h' with ⟨_, _, e3, e4⟩ | ⟨p, hp, _⟩
      · exact ⟨e1.trans e3.symm, e2.trans e4.symm⟩
      · rw [hl] at hp; cases hp
    · rcases h' with ⟨k, _, _, _⟩ | ⟨p', hp', h'⟩
      · have hl : ks t = [] := List.eq_nil_of_length_eq_zero (ok_none hok (.inr k))
        rw [hl] at hp; cases hp
      · have a := lay_in hf hp
        have a' := lay_in hf hp'
        have r := sp_rng n p.2 p.1 i s j a.2.2.2.1 h
        have r' := sp_rng n p'.2 p'.1 i s' j' a'.2.2.2.1 h'
        obtain rfl := lay_uniq (ks t) _ i p p' hf hp hp' r.1 (by unfold en; omega) r'.1 (by unfold en; omega)
        exact sp_one n p.2 p.1 i s j s' j' a.2.2.2.1 (hsh _ a.2.2.2.2.1) h h'

/-- What the document's Build does with a list of expressions. -/
def layA {n : Nat} : List (Ex n) → Nat → Mc → Mc
  | [], _, m => m
  | x :: l, b, m => layA l (b + 2 * realN n x) (addF (layM n x b m) 0 b)
theorem layA_fr {n : Nat} : ∀ (l : List (Ex n)) (b : Nat) (m : Mc) (i : Nat) (z : Int), (∀ x ∈ l, full n x ∧ shapesE n x = true) → (z ∈ (layA l b m).fr i ↔ z ∈ m.fr i ∨ ∃ j : Nat, z = j ∧ ∃ p ∈ layE b l, (i = 0 ∧ j = p.1) ∨ Fr n p.2 p.1 i j)
  | [], b, m, i, z, _ => by
    show z ∈ m.fr i ↔ _
    constructor
    · exact .inl
    · rintro (h | ⟨_, _, p, hp, _⟩)
      · exact h
      · cases hp
  | x :: l, b, m, i, z, h => by
    obtain ⟨h1, h2⟩ := h x (by simp)
    show z ∈ (layA l (b + 2 * realN n x) (addF (layM n x b m) 0 b)).fr i ↔ z ∈ m.fr i ∨ ∃ j : Nat, z = j ∧ ∃ p ∈ (b, x) :: layE (b + 2 * realN n x) l, (i = 0 ∧ j = p.1) ∨ Fr n p.2 p.1 i j
    rw [layA_fr l _ _ i z (fun y hy => h y (by simp [hy])), mem_addF, lay_fr n x h1 h2 b m i z]
    constructor
    · rintro (((h | ⟨j, e1, e2⟩) | ⟨e1, e2⟩) | ⟨j, e1, p, hp, e2⟩)
      · exact .inl h
      · exact .inr ⟨j, e1, (b, x), by simp, .inr e2⟩
      · exact .inr ⟨b, e2, (b, x), by simp, .inl ⟨e1, rfl⟩⟩
      · exact .inr ⟨j, e1, p, by simp [hp], e2⟩
    · rintro (h | ⟨j, e1, p, hp, e2⟩)
      · exact .inl (.inl (.inl h))
      · rcases List.mem_cons.1 hp with rfl | hp
        · rcases e2 with ⟨e2, e3⟩ | e2
          · exact .inl (.inr ⟨e2, by rw [e1, e3]⟩)
          · exact .inl (.inl (.inr ⟨j, e1, e2⟩))
        · exact .inr ⟨j, e1, p, hp, e2⟩
theorem layA_rising {n : Nat} : ∀ (l : List (Ex n)) (b : Nat) (m : Mc), Rising m → Rising (layA l b m)
  | [], _, _, h => h
  | x :: l, b, m, h => layA_rising l _ _ (addF_rising (lay_rising n x b m h) 0 b)
theorem layA_sets {n : Nat} : ∀ (l : List (Ex n)) (b : Nat) (m : Mc), (∀ x ∈ l, full n x ∧ shapesE n x = true) → Sets (fun i u j => ∃ p ∈ layE b l, Sp n p.2 p.1 i u j) m (layA l b m)
  | [], b, m, _ => fun i => .inr ⟨(by rintro ⟨_, _, p, hp, _⟩; cases hp), rfl, rfl⟩
  | x :: l, b, m, h => by
    obtain ⟨h1, h2⟩ := h x (by simp)
    have ih := layA_sets l (b + 2 * realN n x) (addF (layM n x b m) 0 b) (fun y hy => h y (by simp [hy]))
    intro i
    rcases ih i with ⟨u, j, ⟨p, hp, hr⟩, q1, q2⟩ | ⟨hn, q1, q2⟩
    · exact .inl ⟨u, j, ⟨p, by show p ∈ (b, x) :: _; simp [hp], hr⟩, q1, q2⟩
    · show (∃ u j, _ ∧ (layA l (b + 2 * realN n x) (addF (layM n x b m) 0 b)).st i = _ ∧ _) ∨ (_ ∧ (layA l (b + 2 * realN n x) (addF (layM n x b m) 0 b)).st i = _ ∧ _)
      rcases lay_sets n x h1 h2 b m i with ⟨u, j, hr, q3, q4⟩ | ⟨hn', q3, q4⟩
      · exact .inl ⟨u, j, ⟨(b, x), by show (b, x) ∈ (b, x) :: _; simp, hr⟩, q1.trans q3, q2.trans q4⟩
      · refine .inr ⟨?_, q1.trans q3, q2.trans q4⟩
        rintro ⟨u, j, p, hp, hr⟩
        rcases List.mem_cons.1 (show p ∈ (b, x) :: layE (b + 2 * realN n x) l from hp) with rfl | hp
        · exact hn' ⟨u, j, hr⟩
        · exact hn ⟨u, j, p, hp, hr⟩
/-- The empty machine. -/
def mc0 : Mc := ⟨fun _ => [], fun _ => 0, fun _ => 0⟩
/-- The free steps of the machine of expressions, as lists. -/
theorem build_fr {n : Nat} {ts : List (Ex n)} (h : ∀ x ∈ ts, full n x ∧ shapesE n x = true) (i : Nat) (z : Int) : z ∈ (layA ts 1 mc0).fr i ↔ ∃ j : Nat, z = j ∧ FrA ts i j := by
  rw [layA_fr ts 1 mc0 i z h]
  constructor
  · rintro (h | h)
    · cases h
    · exact h
  · exact .inr

end Go.Proofs.Ytldeofdjhpfdaaa.A
