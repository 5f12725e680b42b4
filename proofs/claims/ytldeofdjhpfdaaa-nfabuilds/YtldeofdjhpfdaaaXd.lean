/- What the document's 'lay' writes: plain mathematics. (The lemmas on intoL are the scratch seat's Nh's as well: keep one of the two.) -/
import Derived.Test.YtldeofdjhpfdaaaXc
import Derived.Test.YtldeofdjhpfdaaaNh
namespace Go.Proofs.Ytldeofdjhpfdaaa.A

/-- Rising lists with the same members are one. -/
theorem rising_eq : ∀ {l l' : List Int}, l.Pairwise (· < ·) → l'.Pairwise (· < ·) → (∀ z, z ∈ l ↔ z ∈ l') → l = l'
  | [], [], _, _, _ => rfl
  | [], b :: r', _, _, h => by have := (h b).2 (by simp); simp at this
  | a :: r, [], _, _, h => by have := (h a).1 (by simp); simp at this
  | a :: r, b :: r', h1, h2, h => by
    rw [List.pairwise_cons] at h1 h2
    have e : a = b := by
      have ha := (h a).1 (by simp)
      have hb := (h b).2 (by simp)
      rcases List.mem_cons.1 ha with ha | ha
      · exact ha
      · rcases List.mem_cons.1 hb with hb | hb
        · exact hb.symm
        · have q1 := h2.1 a ha
          have q2 := h1.1 b hb
          omega
    subst e
    rw [rising_eq h1.2 h2.2 (fun z => ?_)]
    constructor
    · intro hz
      rcases List.mem_cons.1 ((h z).1 (by simp [hz])) with q | q
      · have := h1.1 z hz; omega
      · exact q
    · intro hz
      rcases List.mem_cons.1 ((h z).2 (by simp [hz])) with q | q
      · have := h2.1 z hz; omega
      · exact q

/-- A machine that is being made: free steps, sets, where they lead. -/
structure Mc where
  fr : Nat → List Int
  st : Nat → Nat
  to : Nat → Int
/-- A free step more. -/
def addF (m : Mc) (a : Nat) (x : Nat) : Mc := ⟨fun i => if i = a then intoL (m.fr a) (x : Int) else m.fr i, m.st, m.to⟩
theorem mem_addF (m : Mc) (a x i : Nat) (z : Int) : z ∈ (addF m a x).fr i ↔ z ∈ m.fr i ∨ (i = a ∧ z = x) := by
  unfold addF
  show z ∈ (if i = a then intoL (m.fr a) (x : Int) else m.fr i) ↔ _
  by_cases e : i = a
  · subst e; rw [if_pos rfl, into_mem]
    constructor
    · rintro (h | h)
      · exact .inr ⟨rfl, h⟩
      · exact .inl h
    · rintro (h | h)
      · exact .inr h
      · exact .inl h.2
  · rw [if_neg e]
    constructor
    · exact .inl
    · rintro (h | h)
      · exact h
      · exact absurd h.1 e
/-- A round of its loop over the parts: what is written, where the next part begins, where the last one ended. -/
def layR {n : Nat} (lay1 : Ex n → Nat → Mc → Mc) (kind at_ e : Nat) (q : Mc × Nat × Nat) (x : Ex n) : Mc × Nat × Nat :=
  if kind = 2 then (addF (lay1 x q.2.1 q.1) q.2.2 q.2.1, q.2.1 + 2 * realN n x - 1 + 1, q.2.1 + 2 * realN n x - 1)
  else if kind = 4 then (addF (addF (addF (lay1 x q.2.1 q.1) (q.2.1 + 2 * realN n x - 1) q.2.1) at_ q.2.1) (q.2.1 + 2 * realN n x - 1) e, q.2.1 + 2 * realN n x - 1 + 1, q.2.2)
  else (addF (addF (lay1 x q.2.1 q.1) at_ q.2.1) (q.2.1 + 2 * realN n x - 1) e, q.2.1 + 2 * realN n x - 1 + 1, q.2.2)
/-- What the document's 'lay' makes of a machine. -/
def layM : (n : Nat) → Ex n → Nat → Mc → Mc
  | 0, _, _, m => m
  | n + 1, t, b, m =>
    if kd t = 1 then ⟨m.fr, fun i => if i = b then A.st t else m.st i, fun i => if i = b then ((b + 2 * realN (n + 1) t - 1 : Nat) : Int) else m.to i⟩
    else if kd t = 2 then addF ((ks t).foldl (layR (layM n) 2 b (b + 2 * realN (n + 1) t - 1)) (m, b + 1, b)).1 ((ks t).foldl (layR (layM n) 2 b (b + 2 * realN (n + 1) t - 1)) (m, b + 1, b)).2.2 (b + 2 * realN (n + 1) t - 1)
    else if kd t = 3 then ((ks t).foldl (layR (layM n) 3 b (b + 2 * realN (n + 1) t - 1)) (m, b + 1, b)).1
    else ((ks t).foldl (layR (layM n) (kd t) b (b + 2 * realN (n + 1) t - 1)) (addF m b (b + 2 * realN (n + 1) t - 1), b + 1, b)).1

/-- What lay1 adds to the free steps. -/
def Adds {n : Nat} (lay1 : Ex n → Nat → Mc → Mc) (R : Ex n → Nat → Nat → Nat → Prop) (x : Ex n) : Prop := ∀ (b : Nat) (m : Mc) (i : Nat) (z : Int), z ∈ (lay1 x b m).fr i ↔ z ∈ m.fr i ∨ ∃ j : Nat, z = j ∧ R x b i j
theorem lay_two {n : Nat} {lay1 : Ex n → Nat → Mc → Mc} {R : Ex n → Nat → Nat → Nat → Prop} (b e : Nat) : ∀ (l : List (Ex n)) (m : Mc) (s last i : Nat) (z : Int), (∀ x ∈ l, Adds lay1 R x ∧ 1 ≤ realN n x) →
    (z ∈ (addF (l.foldl (layR lay1 2 b e) (m, s, last)).1 (l.foldl (layR lay1 2 b e) (m, s, last)).2.2 e).fr i ↔ z ∈ m.fr i ∨ ∃ j : Nat, z = j ∧ ((∃ p ∈ layE s l, R p.2 p.1 i j) ∨ Cj last (layE s l) e i j))
  | [], m, s, last, i, z, _ => by
    show z ∈ (addF m last e).fr i ↔ _
    rw [mem_addF]
    constructor
    · rintro (h | ⟨h1, h2⟩)
      · exact .inl h
      · exact .inr ⟨e, h2, .inr ⟨h1, rfl⟩⟩
    · rintro (h | ⟨j, h1, ⟨p, hp, _⟩ | ⟨h2, h3⟩⟩)
      · exact .inl h
      · cases hp
      · exact .inr ⟨h2, by rw [h1, h3]⟩
  | x :: l, m, s, last, i, z, h => by
    obtain ⟨hx, h1⟩ := h x (by simp)
    have ih := lay_two b e l (addF (lay1 x s m) last s) (s + 2 * realN n x - 1 + 1) (s + 2 * realN n x - 1) i z (fun y hy => h y (by simp [hy]))
    have es : s + 2 * realN n x - 1 + 1 = s + 2 * realN n x := by omega
    rw [List.foldl_cons]
    show z ∈ (addF (l.foldl (layR lay1 2 b e) (addF (lay1 x s m) last s, s + 2 * realN n x - 1 + 1, s + 2 * realN n x - 1)).1 (l.foldl (layR lay1 2 b e) (addF (lay1 x s m) last s, s + 2 * realN n x - 1 + 1, s + 2 * realN n x - 1)).2.2 e).fr i ↔ _
    rw [ih, mem_addF, hx s m i z, es]
    show _ ↔ z ∈ m.fr i ∨ ∃ j : Nat, z = j ∧ ((∃ p ∈ (s, x) :: layE (s + 2 * realN n x) l, R p.2 p.1 i j) ∨ ((i = last ∧ j = s) ∨ Cj (s + 2 * realN n x - 1) (layE (s + 2 * realN n x) l) e i j))
    constructor
    · rintro (((h | ⟨j, e1, e2⟩) | ⟨e1, e2⟩) | ⟨j, e1, ⟨p, hp, e2⟩ | e2⟩)
      · exact .inl h
      · exact .inr ⟨j, e1, .inl ⟨(s, x), by simp, e2⟩⟩
      · exact .inr ⟨s, e2, .inr (.inl ⟨e1, rfl⟩)⟩
      · exact .inr ⟨j, e1, .inl ⟨p, by simp [hp], e2⟩⟩
      · exact .inr ⟨j, e1, .inr (.inr e2)⟩
    · rintro (h | ⟨j, e1, ⟨p, hp, e2⟩ | (⟨e2, e3⟩ | e2)⟩)
      · exact .inl (.inl (.inl h))
      · rcases List.mem_cons.1 hp with rfl | hp
        · exact .inl (.inl (.inr ⟨j, e1, e2⟩))
        · exact .inr ⟨j, e1, .inl ⟨p, hp, e2⟩⟩
      · exact .inl (.inr ⟨e2, by rw [e1, e3]⟩)
      · exact .inr ⟨j, e1, .inr e2⟩
theorem lay_more {n : Nat} {lay1 : Ex n → Nat → Mc → Mc} {R : Ex n → Nat → Nat → Nat → Prop} (kind b e : Nat) (hk : kind ≠ 2) : ∀ (l : List (Ex n)) (m : Mc) (s last i : Nat) (z : Int), (∀ x ∈ l, Adds lay1 R x ∧ 1 ≤ realN n x) →
    (z ∈ (l.foldl (layR lay1 kind b e) (m, s, last)).1.fr i ↔ z ∈ m.fr i ∨ ∃ j : Nat, z = j ∧ ∃ p ∈ layE s l, R p.2 p.1 i j ∨ (i = b ∧ j = p.1) ∨ (i = en p ∧ j = e) ∨ (kind = 4 ∧ i = en p ∧ j = p.1))
  | [], m, s, last, i, z, _ => by
    show z ∈ m.fr i ↔ _
    constructor
    · exact .inl
    · rintro (h | ⟨j, _, p, hp, _⟩)
      · exact h
      · cases hp
  | x :: l, m, s, last, i, z, h => by
    obtain ⟨hx, h1⟩ := h x (by simp)
    have es : s + 2 * realN n x - 1 + 1 = s + 2 * realN n x := by omega
    rw [List.foldl_cons]
    show _ ↔ z ∈ m.fr i ∨ ∃ j : Nat, z = j ∧ ∃ p ∈ (s, x) :: layE (s + 2 * realN n x) l, R p.2 p.1 i j ∨ (i = b ∧ j = p.1) ∨ (i = en p ∧ j = e) ∨ (kind = 4 ∧ i = en p ∧ j = p.1)
    by_cases h4 : kind = 4
    · have er : layR lay1 kind b e (m, s, last) x = (addF (addF (addF (lay1 x s m) (s + 2 * realN n x - 1) s) b s) (s + 2 * realN n x - 1) e, s + 2 * realN n x, last) := by
        unfold layR; rw [if_neg hk, if_pos h4]; simp only []; rw [es]
      rw [er, lay_more kind b e hk l _ _ _ i z (fun y hy => h y (by simp [hy])), mem_addF, mem_addF, mem_addF, hx s m i z]
      constructor
      · rintro (((((h | ⟨j, e1, e2⟩) | ⟨e1, e2⟩) | ⟨e1, e2⟩) | ⟨e1, e2⟩) | ⟨j, e1, p, hp, e2⟩)
        · exact .inl h
        · exact .inr ⟨j, e1, (s, x), by simp, .inl e2⟩
        · exact .inr ⟨s, e2, (s, x), by simp, .inr (.inr (.inr ⟨h4, e1, rfl⟩))⟩
        · exact .inr ⟨s, e2, (s, x), by simp, .inr (.inl ⟨e1, rfl⟩)⟩
        · exact .inr ⟨e, e2, (s, x), by simp, .inr (.inr (.inl ⟨e1, rfl⟩))⟩
        · exact .inr ⟨j, e1, p, by simp [hp], e2⟩
      · rintro (h | ⟨j, e1, p, hp, e2⟩)
        · exact .inl (.inl (.inl (.inl (.inl h))))
        · rcases List.mem_cons.1 hp with rfl | hp
          · rcases e2 with e2 | ⟨e2, e3⟩ | ⟨e2, e3⟩ | ⟨_, e2, e3⟩
            · exact .inl (.inl (.inl (.inl (.inr ⟨j, e1, e2⟩))))
            · exact .inl (.inl (.inr ⟨e2, by rw [e1, e3]⟩))
            · exact .inl (.inr ⟨e2, by rw [e1, e3]⟩)
            · exact .inl (.inl (.inl (.inr ⟨e2, by rw [e1, e3]⟩)))
          · exact .inr ⟨j, e1, p, hp, e2⟩
    · have er : layR lay1 kind b e (m, s, last) x = (addF (addF (lay1 x s m) b s) (s + 2 * realN n x - 1) e, s + 2 * realN n x, last) := by
        unfold layR; rw [if_neg hk, if_neg h4]; simp only []; rw [es]
      rw [er, lay_more kind b e hk l _ _ _ i z (fun y hy => h y (by simp [hy])), mem_addF, mem_addF, hx s m i z]
      constructor
      · rintro ((((h | ⟨j, e1, e2⟩) | ⟨e1, e2⟩) | ⟨e1, e2⟩) | ⟨j, e1, p, hp, e2⟩)
        · exact .inl h
        · exact .inr ⟨j, e1, (s, x), by simp, .inl e2⟩
        · exact .inr ⟨s, e2, (s, x), by simp, .inr (.inl ⟨e1, rfl⟩)⟩
        · exact .inr ⟨e, e2, (s, x), by simp, .inr (.inr (.inl ⟨e1, rfl⟩))⟩
        · exact .inr ⟨j, e1, p, by simp [hp], e2⟩
      · rintro (h | ⟨j, e1, p, hp, e2⟩)
        · exact .inl (.inl (.inl (.inl h)))
        · rcases List.mem_cons.1 hp with rfl | hp
          · rcases e2 with e2 | ⟨e2, e3⟩ | ⟨e2, e3⟩ | ⟨e2, _⟩
            · exact .inl (.inl (.inl (.inr ⟨j, e1, e2⟩)))
            · exact .inl (.inl (.inr ⟨e2, by rw [e1, e3]⟩))
            · exact .inl (.inr ⟨e2, by rw [e1, e3]⟩)
            · exact absurd e2 h4
          · exact .inr ⟨j, e1, p, hp, e2⟩

end Go.Proofs.Ytldeofdjhpfdaaa.A
