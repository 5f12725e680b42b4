/- What turning leaves as it is; what is alike: plain mathematics. -/
import Derived.Test.YtldeofdjhpfdaaaN
namespace Go.Proofs.Ytldeofdjhpfdaaa.A

theorem fold_max_le {α : Type} (f : α → Nat) (B : Nat) : ∀ (l : List α) (a : Nat), l.foldl (fun a x => max a (f x)) a ≤ B ↔ a ≤ B ∧ ∀ x ∈ l, f x ≤ B
  | [], a => by simp
  | x :: r, a => by
    show r.foldl _ (max a (f x)) ≤ B ↔ _
    rw [fold_max_le f B r, Nat.max_le]
    simp only [List.mem_cons, forall_eq_or_imp]
    exact and_assoc
theorem fold_max_same {α β : Type} (f : α → Nat) (g : β → Nat) (l : List α) (k : List β) (h : ∀ B, (∀ x ∈ l, f x ≤ B) ↔ ∀ y ∈ k, g y ≤ B) : l.foldl (fun a x => max a (f x)) 0 = k.foldl (fun a x => max a (g x)) 0 := by
  have e : ∀ B, l.foldl (fun a x => max a (f x)) 0 ≤ B ↔ k.foldl (fun a x => max a (g x)) 0 ≤ B := fun B => by
    rw [fold_max_le, fold_max_le, h B]
  exact Nat.le_antisymm ((e _).2 (Nat.le_refl _)) ((e _).1 (Nat.le_refl _))
theorem mem_turn {n : Nat} (t : Ex (n + 1)) (y : Ex n) : y ∈ ks (turnE (n + 1) t) ↔ ∃ x ∈ ks t, turnE n x = y := by
  rw [ks_turn]
  split
  · rw [List.mem_reverse, List.mem_map]
  · rw [List.mem_map]
theorem deep_turn : ∀ (n : Nat) (t : Ex n) (m : Nat), deepE n (turnE n t) m = deepE n t m
  | 0, _, _ => rfl
  | _ + 1, _, 0 => rfl
  | n + 1, t, m + 1 => by
    show (ks (turnE (n + 1) t)).foldl _ 0 + 1 = (ks t).foldl _ 0 + 1
    rw [fold_max_same (fun x => deepE n x m) (fun x => deepE n x m) (ks (turnE (n + 1) t)) (ks t) fun B => ?_]
    constructor
    · intro h x hx
      have := h (turnE n x) ((mem_turn t _).2 ⟨x, hx, rfl⟩)
      rw [deep_turn n x m] at this
      exact this
    · intro h y hy
      obtain ⟨x, hx, rfl⟩ := (mem_turn t y).1 hy
      rw [deep_turn n x m]
      exact h x hx
/-- How many nodes there are. -/
def realN : (n : Nat) → Ex n → Nat
  | 0, _ => 0
  | n + 1, t => 1 + ((ks t).map (fun x => realN n x)).sum
theorem fold_real {α : Type} (f g : α → Nat) (h : ∀ x, (g x ≤ 100 → f x = g x) ∧ (100 < g x → 100 < f x)) : ∀ (l : List α) (a : Nat),
    (a + (l.map g).sum ≤ 100 → l.foldl (fun a x => if a < 101 then a + f x else a) a = a + (l.map g).sum) ∧ (100 < a + (l.map g).sum → 100 < l.foldl (fun a x => if a < 101 then a + f x else a) a)
  | [], a => by simp
  | x :: r, a => by
    have hx := h x
    have e : (x :: r).foldl (fun a x => if a < 101 then a + f x else a) a = r.foldl (fun a x => if a < 101 then a + f x else a) (if a < 101 then a + f x else a) := rfl
    rw [e, List.map_cons, List.sum_cons]
    by_cases q : a < 101
    · rw [if_pos q]
      have ih := fold_real f g h r (a + f x)
      by_cases g1 : g x ≤ 100
      · rw [hx.1 g1] at ih ⊢
        rw [← Nat.add_assoc]
        exact ih
      · have := hx.2 (by omega)
        have e2 := fold_full f r (a + f x) (by omega)
        rw [e2]
        constructor <;> intro _ <;> omega
    · rw [if_neg q, fold_full f r a q]
      constructor <;> intro _ <;> omega
theorem nodes_real : ∀ (n : Nat) (t : Ex n), (realN n t ≤ 100 → nodesE n t = realN n t) ∧ (100 < realN n t → 100 < nodesE n t)
  | 0, _ => ⟨fun _ => rfl, fun h => by have : (100 : Nat) < 0 := h; omega⟩
  | n + 1, t => fold_real (fun x => nodesE n x) (fun x => realN n x) (fun x => nodes_real n x) (ks t) 1
theorem real_turn : ∀ (n : Nat) (t : Ex n), realN n (turnE n t) = realN n t
  | 0, _ => rfl
  | n + 1, t => by
    have e : ((ks t).map (fun x => turnE n x)).map (fun x => realN n x) = (ks t).map (fun x => realN n x) := by
      rw [List.map_map]; exact List.map_congr_left fun x _ => real_turn n x
    show 1 + ((ks (turnE (n + 1) t)).map _).sum = 1 + _
    rw [ks_turn]
    split
    · rw [List.map_reverse, List.sum_reverse, e]
    · rw [e]
theorem nodes_turn {n : Nat} {t : Ex n} (h : nodesE n t ≤ 100) : nodesE n (turnE n t) = nodesE n t := by
  have a := nodes_real n t
  have b := nodes_real n (turnE n t)
  rw [real_turn] at b
  have hr : realN n t ≤ 100 := by
    rcases Nat.lt_or_ge 100 (realN n t) with q | q
    · have := a.2 q; omega
    · exact q
  rw [b.1 hr, a.1 hr]
theorem shapes_turn : ∀ (n : Nat) (t : Ex n), shapesE n (turnE n t) = shapesE n t
  | 0, _ => rfl
  | n + 1, t => by
    show (okE (kd t) (st t) (ks (turnE (n + 1) t)).length && (ks (turnE (n + 1) t)).all _) = (okE (kd t) (st t) (ks t).length && (ks t).all _)
    have e1 : (ks (turnE (n + 1) t)).length = (ks t).length := by rw [ks_turn]; split <;> simp
    have e2 : (ks (turnE (n + 1) t)).all (fun x => shapesE n x) = (ks t).all (fun x => shapesE n x) := by
      rw [Bool.eq_iff_iff, List.all_eq_true, List.all_eq_true]
      constructor
      · intro h x hx
        have := h (turnE n x) ((mem_turn t _).2 ⟨x, hx, rfl⟩)
        rw [shapes_turn n x] at this
        exact this
      · intro h y hy
        obtain ⟨x, hx, rfl⟩ := (mem_turn t y).1 hy
        rw [shapes_turn n x]
        exact h x hx
    rw [e1, e2]
/-- May it be? -/
def rightE (n : Nat) (t : Ex n) : Bool := decide (deepE n t 12 ≤ 12) && (decide (nodesE n t ≤ 100) && shapesE n t)
theorem right_turn (n : Nat) (t : Ex n) (h : rightE n t = true) : rightE n (turnE n t) = true := by
  unfold rightE at h ⊢
  rw [deep_turn, shapes_turn]
  simp only [Bool.and_eq_true, decide_eq_true_eq] at h ⊢
  rw [nodes_turn h.2.1]
  exact h
/-- Two are alike, as far as a bound. -/
def sameE : (n : Nat) → Ex n → (k : Nat) → Ex k → Nat → Bool
  | 0, _, _, _, _ => false
  | _ + 1, _, 0, _, _ => false
  | _ + 1, a, _ + 1, b, 0 => decide (kd a = kd b) && (decide (st a = st b) && decide ((ks a).length = (ks b).length))
  | n + 1, a, k + 1, b, m + 1 => decide (kd a = kd b) && (decide (st a = st b) && (decide ((ks a).length = (ks b).length) && ((ks a).zip (ks b)).all (fun p => sameE n p.1 k p.2 m)))
/-- Every part is an expression. -/
def full : (n : Nat) → Ex n → Prop
  | 0, _ => False
  | n + 1, t => ∀ x ∈ ks t, full n x
theorem rx_full {w : World} : ∀ (n : Nat) (t : Ex n) (v : Value), Rx w n t v → full n t
  | 0, _, _, h => h
  | n + 1, t, _, ⟨a, len, cap, _, _, _, _, _, h6, h7⟩ => by
    intro x hx
    rcases h7 with h7 | ⟨b, off, _, h7⟩
    · subst h7
      rw [List.length_eq_zero_iff.1 h6] at hx
      cases hx
    · obtain ⟨i, hi⟩ := List.getElem?_of_mem hx
      obtain ⟨c0, c1, c2, _, _, _, p⟩ := h7 i x hi
      exact rx_full n x _ p
theorem full_turn : ∀ (n : Nat) (t : Ex n), full n t → full n (turnE n t)
  | 0, _, h => h
  | n + 1, t, h => by
    intro y hy
    obtain ⟨x, hx, rfl⟩ := (mem_turn t y).1 hy
    exact full_turn n x (h x hx)
theorem mem_zip_self {α : Type} : ∀ (l : List α) (p : α × α), p ∈ l.zip l → p.1 = p.2 ∧ p.1 ∈ l
  | [], p, h => by simp at h
  | x :: r, p, h => by
    simp only [List.zip_cons_cons, List.mem_cons] at h
    rcases h with rfl | h
    · exact ⟨rfl, by simp⟩
    · obtain ⟨a, b⟩ := mem_zip_self r p h
      exact ⟨a, by simp [b]⟩
theorem same_self : ∀ (n : Nat) (t : Ex n) (m : Nat), full n t → sameE n t n t m = true
  | 0, _, _, h => h.elim
  | n + 1, t, 0, _ => by simp [sameE]
  | n + 1, t, m + 1, h => by
    unfold sameE
    simp only [decide_true, Bool.true_and, List.all_eq_true]
    intro p hp
    obtain ⟨a, b⟩ := mem_zip_self _ p hp
    rw [← a]
    exact same_self n p.1 m (h _ b)
end Go.Proofs.Ytldeofdjhpfdaaa.A
