/- What the program's walk over an expression comes to. -/
import Derived.Test.YtldeofdjhpfdaaaQ
namespace Go.Proofs.Ytldeofdjhpfdaaa.A

theorem eq_of_le {a b : Nat} (h : ∀ B, a ≤ B ↔ b ≤ B) : a = b := by
  have h1 := (h b).2 (Nat.le_refl _)
  have h2 := (h a).1 (Nat.le_refl _)
  omega
/-- How deep it is, without a bound. -/
def realD : (n : Nat) → Ex n → Nat
  | 0, _ => 0
  | n + 1, t => (ks t).foldl (fun a x => max a (realD n x)) 0 + 1
theorem deep_real : ∀ (n : Nat) (t : Ex n) (m : Nat), full n t → deepE n t m = min (realD n t) (m + 1)
  | 0, _, _, h => h.elim
  | n + 1, t, 0, _ => by show 1 = min ((ks t).foldl _ 0 + 1) 1; omega
  | n + 1, t, m + 1, h => by
    show (ks t).foldl (fun a x => max a (deepE n x m)) 0 + 1 = min ((ks t).foldl (fun a x => max a (realD n x)) 0 + 1) (m + 1 + 1)
    have : (ks t).foldl (fun a x => max a (deepE n x m)) 0 = min ((ks t).foldl (fun a x => max a (realD n x)) 0) (m + 1) := by
      refine eq_of_le fun B => ?_
      rw [fold_max_le (fun x => deepE n x m)]
      have e := fold_max_le (fun x => realD n x) B (ks t) 0
      constructor
      · intro ⟨_, q⟩
        by_cases hB : m + 1 ≤ B
        · omega
        · have : (ks t).foldl (fun a x => max a (realD n x)) 0 ≤ B := e.2 ⟨Nat.zero_le _, fun x hx => by have := q x hx; rw [deep_real n x m (h x hx)] at this; omega⟩
          omega
      · intro q
        refine ⟨Nat.zero_le _, fun x hx => ?_⟩
        rw [deep_real n x m (h x hx)]
        by_cases hB : m + 1 ≤ B
        · omega
        · have := (e.1 (by omega)).2 x hx
          omega
    omega

/-- What the walk over one expression comes to. -/
def Comes (n : Nat) (t : Ex n) : Prop := ∀ d N D : Nat, N ≤ 100 →
  ((N + realN n t ≤ 100 ∧ d + realD n t ≤ 13 ∧ shapesE n t = true) → walkE n t d (N, D) = (true, N + realN n t, max D (d + realD n t - 1))) ∧
  (¬ (N + realN n t ≤ 100 ∧ d + realD n t ≤ 13 ∧ shapesE n t = true) → (walkE n t d (N, D)).1 = false)
theorem fold_comes {n : Nat} (d : Nat) : ∀ (l : List (Ex n)) (_ : ∀ x ∈ l, Comes n x) (N D : Nat), N ≤ 100 →
    ((N + (l.map (fun x => realN n x)).sum ≤ 100 ∧ ∀ x ∈ l, d + realD n x ≤ 13 ∧ shapesE n x = true) → l.foldl (fun r x => if r.1 then walkE n x d r.2 else r) (true, N, D) = (true, N + (l.map (fun x => realN n x)).sum, l.foldl (fun a x => max a (d + realD n x - 1)) D)) ∧
    (¬ (N + (l.map (fun x => realN n x)).sum ≤ 100 ∧ ∀ x ∈ l, d + realD n x ≤ 13 ∧ shapesE n x = true) → (l.foldl (fun r x => if r.1 then walkE n x d r.2 else r) (true, N, D)).1 = false)
  | [], _, N, D, hN => ⟨fun _ => by simp, fun h => (h ⟨by simpa using hN, fun x hx => by simp at hx⟩).elim⟩
  | x :: l, hl, N, D, hN => by
    have hx := hl x (by simp) d N D hN
    simp only [List.map_cons, List.sum_cons, List.foldl_cons, List.mem_cons, forall_eq_or_imp, if_true]
    by_cases q : N + realN n x ≤ 100 ∧ d + realD n x ≤ 13 ∧ shapesE n x = true
    · rw [hx.1 q]
      have ih := fold_comes d l (fun y hy => hl y (by simp [hy])) (N + realN n x) (max D (d + realD n x - 1)) q.1
      constructor
      · intro h
        rw [ih.1 ⟨by omega, h.2.2⟩, Nat.add_assoc]
      · intro h
        exact ih.2 (fun k => h ⟨by omega, ⟨q.2.1, q.2.2⟩, k.2⟩)
    · have hf := hx.2 q
      constructor
      · intro h
        exact (q ⟨by omega, h.2.1.1, h.2.1.2⟩).elim
      · intro _
        rw [fold_no (fun x s => walkE n x d s) l _ hf]
        exact hf
theorem comes : ∀ (n : Nat) (t : Ex n), full n t → Comes n t
  | 0, _, h => h.elim
  | n + 1, t, h => fun d N D hN => by
    have hsum : realN (n + 1) t = 1 + ((ks t).map (fun x => realN n x)).sum := rfl
    have hdep : realD (n + 1) t = (ks t).foldl (fun a x => max a (realD n x)) 0 + 1 := rfl
    have hsh : shapesE (n + 1) t = (okE (kd t) (st t) (ks t).length && (ks t).all (fun x => shapesE n x)) := rfl
    have hw : walkE (n + 1) t d (N, D) = if takeB (kd t) (st t) (ks t).length d N = true then (ks t).foldl (fun r x => if r.1 then walkE n x (d + 1) r.2 else r) (true, N + 1, max D d) else (false, N + 1, max D d) := rfl
    have F := fun B => fold_max_le (fun x => realD n x) B (ks t) 0
    have htk : takeB (kd t) (st t) (ks t).length d N = true ↔ N + 1 ≤ 100 ∧ d ≤ 12 ∧ okE (kd t) (st t) (ks t).length = true := by
      unfold takeB; simp only [Bool.and_eq_true, decide_eq_true_eq]
    have hcond : (N + realN (n + 1) t ≤ 100 ∧ d + realD (n + 1) t ≤ 13 ∧ shapesE (n + 1) t = true) ↔ takeB (kd t) (st t) (ks t).length d N = true ∧ (N + 1 + ((ks t).map (fun x => realN n x)).sum ≤ 100 ∧ ∀ x ∈ ks t, d + 1 + realD n x ≤ 13 ∧ shapesE n x = true) := by
      rw [htk, hsum, hdep, hsh, Bool.and_eq_true, List.all_eq_true]
      constructor
      · rintro ⟨a, b, c, e⟩
        have := (F (12 - d)).1 (by omega)
        exact ⟨⟨by omega, by omega, c⟩, by omega, fun x hx => ⟨by have := this.2 x hx; omega, e x hx⟩⟩
      · rintro ⟨⟨a, b, c⟩, e, f⟩
        have := (F (12 - d)).2 ⟨Nat.zero_le _, fun x hx => by have := (f x hx).1; omega⟩
        exact ⟨by omega, by omega, c, fun x hx => (f x hx).2⟩
    by_cases tk : takeB (kd t) (st t) (ks t).length d N = true
    · have hN1 := (htk.1 tk).1
      have ih := fold_comes (d + 1) (ks t) (fun x hx => comes n x (h x hx)) (N + 1) (max D d) hN1
      rw [hw, if_pos tk]
      constructor
      · intro q
        rw [ih.1 (hcond.1 q).2, hsum]
        have e : (ks t).foldl (fun a x => max a (d + 1 + realD n x - 1)) (max D d) = max D (d + realD (n + 1) t - 1) := by
          refine eq_of_le fun B => ?_
          rw [fold_max_le (fun x => d + 1 + realD n x - 1), hdep]
          constructor
          · rintro ⟨a, b⟩
            have := (F (B - d)).2 ⟨Nat.zero_le _, fun x hx => by have := b x hx; omega⟩
            omega
          · intro a
            have := (F (B - d)).1 (by omega)
            exact ⟨by omega, fun x hx => by have := this.2 x hx; omega⟩
        rw [e, Nat.add_assoc]
      · intro q
        exact ih.2 (fun k => q (hcond.2 ⟨tk, k⟩))
    · rw [hw, if_neg tk]
      exact ⟨fun q => (tk (hcond.1 q).1).elim, fun _ => rfl⟩
/-- How many nodes, and how deep, if it is right. -/
def nodesR (n : Nat) (t : Ex n) : Nat := if rightE n t = true then nodesE n t else 0
def deepR (n : Nat) (t : Ex n) : Nat := if rightE n t = true then deepE n t 12 else 0
theorem right_iff {n : Nat} {t : Ex n} (h : full n t) : rightE n t = true ↔ 0 + realN n t ≤ 100 ∧ 1 + realD n t ≤ 13 ∧ shapesE n t = true := by
  unfold rightE
  have e1 := deep_real n t 12 h
  have e2 := nodes_real n t
  simp only [Bool.and_eq_true, decide_eq_true_eq]
  constructor
  · rintro ⟨a, b, c⟩
    refine ⟨?_, by omega, c⟩
    by_cases q : realN n t ≤ 100
    · omega
    · have := e2.2 (by omega); omega
  · rintro ⟨a, b, c⟩
    exact ⟨by omega, by have := e2.1 (by omega); omega, c⟩
theorem walk_right {n : Nat} {t : Ex n} (h : full n t) : (walkE n t 1 (0, 0)).1 = rightE n t ∧ (rightE n t = true → (walkE n t 1 (0, 0)).2.1 = nodesE n t ∧ (walkE n t 1 (0, 0)).2.2 = deepE n t 12) := by
  have c := comes n t h 1 0 0 (by omega)
  cases hr : rightE n t with
  | true =>
    have q := (right_iff h).1 hr
    rw [c.1 q]
    have e1 := deep_real n t 12 h
    have e2 := (nodes_real n t).1 (by omega)
    exact ⟨rfl, fun _ => ⟨by show 0 + realN n t = _; omega, by show max 0 (1 + realD n t - 1) = _; omega⟩⟩
  | false =>
    exact ⟨c.2 (fun q => by rw [(right_iff h).2 q] at hr; cases hr), fun q => by cases q⟩
end Go.Proofs.Ytldeofdjhpfdaaa.A
