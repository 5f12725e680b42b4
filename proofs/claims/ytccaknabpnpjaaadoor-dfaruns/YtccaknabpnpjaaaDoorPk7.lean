/- The document's Ends: kinds with parts, first those one behind the other. -/
import Derived.Test.YtccaknabpnpjaaaDoorPk3
import Derived.Deep.Heap
namespace Go.Proofs.YtccaknabpnpjaaaDoor.A
open Go.RowKit

theorem box_then (w : World) (o1 o2 : Obj) (i : Nat) : ((w.alloc o1).alloc o2).cell? ⟨w.heap.size, i, none⟩ = (w.alloc o1).cell? ⟨w.heap.size, i, none⟩ :=
  ((Below.refl (w.heap.size + 1) (w.alloc o1)).alloc (by simp) o2).cell (p := ⟨w.heap.size, i, none⟩) (by simp)

end Go.Proofs.YtccaknabpnpjaaaDoor.A

/- The document's Ends: one of several. -/
namespace Go.Proofs.YtccaknabpnpjaaaDoor.A
open Go.RowKit

theorem mk_other {wr : World} {C n : Nat} {g : Nat → Bool} (d : Mk wr C n g) {B : Nat} (h : C ≠ B) (p : Nat) (v : Value) : Mk (wr.setCell ⟨B, p, none⟩ v) C n g := by
  unfold Mk at *
  rw [Go.Deep.blk_setCell_other _ _ _ _ h]; exact d
/-- Marks joined as far as a place. -/
def orB (A X : Nat → Bool) (k j : Nat) : Bool := A j || (decide (j < k) && X j)
theorem orB_set (A X : Nat → Bool) (k j : Nat) : (if j = k then (A k || X k) else orB A X k j) = orB A X (k + 1) j := by
  by_cases e : j = k
  · subst e; simp [orB]
  · rw [if_neg e]
    unfold orB
    rw [show decide (j < k + 1) = decide (j < k) from by by_cases q : j < k <;> simp [q] <;> omega]
theorem orB_here (A X : Nat → Bool) (k : Nat) : orB A X k k = A k := by simp [orB]
theorem orB_all (A X : Nat → Bool) {N j : Nat} (h : j < N) : orB A X N j = (A j || X j) := by simp [orB, h]
/-- What the first parts tell. -/
def anyB (word : List Int) (n : Nat) (l : List (Ex n)) (o : Nat → Bool) (p : Nat) : Bool := l.any (fun x => endsE word n x o p)

end Go.Proofs.YtccaknabpnpjaaaDoor.A

/- The document's Ends: any number of times, once or not. -/
namespace Go.Proofs.YtccaknabpnpjaaaDoor.A
open Go.RowKit

theorem iter_succ (f : (Nat → Bool) → Nat → Bool) : ∀ (m : Nat) (o : Nat → Bool), iterE f (m + 1) o = stepE f (iterE f m o)
  | 0, _ => rfl
  | m + 1, o => iter_succ f m (stepE f o)
theorem iter_add (f : (Nat → Bool) → Nat → Bool) : ∀ (m k : Nat) (o : Nat → Bool), iterE f (m + k) o = iterE f k (iterE f m o)
  | 0, k, o => by rw [Nat.zero_add]; rfl
  | m + 1, k, o => by rw [show m + 1 + k = (m + k) + 1 by omega]; exact iter_add f m k (stepE f o)
/-- It looks at no place behind the word. -/
def Looks (N : Nat) (f : (Nat → Bool) → Nat → Bool) : Prop := ∀ o o' : Nat → Bool, (∀ j, j < N → o j = o' j) → ∀ j, j < N → f o j = f o' j
theorem looks_step {N : Nat} {f : (Nat → Bool) → Nat → Bool} (hf : Looks N f) : Looks N (stepE f) := fun o o' h j hj => by unfold stepE; rw [h j hj, hf o o' h j hj]
theorem looks_iter {N : Nat} {f : (Nat → Bool) → Nat → Bool} (hf : Looks N f) : ∀ m, Looks N (iterE f m)
  | 0 => fun _ _ h j hj => h j hj
  | m + 1 => fun o o' h j hj => looks_iter hf m _ _ (looks_step hf o o' h) j hj
theorem looks_fold {α : Type} {N : Nat} (f : α → (Nat → Bool) → Nat → Bool) (hf : ∀ x, Looks N (f x)) : ∀ (l : List α), Looks N (fun o => l.foldl (fun o x => f x o) o)
  | [] => fun _ _ h j hj => h j hj
  | x :: r => fun o o' h j hj => looks_fold f hf r _ _ (hf x o o' h) j hj
theorem ends_looks (word : List Int) (N : Nat) : ∀ (n : Nat) (t : Ex n), Looks N (endsE word n t)
  | 0, _ => fun _ _ _ _ _ => rfl
  | n + 1, t => fun o o' h j hj => by
    unfold endsE
    by_cases k0 : kd t = 0
    · rw [if_pos k0, if_pos k0]; exact h j hj
    · rw [if_neg k0, if_neg k0]
      by_cases k1 : kd t = 1
      · rw [if_pos k1, if_pos k1, h (j - 1) (by omega)]
      · rw [if_neg k1, if_neg k1]
        by_cases k2 : kd t = 2
        · rw [if_pos k2, if_pos k2]; exact looks_fold (fun x => endsE word n x) (fun x => ends_looks word N n x) (ks t) o o' h j hj
        · rw [if_neg k2, if_neg k2]
          by_cases k3 : kd t = 3
          · rw [if_pos k3, if_pos k3]
            have e : (fun x => endsE word n x o j) = (fun x => endsE word n x o' j) := funext fun x => ends_looks word N n x o o' h j hj
            rw [e]
          · rw [if_neg k3, if_neg k3]
            by_cases k4 : kd t = 4
            · rw [if_pos k4, if_pos k4]
              cases (ks t).head? with
              | none => rfl
              | some x => exact looks_iter (ends_looks word N n x) _ o o' h j hj
            · rw [if_neg k4, if_neg k4]
              by_cases k5 : kd t = 5
              · rw [if_pos k5, if_pos k5]
                cases (ks t).head? with
                | none => rfl
                | some x => exact looks_step (ends_looks word N n x) o o' h j hj
              · rw [if_neg k5, if_neg k5]
theorem iter_stop {N : Nat} {f : (Nat → Bool) → Nat → Bool} (hf : Looks N f) {o : Nat → Bool} (h : ∀ j, j < N → stepE f o j = o j) : ∀ (m j : Nat), j < N → iterE f m o j = o j
  | 0, _, _ => rfl
  | m + 1, j, hj => by
    show iterE f m (stepE f o) j = o j
    rw [looks_iter hf m _ _ h j hj]
    exact iter_stop hf h m j hj
/-- Is there more, as far as a place? -/
def moreB (A X : Nat → Bool) : Nat → Bool
  | 0 => false
  | p + 1 => moreB A X p || (X p && !A p)
theorem more_no {A X : Nat → Bool} : ∀ {p : Nat}, moreB A X p = false → ∀ j, j < p → (A j || X j) = A j
  | 0, _, j, hj => by omega
  | p + 1, h, j, hj => by
    have h' : (moreB A X p || (X p && !A p)) = false := h
    rw [Bool.or_eq_false_iff] at h'
    by_cases e : j = p
    · subst e
      have := h'.2
      cases hA : A j <;> cases hX : X j <;> simp [hA, hX] at this ⊢
    · exact more_no h'.1 j (by omega)
theorem ret_more {A X : Nat → Bool} {p : Nat} {m a x : Bool} (hm : moreB A X p = m) (ha : A p = a) (hx : X p = x) : moreB A X (p + 1) = (m || (x && !a)) := by
  show (moreB A X p || (X p && !A p)) = _
  rw [hm, ha, hx]

end Go.Proofs.YtccaknabpnpjaaaDoor.A
