/- Expressions in memory. -/
import Derived.Test.YtccaknabpnpjaaaDoorRows
import Derived.WalkKit
import Derived.ProofKit
import Derived.Outline
import Derived.BigQuiet
import Derived.Deep.QuietTactic
import Derived.Below
namespace Go.Proofs.YtccaknabpnpjaaaDoor.A
open Go.RowKit

theorem hide {p : Prop} (h : p) : Hid p := h
theorem below_drewN {B : Nat} {a w : World} (h : Below B a w) (n : Nat) : Below B a (w.drewN n) := ⟨h.os, h.tape, h.output, h.size, h.block⟩
theorem ret_int {k : IntKind} {a b : Int} (h : a = b) : Ending.returned (.int k a) = .returned (.int k b) := by rw [h]
theorem ret_bool {a b : Bool} (h : a = b) : Ending.returned (.bool a) = .returned (.bool b) := by rw [h]
theorem cell_lt {w : World} {a : Addr} {v : Value} (h : w.cell? a = some v) : a.block < w.heap.size := by
  rcases Nat.lt_or_ge a.block w.heap.size with h' | h'
  · exact h'
  · simp [World.cell?, Array.getElem?_eq_none h'] at h

/-- Expressions of at most so many levels: the kind, the set, the parts. -/
def Ex : Nat → Type | 0 => Unit | n + 1 => Nat × Nat × List (Ex n)
def kd {n : Nat} (t : Ex (n + 1)) : Nat := t.1
def st {n : Nat} (t : Ex (n + 1)) : Nat := t.2.1
def ks {n : Nat} (t : Ex (n + 1)) : List (Ex n) := t.2.2
/-- A value is an expression, by its memory. -/
def Rx (w : World) : (n : Nat) → Ex n → Value → Prop
  | 0, _, _ => False
  | n + 1, t, v => ∃ a len cap, v = .agg #[.int .u8 (kd t : Nat), .int .u16 (st t : Nat), .slice a len cap] ∧ kd t < 256 ∧ st t < 65536 ∧ len ≤ cap ∧ cap ≤ maxLen ∧ (ks t).length = len ∧
      (len = 0 ∨ ∃ b off, a = some ⟨b, off, none⟩ ∧ ∀ (i : Nat) (x : Ex n), (ks t)[i]? = some x → ∃ c0 c1 c2, w.cell? ⟨b, off + i * 3, none⟩ = some c0 ∧ w.cell? ⟨b, off + i * 3 + 1, none⟩ = some c1 ∧ w.cell? ⟨b, off + i * 3 + 2, none⟩ = some c2 ∧ Rx w n x (.agg #[c0, c1, c2]))
theorem rx_below {w w' : World} (hb : Below w.heap.size w w') : ∀ (n : Nat) (t : Ex n) (v : Value), Rx w n t v → Rx w' n t v
  | 0, _, _, h => h
  | n + 1, t, v, ⟨a, len, cap, h1, h2, h3, h4, h5, h6, h7⟩ => by
    refine ⟨a, len, cap, h1, h2, h3, h4, h5, h6, ?_⟩
    rcases h7 with h7 | ⟨b, off, e, h7⟩
    · exact .inl h7
    · refine .inr ⟨b, off, e, fun i x hx => ?_⟩
      obtain ⟨c0, c1, c2, p0, p1, p2, p3⟩ := h7 i x hx
      exact ⟨c0, c1, c2, (hb.cell (p := ⟨b, off + i * 3, none⟩) (cell_lt p0)).trans p0, (hb.cell (p := ⟨b, off + i * 3 + 1, none⟩) (cell_lt p1)).trans p1, (hb.cell (p := ⟨b, off + i * 3 + 2, none⟩) (cell_lt p2)).trans p2, rx_below hb n x _ p3⟩
theorem box3 (w : World) (u0 u1 u2 : Value) (t : TypeId) : (w.alloc (.cells #[u0, u1, u2] t)).cell? ⟨w.heap.size, 0, none⟩ = some u0 ∧ (w.alloc (.cells #[u0, u1, u2] t)).cell? ⟨w.heap.size, 1, none⟩ = some u1 ∧ (w.alloc (.cells #[u0, u1, u2] t)).cell? ⟨w.heap.size, 2, none⟩ = some u2 := by
  refine ⟨?_, ?_, ?_⟩ <;> simp
/-- What an expression's rounds read of its parts, in every world behind. -/
def Kids (w : World) (n : Nat) (a : Option Addr) (len : Nat) (l : List (Ex n)) : Prop :=
  ∀ W, Below w.heap.size w W → ∀ i, i < len → ∃ x b off c0 c1 c2, a = some ⟨b, off, none⟩ ∧ l[i]? = some x ∧ W.cell? ⟨b, off + i * 3, none⟩ = some c0 ∧ W.cell? ⟨b, off + i * 3 + 1, none⟩ = some c1 ∧ W.cell? ⟨b, off + i * 3 + 2, none⟩ = some c2 ∧ Rx W n x (.agg #[c0, c1, c2])
theorem rx_open {w : World} {n : Nat} {t : Ex (n + 1)} {v : Value} (h : Rx w (n + 1) t v) : ∃ a len cap, v = .agg #[.int .u8 (kd t : Nat), .int .u16 (st t : Nat), .slice a len cap] ∧ kd t < 256 ∧ st t < 65536 ∧ len ≤ maxLen ∧ (ks t).length = len ∧ Kids w n a len (ks t) := by
  obtain ⟨a, len, cap, h1, h2, h3, h4, h5, h6, h7⟩ := h
  refine ⟨a, len, cap, h1, h2, h3, Nat.le_trans h4 h5, h6, fun W hb i hi => ?_⟩
  rcases h7 with h7 | ⟨b, off, e, h7⟩
  · omega
  · have hx : (ks t)[i]? = some (ks t)[i] := by simp
    obtain ⟨c0, c1, c2, p0, p1, p2, p3⟩ := h7 i _ hx
    exact ⟨_, b, off, c0, c1, c2, e, hx, (hb.cell (p := ⟨b, off + i * 3, none⟩) (cell_lt p0)).trans p0, (hb.cell (p := ⟨b, off + i * 3 + 1, none⟩) (cell_lt p1)).trans p1, (hb.cell (p := ⟨b, off + i * 3 + 2, none⟩) (cell_lt p2)).trans p2, rx_below hb n _ _ p3⟩
theorem take_at {α : Type} {l : List α} {i : Nat} {x : α} (h : l[i]? = some x) : l.take (i + 1) = l.take i ++ [x] := by
  obtain ⟨hi, e⟩ := List.getElem?_eq_some_iff.1 h
  rw [List.take_succ_eq_append_getElem hi, e]

/-- How deep, as far as a bound. -/
def deepE : (n : Nat) → Ex n → Nat → Nat
  | 0, _, _ => 0
  | _ + 1, _, 0 => 1
  | n + 1, t, m + 1 => ((ks t).foldl (fun a x => max a (deepE n x m)) 0) + 1
theorem fold_max {α : Type} (f : α → Nat) (B : Nat) (h : ∀ x, f x ≤ B) : ∀ (l : List α) (a : Nat), a ≤ B → l.foldl (fun a x => max a (f x)) a ≤ B
  | [], _, ha => ha
  | x :: r, _, ha => fold_max f B h r _ (Nat.max_le.2 ⟨ha, h x⟩)
theorem deep_le : ∀ (n : Nat) (t : Ex n) (m : Nat), deepE n t m ≤ m + 1
  | 0, _, _ => Nat.zero_le _
  | _ + 1, _, 0 => Nat.le_refl _
  | n + 1, t, m + 1 => by
    show (ks t).foldl _ 0 + 1 ≤ _
    have := fold_max (fun x => deepE n x m) (m + 1) (fun x => deep_le n x m) (ks t) 0 (by omega)
    omega

end Go.Proofs.YtccaknabpnpjaaaDoor.A

/- The document's Great, Nodes, Shapes. -/
namespace Go.Proofs.YtccaknabpnpjaaaDoor.A
open Go.RowKit

/-- Is it more than is looked at? -/
def greatE : (n : Nat) → Ex n → Nat → Bool
  | 0, _, _ => true
  | n + 1, t, m => decide (120 < (ks t).length) || (decide (m = 0) || (ks t).any (fun x => greatE n x (m - 1)))

/-- How many nodes, as far as 101. -/
def nodesE : (n : Nat) → Ex n → Nat
  | 0, _ => 0
  | n + 1, t => (ks t).foldl (fun a x => if a < 101 then a + nodesE n x else a) 1
theorem fold_nodes {α : Type} (f : α → Nat) (B : Nat) (h : ∀ x, f x ≤ B) : ∀ (l : List α) (a : Nat), a ≤ B + 100 → l.foldl (fun a x => if a < 101 then a + f x else a) a ≤ B + 100
  | [], _, ha => ha
  | x :: r, a, ha => fold_nodes f B h r _ (by have := h x; show (if a < 101 then a + f x else a) ≤ B + 100; split <;> omega)
theorem nodes_le : ∀ (n : Nat) (t : Ex n), nodesE n t ≤ 100 * n
  | 0, _ => Nat.le_refl _
  | n + 1, t => by
    have := fold_nodes (fun x => nodesE n x) (100 * n) (fun x => nodes_le n x) (ks t) 1 (by omega)
    show (ks t).foldl _ 1 ≤ _
    omega
theorem fold_full {α : Type} (f : α → Nat) : ∀ (l : List α) (a : Nat), ¬ a < 101 → l.foldl (fun a x => if a < 101 then a + f x else a) a = a
  | [], _, _ => rfl
  | x :: r, a, ha => by
    show r.foldl _ (if a < 101 then a + f x else a) = a
    rw [if_neg ha]; exact fold_full f r a ha

end Go.Proofs.YtccaknabpnpjaaaDoor.A

/- The document's Shapes. -/
namespace Go.Proofs.YtccaknabpnpjaaaDoor.A
open Go.RowKit

/-- May a node be, by itself? -/
def okE (k s len : Nat) : Bool :=
  (decide (k = 0) && (decide (len = 0) && decide (s = 0))) || (decide (k = 1) && (decide (len = 0) && decide (0 < s))) || ((decide (k = 2) || decide (k = 3)) && (decide (0 < len) && decide (s = 0))) || ((decide (k = 4) || decide (k = 5)) && (decide (len = 1) && decide (s = 0)))
def shapesE : (n : Nat) → Ex n → Bool
  | 0, _ => false
  | n + 1, t => okE (kd t) (st t) (ks t).length && (ks t).all (fun x => shapesE n x)

/-- The loop's end and its rounds are the same whatever the kind: the rest of the walk, from the values on. -/
theorem shapes_end {n : Nat} {l : List (Ex n)} {ok : Bool} {i : Nat} (h : (ok && (l.take i).all (fun x => shapesE n x)) = false) : (ok && l.all (fun x => shapesE n x)) = false := by
  cases ok
  · rfl
  · rw [Bool.true_and] at h ⊢
    rw [Bool.eq_false_iff] at h ⊢
    intro q
    exact h (List.all_eq_true.2 fun x hx => List.all_eq_true.1 q x (List.mem_of_mem_take hx))

end Go.Proofs.YtccaknabpnpjaaaDoor.A
