/- A machine that is being put together, in memory: four rows, and a row a state. -/
import Derived.Deep.AppendLies
import Derived.Deep.RegionLaw
import Derived.WalkKit
import Derived.ProofKit
import Derived.Outline
import Derived.BigQuiet
import Derived.Deep.QuietTactic
import Derived.Below
import Derived.Deep.RegionHeld3
import Derived.OpenShut
import Derived.Deep.Slices
import Derived.Deep.Strs
import Derived.Deep.OwnRows
import Derived.Deep.WholeRow
import Derived.Deep.AppendSrc
import Derived.Deep.Heap
import Derived.Laws.AppendOwnNone
import Derived.Test.YtbbfjjjnifomgaaGreatDoorK1
import Derived.Test.YtbbfjjjnifomgaaGreatDoorK4
import Derived.Test.YtbbfjjjnifomgaaGreatDoorK6
import Derived.Test.YtbbfjjjnifomgaaGreatDoorK8
import Derived.Test.YtbbfjjjnifomgaaGreatDoorK11
namespace Go.Proofs.YtbbfjjjnifomgaaGreatDoor.A
open Go.RowKit

/-- Two values that own no block together. -/
def Ap (a b : Value) : Prop := ∀ k, a.ownBlock = some k → b.ownBlock = some k → False
theorem Ap.symm {a b : Value} (h : Ap a b) : Ap b a := fun k h1 h2 => h k h2 h1
theorem ap_nil (a : Value) : Ap a (.slice none 0 0) := fun k _ h => by simp [Value.ownBlock] at h
theorem own_types {w : World} {base base' : Nat} {e e' : TypeId} {s s' : Nat} {v v' : Value} {n n' : Nat} {xs xs' : List Value} (h : w.ownsRow base e s v n xs) (h' : w.ownsRow base' e' s' v' n' xs') (he : e ≠ e') : Ap v v' := by
  intro k hk hk'
  obtain ⟨_, ⟨rfl, _⟩ | ⟨g, cap, cur, rfl, _, hg, _⟩⟩ := h
  · simp [Value.ownBlock] at hk
  · obtain ⟨_, ⟨rfl, _⟩ | ⟨g', cap', cur', rfl, _, hg', _⟩⟩ := h'
    · simp [Value.ownBlock] at hk'
    · simp only [Value.ownBlock, Option.some.injEq] at hk hk'
      subst hk
      subst hk'
      rw [hg] at hg'
      cases hg'
      exact he rfl
theorem own_move {w w' : World} {base : Nat} {e : TypeId} {s : Nat} {v : Value} {n : Nat} {xs : List Value} (h : w.ownsRow base e s v n xs) (hk : ∀ k, v.ownBlock = some k → w'.heap[k]? = w.heap[k]?) : w'.ownsRow base e s v n xs := by
  obtain ⟨h1, h2 | ⟨g, cap, cur, rfl, hb, hg, r⟩⟩ := h
  · exact ⟨h1, .inl h2⟩
  · exact ⟨h1, .inr ⟨g, cap, cur, rfl, hb, by rw [hk g rfl]; exact hg, r⟩⟩
theorem own_type {w : World} {base : Nat} {e : TypeId} {s : Nat} {v : Value} {n : Nat} {xs : List Value} (h : w.ownsRow base e s v n xs) {k : Nat} (hk : v.ownBlock = some k) : base ≤ k ∧ k < w.heap.size ∧ ∃ cs, w.heap[k]? = some (.cells cs e (0, 0)) := by
  obtain ⟨_, ⟨rfl, _⟩ | ⟨g, cap, cur, rfl, hb, hg, _⟩⟩ := h
  · simp [Value.ownBlock] at hk
  · simp only [Value.ownBlock, Option.some.injEq] at hk
    subst hk
    exact ⟨hb, (Array.getElem?_eq_some_iff.1 hg).1, _, hg⟩
/-- A row of another type than the block's. -/
theorem own_not {w : World} {base q : Nat} {e t : TypeId} {s : Nat} {v : Value} {n : Nat} {xs : List Value} {cs : Array Value} {fr : Nat × Nat} (h : w.ownsRow base e s v n xs) (hq : w.heap[q]? = some (.cells cs t fr)) (he : e ≠ t) : v.ownBlock ≠ some q := fun hk => by
  obtain ⟨_, _, cs', h'⟩ := own_type h hk
  rw [hq] at h'
  cases h'
  exact he rfl

/-- A builder: its block, its rows. -/
structure Bv (w : World) (base q : Nat) (v0 v1 v2 v3 : Value) (vf : List Value) (ff : List (List Int)) (ss : List Nat) (ts rs : List Int) : Prop where
  blk : w.heap[q]? = some (.cells #[v0, v1, v2, v3] 178 (0, 0))
  low : base ≤ q
  o0 : w.ownsRow base 23 1 v0 vf.length vf
  o1 : w.ownsRow base 53 1 v1 ss.length (ss.map fun (s : Nat) => Value.int .u16 (s : Int))
  o2 : w.ownsRow base 3 1 v2 ts.length (ts.map (Value.int .i64))
  o3 : w.ownsRow base 3 1 v3 rs.length (rs.map (Value.int .i64))
  len : vf.length = ff.length
  rows : ∀ (i : Nat) (v : Value) (l : List Int), vf[i]? = some v → ff[i]? = some l → w.ownsRow base 3 1 v l.length (l.map (Value.int .i64))
  ap : (v2 :: v3 :: vf).Pairwise Ap
def Bq (w : World) (base q : Nat) (ff : List (List Int)) (ss : List Nat) (ts rs : List Int) : Prop := ∃ v0 v1 v2 v3 vf, Bv w base q v0 v1 v2 v3 vf ff ss ts rs

/-- A block that a builder never writes. -/
def Far (w : World) (base k : Nat) : Prop := k < base ∨ ∃ cs t fr, w.heap[k]? = some (.cells cs t fr) ∧ t ≠ 178 ∧ t ≠ 23 ∧ t ≠ 53 ∧ t ≠ 3
def Near (w : World) (base k : Nat) : Prop := base ≤ k ∧ ∃ cs t fr, w.heap[k]? = some (.cells cs t fr) ∧ (t = 178 ∨ t = 23 ∨ t = 53 ∨ t = 3)
theorem far_near {w : World} {base k : Nat} (h : Far w base k) (h' : Near w base k) : False := by
  obtain ⟨hb, cs, t, fr, e, ht⟩ := h'
  rcases h with h | ⟨cs', t', fr', e', h⟩
  · omega
  · rw [e] at e'
    cases e'
    rcases ht with rfl | rfl | rfl | rfl
    · exact h.1 rfl
    · exact h.2.1 rfl
    · exact h.2.2.1 rfl
    · exact h.2.2.2 rfl
theorem own_near {w : World} {base : Nat} {e : TypeId} {s : Nat} {v : Value} {n : Nat} {xs : List Value} (h : w.ownsRow base e s v n xs) (he : e = 178 ∨ e = 23 ∨ e = 53 ∨ e = 3) (k : Nat) (hk : v.ownBlock = some k) : Near w base k := by
  obtain ⟨h1, _, cs, h2⟩ := own_type h hk
  exact ⟨h1, cs, e, _, h2, he⟩
structure Kb (base : Nat) (w w' : World) : Prop where
  os : w'.os = w.os
  tape : w'.tape = w.tape
  output : w'.output = w.output
  size : w.heap.size ≤ w'.heap.size
  block : ∀ k, k < w.heap.size → Far w base k → w'.heap[k]? = w.heap[k]?
theorem Kb.refl (base : Nat) (w : World) : Kb base w w := ⟨rfl, rfl, rfl, Nat.le_refl _, fun _ _ _ => rfl⟩
theorem Kb.far {base : Nat} {w w' : World} (h : Kb base w w') {k : Nat} (hk : k < w.heap.size) (hf : Far w base k) : Far w' base k := by
  rcases hf with hf | ⟨cs, t, fr, e, ht⟩
  · exact .inl hf
  · exact .inr ⟨cs, t, fr, (h.block k hk (.inr ⟨cs, t, fr, e, ht⟩)).trans e, ht⟩
theorem Kb.trans {base : Nat} {a b c : World} (h : Kb base a b) (k : Kb base b c) : Kb base a c :=
  ⟨k.os.trans h.os, k.tape.trans h.tape, k.output.trans h.output, Nat.le_trans h.size k.size, fun i hi hf => (k.block i (Nat.lt_of_lt_of_le hi h.size) (h.far hi hf)).trans (h.block i hi hf)⟩
theorem Kb.of_below {base : Nat} {w w' : World} (h : Below w.heap.size w w') : Kb base w w' := ⟨h.os, h.tape, h.output, h.size, fun k hk _ => h.block k hk⟩
theorem Kb.drew {base : Nat} {w w' : World} (h : Kb base w w') : Kb base w w'.drew := ⟨h.os, h.tape, h.output, h.size, h.block⟩
theorem Kb.below {base : Nat} {w w' : World} (h : Kb base w w') (hb : base ≤ w.heap.size) : Below base w w' := ⟨h.os, h.tape, h.output, h.size, fun k hk => h.block k (by omega) (.inl hk)⟩
theorem Kb.cell {base : Nat} {w w' : World} (h : Kb base w w') {p : Addr} (hp : p.block < w.heap.size) (hf : Far w base p.block) : w'.cell? p = w.cell? p := World.cell?_of_block (w := w) (h.block p.block hp hf)
theorem bv_below {w w' : World} {base q : Nat} {v0 v1 v2 v3 : Value} {vf : List Value} {ff : List (List Int)} {ss : List Nat} {ts rs : List Int} (hb : Below w.heap.size w w') (h : Bv w base q v0 v1 v2 v3 vf ff ss ts rs) : Bv w' base q v0 v1 v2 v3 vf ff ss ts rs := by
  have mv : ∀ {e : TypeId} {v : Value} {n : Nat} {xs : List Value}, w.ownsRow base e 1 v n xs → w'.ownsRow base e 1 v n xs := fun h => own_move h (fun k hk => hb.block k (own_type h hk).2.1)
  have hq : q < w.heap.size := (Array.getElem?_eq_some_iff.1 h.blk).1
  exact ⟨(hb.block q hq).trans h.blk, h.low, mv h.o0, mv h.o1, mv h.o2, mv h.o3, h.len, fun i v l a b => mv (h.rows i v l a b), h.ap⟩
theorem bq_below {w w' : World} {base q : Nat} {ff : List (List Int)} {ss : List Nat} {ts rs : List Int} (hb : Below w.heap.size w w') (h : Bq w base q ff ss ts rs) : Bq w' base q ff ss ts rs := by
  obtain ⟨v0, v1, v2, v3, vf, h⟩ := h
  exact ⟨v0, v1, v2, v3, vf, bv_below hb h⟩

/-- Behind an append, with what is appended in a block of its own: what is not of the row stays. -/
theorem kept1 {w w1 : World} {o : Obj} {r : Option Nat} {base : Nat} {e : TypeId} {s : Nat} {v : Value} {n : Nat} {xs : List Value} (h : w.ownsRow base e s v n xs) (hg : (w.alloc o).grownBy w1 r) (hap : ∀ k, v.ownBlock = some k → r ≠ some k) : w1.ownsRow base e s v n xs :=
  own_move h (fun k hk => by
    have hlt := (own_type h hk).2.1
    rw [hg.block k (by simp; omega) (fun e => hap k hk e.symm), Below.heap_alloc _ _ _ hlt])
theorem blk_set {w : World} {q : Nat} {cs : Array Value} {t : TypeId} {fr : Nat × Nat} (h : w.heap[q]? = some (.cells cs t fr)) (i : Nat) (u : Value) : (w.setCell ⟨q, i, none⟩ u).heap[q]? = some (.cells (cs.setIfInBounds i u) t fr) := by
  simp [World.setCell, Array.getElem?_modify, h]
theorem set_far {w : World} {q i : Nat} {u : Value} {base : Nat} {e : TypeId} {s : Nat} {v : Value} {n : Nat} {xs : List Value} (h : w.ownsRow base e s v n xs) (hk : v.ownBlock ≠ some q) : (w.setCell ⟨q, i, none⟩ u).ownsRow base e s v n xs :=
  own_move h (fun k hk' => Below.heap_setCell _ _ _ _ (fun e => hk (by rw [hk', show k = q from e])))
theorem ap_new {w : World} {base : Nat} {e : TypeId} {s : Nat} {u v : Value} {n m cap g H : Nat} {xs : List Value} (hat : v.ownBlock = some g ∨ g = H) (hH : w.heap.size ≤ H) (h : w.ownsRow base e s u n xs) (hap : Ap v u) : Ap (.slice (some ⟨g, 0, none⟩) m cap) u := fun k hk hk' => by
  simp only [Value.ownBlock, Option.some.injEq] at hk
  subst hk
  rcases hat with hat | hat
  · exact hap g hat hk'
  · have := (own_type h hk').2.1
    omega
/-- An append to one of the four rows, and its store. -/
theorem kb_app {w w1 : World} {o : Obj} {base q i : Nat} {u v : Value} {cs : Array Value} {fr : Nat × Nat} (hq : w.heap[q]? = some (.cells cs 178 fr)) (hlow : base ≤ q) (hg : (w.alloc o).grownBy w1 v.ownBlock) (hn : ∀ k, v.ownBlock = some k → Near w base k) : Kb base w (w1.setCell ⟨q, i, none⟩ u) := by
  have hs := hg.size
  refine ⟨hg.os, hg.tape, hg.output, by simp at hs ⊢; omega, fun k hk hf => ?_⟩
  have h1 : k ≠ q := fun e => by subst e; exact far_near hf ⟨hlow, cs, 178, fr, hq, .inl rfl⟩
  have h2 : some k ≠ v.ownBlock := fun e => far_near hf (hn k e.symm)
  rw [Below.heap_setCell _ _ _ _ h1, hg.block k (by simp; omega) h2, Below.heap_alloc _ _ _ hk]
theorem q_kept {w w1 : World} {o : Obj} {base q : Nat} {v0 v1 v2 v3 : Value} {vf : List Value} {ff : List (List Int)} {ss : List Nat} {ts rs : List Int} (h : Bv w base q v0 v1 v2 v3 vf ff ss ts rs) {r : Option Nat} (hg : (w.alloc o).grownBy w1 r) (hr : r ≠ some q) : w1.heap[q]? = some (.cells #[v0, v1, v2, v3] 178 (0, 0)) := by
  have hq : q < w.heap.size := (Array.getElem?_eq_some_iff.1 h.blk).1
  rw [hg.block q (by simp; omega) (fun e => hr e.symm), Below.heap_alloc _ _ _ hq]
  exact h.blk
section
variable {w w1 : World} {o : Obj} {base q : Nat} {v0 v1 v2 v3 : Value} {vf : List Value} {ff : List (List Int)} {ss : List Nat} {ts rs : List Int} {g cap : Nat}
theorem bv_app0 (h : Bv w base q v0 v1 v2 v3 vf ff ss ts rs) (ho : w1.ownsRow base 23 1 (.slice (some ⟨g, 0, none⟩) (vf.length + 1) cap) (vf.length + 1) (vf ++ [.slice none 0 0])) (hg : (w.alloc o).grownBy w1 v0.ownBlock) :
    Bv (w1.setCell ⟨q, 0, none⟩ (.slice (some ⟨g, 0, none⟩) (vf.length + 1) cap)) base q (.slice (some ⟨g, 0, none⟩) (vf.length + 1) cap) v1 v2 v3 (vf ++ [.slice none 0 0]) (ff ++ [[]]) ss ts rs ∧ Kb base w (w1.setCell ⟨q, 0, none⟩ (.slice (some ⟨g, 0, none⟩) (vf.length + 1) cap)) := by
  have hq1 := q_kept h hg (own_not h.o0 h.blk (by decide))
  have mv : ∀ {e : TypeId} {v : Value} {n : Nat} {xs : List Value}, w.ownsRow base e 1 v n xs → e ≠ 23 → e ≠ 178 → (w1.setCell ⟨q, 0, none⟩ (.slice (some ⟨g, 0, none⟩) (vf.length + 1) cap)).ownsRow base e 1 v n xs := fun hv h1 h2 => set_far (kept1 hv hg (fun k hk e => own_types hv h.o0 h1 k hk e)) (own_not (kept1 hv hg (fun k hk e => own_types hv h.o0 h1 k hk e)) hq1 h2)
  refine ⟨⟨blk_set hq1 0 _, h.low, ?_, mv h.o1 (by decide) (by decide), mv h.o2 (by decide) (by decide), mv h.o3 (by decide) (by decide), by simp [h.len], fun i v l hv hl => ?_, ?_⟩, kb_app h.blk h.low hg (own_near h.o0 (by simp))⟩
  · rw [List.length_append]; exact set_far ho (own_not ho hq1 (by decide))
  · by_cases e : i < vf.length
    · rw [List.getElem?_append_left e] at hv
      rw [List.getElem?_append_left (by rw [← h.len]; exact e)] at hl
      exact mv (h.rows i v l hv hl) (by decide) (by decide)
    · rw [List.getElem?_append_right (by omega)] at hv
      rw [List.getElem?_append_right (by rw [← h.len]; omega)] at hl
      have e1 : i - vf.length = 0 := by have := (List.getElem?_eq_some_iff.1 hv).1; simp at this; omega
      rw [e1] at hv
      rw [← h.len, e1] at hl
      have hv' : Value.slice none 0 0 = v := by simpa using hv
      have hl' : ([] : List Int) = l := by simpa using hl
      subst hv'
      subst hl'
      exact World.ownsRow_nil _ _ _ _
  · rw [← List.cons_append, ← List.cons_append, List.pairwise_append]
    exact ⟨h.ap, by simp, fun a _ b hb => by rw [List.mem_singleton] at hb; subst hb; exact ap_nil a⟩
theorem bv_app1 (h : Bv w base q v0 v1 v2 v3 vf ff ss ts rs) (x : Nat) (ho : w1.ownsRow base 53 1 (.slice (some ⟨g, 0, none⟩) (ss.length + 1) cap) (ss.length + 1) ((ss.map fun (s : Nat) => Value.int .u16 (s : Int)) ++ [.int .u16 (x : Int)])) (hg : (w.alloc o).grownBy w1 v1.ownBlock) :
    Bv (w1.setCell ⟨q, 1, none⟩ (.slice (some ⟨g, 0, none⟩) (ss.length + 1) cap)) base q v0 (.slice (some ⟨g, 0, none⟩) (ss.length + 1) cap) v2 v3 vf ff (ss ++ [x]) ts rs ∧ Kb base w (w1.setCell ⟨q, 1, none⟩ (.slice (some ⟨g, 0, none⟩) (ss.length + 1) cap)) := by
  have hq1 := q_kept h hg (own_not h.o1 h.blk (by decide))
  have mv : ∀ {e : TypeId} {v : Value} {n : Nat} {xs : List Value}, w.ownsRow base e 1 v n xs → e ≠ 53 → e ≠ 178 → (w1.setCell ⟨q, 1, none⟩ (.slice (some ⟨g, 0, none⟩) (ss.length + 1) cap)).ownsRow base e 1 v n xs := fun hv h1 h2 => set_far (kept1 hv hg (fun k hk e => own_types hv h.o1 h1 k hk e)) (own_not (kept1 hv hg (fun k hk e => own_types hv h.o1 h1 k hk e)) hq1 h2)
  refine ⟨⟨blk_set hq1 1 _, h.low, mv h.o0 (by decide) (by decide), ?_, mv h.o2 (by decide) (by decide), mv h.o3 (by decide) (by decide), h.len, fun i v l hv hl => mv (h.rows i v l hv hl) (by decide) (by decide), h.ap⟩, kb_app h.blk h.low hg (own_near h.o1 (by simp))⟩
  rw [List.length_append, List.map_append]; exact set_far ho (own_not ho hq1 (by decide))
theorem bv_app2 (h : Bv w base q v0 v1 v2 v3 vf ff ss ts rs) (x : Int) (ho : w1.ownsRow base 3 1 (.slice (some ⟨g, 0, none⟩) (ts.length + 1) cap) (ts.length + 1) (ts.map (Value.int .i64) ++ [.int .i64 x])) (hg : (w.alloc o).grownBy w1 v2.ownBlock) (hat : v2.ownBlock = some g ∨ g = w.heap.size + 1) :
    Bv (w1.setCell ⟨q, 2, none⟩ (.slice (some ⟨g, 0, none⟩) (ts.length + 1) cap)) base q v0 v1 (.slice (some ⟨g, 0, none⟩) (ts.length + 1) cap) v3 vf ff ss (ts ++ [x]) rs ∧ Kb base w (w1.setCell ⟨q, 2, none⟩ (.slice (some ⟨g, 0, none⟩) (ts.length + 1) cap)) := by
  have hq1 := q_kept h hg (own_not h.o2 h.blk (by decide))
  obtain ⟨a2, a3⟩ := List.pairwise_cons.1 h.ap
  have mv : ∀ {e : TypeId} {v : Value} {n : Nat} {xs : List Value}, w.ownsRow base e 1 v n xs → Ap v2 v → e ≠ 178 → (w1.setCell ⟨q, 2, none⟩ (.slice (some ⟨g, 0, none⟩) (ts.length + 1) cap)).ownsRow base e 1 v n xs := fun hv h1 h2 => set_far (kept1 hv hg (fun k hk e => h1 k e hk)) (own_not (kept1 hv hg (fun k hk e => h1 k e hk)) hq1 h2)
  refine ⟨⟨blk_set hq1 2 _, h.low, mv h.o0 (own_types h.o2 h.o0 (by decide)) (by decide), mv h.o1 (own_types h.o2 h.o1 (by decide)) (by decide), ?_, mv h.o3 (a2 v3 (by simp)) (by decide), h.len, fun i v l hv hl => mv (h.rows i v l hv hl) (a2 v (by simp [List.mem_of_getElem? hv])) (by decide), ?_⟩, kb_app h.blk h.low hg (own_near h.o2 (by simp))⟩
  · rw [List.length_append, List.map_append]; exact set_far ho (own_not ho hq1 (by decide))
  · rw [List.pairwise_cons]
    refine ⟨fun b hb => ?_, a3⟩
    rcases List.mem_cons.1 hb with rfl | hb'
    · exact ap_new hat (by omega) h.o3 (a2 _ hb)
    · obtain ⟨i, hi, e⟩ := List.getElem_of_mem hb'
      exact ap_new hat (by omega) (h.rows i b _ (by rw [List.getElem?_eq_getElem hi, e]) (List.getElem?_eq_getElem (by rw [← h.len]; exact hi))) (a2 _ hb)
theorem bv_app3 (h : Bv w base q v0 v1 v2 v3 vf ff ss ts rs) (x : Int) (ho : w1.ownsRow base 3 1 (.slice (some ⟨g, 0, none⟩) (rs.length + 1) cap) (rs.length + 1) (rs.map (Value.int .i64) ++ [.int .i64 x])) (hg : (w.alloc o).grownBy w1 v3.ownBlock) (hat : v3.ownBlock = some g ∨ g = w.heap.size + 1) :
    Bv (w1.setCell ⟨q, 3, none⟩ (.slice (some ⟨g, 0, none⟩) (rs.length + 1) cap)) base q v0 v1 v2 (.slice (some ⟨g, 0, none⟩) (rs.length + 1) cap) vf ff ss ts (rs ++ [x]) ∧ Kb base w (w1.setCell ⟨q, 3, none⟩ (.slice (some ⟨g, 0, none⟩) (rs.length + 1) cap)) := by
  have hq1 := q_kept h hg (own_not h.o3 h.blk (by decide))
  obtain ⟨a2, a3⟩ := List.pairwise_cons.1 h.ap
  obtain ⟨a4, a5⟩ := List.pairwise_cons.1 a3
  have mv : ∀ {e : TypeId} {v : Value} {n : Nat} {xs : List Value}, w.ownsRow base e 1 v n xs → Ap v3 v → e ≠ 178 → (w1.setCell ⟨q, 3, none⟩ (.slice (some ⟨g, 0, none⟩) (rs.length + 1) cap)).ownsRow base e 1 v n xs := fun hv h1 h2 => set_far (kept1 hv hg (fun k hk e => h1 k e hk)) (own_not (kept1 hv hg (fun k hk e => h1 k e hk)) hq1 h2)
  refine ⟨⟨blk_set hq1 3 _, h.low, mv h.o0 (own_types h.o3 h.o0 (by decide)) (by decide), mv h.o1 (own_types h.o3 h.o1 (by decide)) (by decide), mv h.o2 (a2 v3 (by simp)).symm (by decide), ?_, h.len, fun i v l hv hl => mv (h.rows i v l hv hl) (a4 v (List.mem_of_getElem? hv)) (by decide), ?_⟩, kb_app h.blk h.low hg (own_near h.o3 (by simp))⟩
  · rw [List.length_append, List.map_append]; exact set_far ho (own_not ho hq1 (by decide))
  · rw [List.pairwise_cons, List.pairwise_cons]
    refine ⟨fun b hb => ?_, fun b hb => ?_, a5⟩
    · rcases List.mem_cons.1 hb with rfl | hb'
      · exact (ap_new hat (by omega) h.o2 (a2 v3 (by simp)).symm).symm
      · exact a2 b (by simp [hb'])
    · obtain ⟨i, hi, e⟩ := List.getElem_of_mem hb
      exact ap_new hat (by omega) (h.rows i b _ (by rw [List.getElem?_eq_getElem hi, e]) (List.getElem?_eq_getElem (by rw [← h.len]; exact hi))) (a4 _ hb)
end

end Go.Proofs.YtbbfjjjnifomgaaGreatDoor.A

/- The program's builder: a new state. -/
namespace Go.Proofs.YtbbfjjjnifomgaaGreatDoor.A
open Go.RowKit

theorem info23 : (Tryz.prog.info? 23).map (fun i => (i.zero, i.size, i.bytes)) = some (some (.slice none 0 0), 1, 24) := by kernel_rfl
theorem info53 : (Tryz.prog.info? 53).map (fun i => (i.zero, i.size, i.bytes)) = some (some (.int .u16 0), 1, 2) := by kernel_rfl
theorem q_cells {w : World} {q : Nat} {v0 v1 v2 v3 : Value} (h : w.heap[q]? = some (.cells #[v0, v1, v2, v3] 178 (0, 0))) : (w.cell? ⟨q, 0, none⟩ = some v0 ∧ w.cell? ⟨q, 1, none⟩ = some v1 ∧ w.cell? ⟨q, 2, none⟩ = some v2 ∧ w.cell? ⟨q, 3, none⟩ = some v3) ∧ (∀ i, w.frozen? ⟨q, i, none⟩ = false) := by
  refine ⟨⟨?_, ?_, ?_, ?_⟩, fun i => ?_⟩
  · rw [cell_of_row _ _ _ _ _ _ h]; rfl
  · rw [cell_of_row _ _ _ _ _ _ h]; rfl
  · rw [cell_of_row _ _ _ _ _ _ h]; rfl
  · rw [cell_of_row _ _ _ _ _ _ h]; rfl
  · simp [World.frozen?, h]

theorem one_at {w : World} {H : Nat} (hH : w.heap.size = H) (v : Value) (t : TypeId) : ∀ j u, [v][j]? = some u → (w.alloc (.cells #[v] t)).cell? ((⟨H, 0, none⟩ : Addr).add j) = some u := by subst hH; exact one_new w v t

set_option maxRecDepth 100000 in
set_option maxHeartbeats 3200000 in
theorem state_any (base q : Nat) (ff : List (List Int)) (ss : List Nat) (ts rs : List Int) (w : World) (hB : Bq w base q ff ss ts rs) (hN : ff.length ≤ 10000) (ls : ss.length = ff.length) (lt : ts.length = ff.length) (lr : rs.length = ff.length) :
    Calls Tryz.prog 122 #[.pointer (some ⟨q, 0, none⟩)] w fun e w' => e = .returned (.int .i64 ff.length) ∧ Bq w' base q (ff ++ [[]]) (ss ++ [0]) (ts ++ [0]) (rs ++ [-1]) ∧ Kb base w w' := by
  obtain ⟨i27, hi27, hz27, hs27, hb27⟩ := info_parts info23
  obtain ⟨i36, hi36, hz36, hs36, hb36⟩ := info_parts info53
  obtain ⟨i3, hi3, hz3, hs3, hb3⟩ := info_parts info3
  obtain ⟨v0, v1, v2, v3, vf, h⟩ := hB
  have HV := hide h
  have HLV := hide h.len
  obtain ⟨⟨c0, c1, c2, c3⟩, fz⟩ := q_cells h.blk
  have HBS := hide (show base ≤ w.heap.size by have := h.low; have := (Array.getElem?_eq_some_iff.1 h.blk).1; omega)
  clear h
  have HLL := hide (show vf.length ≤ 10000 ∧ ss.length ≤ 10000 ∧ ts.length ≤ 10000 ∧ rs.length ≤ 10000 by have := HLV.out; omega)
  have HLS := hide ls
  have HLT := hide lt
  have HLR := hide lr
  clear ls lt lr hN
  go_enter Tryz.func122, Tryz.ntmps122
  go_wp2_with (at_builtin; refine wpList_append_lies _ rfl _ _ 36 rfl base 23 i27 (.slice none 0 0) 1 24 Tryz.underlying36 hi27 hz27 hs27 hb27 rfl (by decide) _ _ _ rfl (HV.out.o0.alloc _) ⟨_, 0, none⟩ 1 1 [.slice none 0 0] rfl rfl (one_new _ _ _) (fun u hu => by simp only [List.mem_singleton] at hu; subst hu; rfl) (by decide) (by have := HLL.out; unfold maxLen; omega) (by have := HLL.out; omega) (by have := HBS.out; simp; omega) _ rfl ?_)
  intro g cap w1 hown hgrow hat hlt
  have hq1 := q_kept HV.out hgrow (own_not HV.out.o0 HV.out.blk (by decide))
  have hA := bv_app0 HV.out hown hgrow
  have HA := hide hA.1
  have HK := hide hA.2
  have HBA := hide (show base ≤ w1.heap.size by have := Nat.le_trans HBS.out HK.out.size; simpa using this)
  obtain ⟨⟨d0, d1, d2, d3⟩, fz1⟩ := q_cells hq1
  have f1 := fz1 0
  clear c0 c1 c2 c3 fz fz1 hown hgrow hat hlt hq1 hA
  go_wp2_with (at_builtin; refine wpList_append_lies _ rfl _ _ 95 rfl base 53 i36 (.int .u16 0) 1 2 Tryz.underlying95 hi36 hz36 hs36 hb36 rfl (by decide) _ _ _ rfl (HA.out.o1.alloc _) ⟨_, 0, none⟩ 1 1 [.int .u16 0] rfl rfl (one_at (by simp) _ _) (fun u hu => by simp only [List.mem_singleton] at hu; subst hu; rfl) (by decide) (by have := HLL.out; unfold maxLen; omega) (by have := HLL.out; omega) (by have := HBA.out; simp; omega) _ rfl ?_)
  intro g2 cap2 w2 hown hgrow hat hlt
  have hq2 := q_kept HA.out hgrow (own_not HA.out.o1 HA.out.blk (by decide))
  have hA2 := bv_app1 HA.out 0 hown hgrow
  have HA2 := hide hA2.1
  have HK2 := hide (HK.out.trans hA2.2)
  have HBA2 := hide (show base ≤ w2.heap.size by have := Nat.le_trans HBS.out HK2.out.size; simpa using this)
  obtain ⟨⟨d0, d1, d2, d3⟩, fz1⟩ := q_cells hq2
  have f1 := fz1 1
  clear fz1 hown hgrow hat hlt hq2 hA2
  go_wp2_with (at_builtin; refine wpList_append_lies _ rfl _ _ 23 rfl base 3 i3 (.int .i64 0) 1 8 Tryz.underlying23 hi3 hz3 hs3 hb3 rfl (by decide) _ _ _ rfl (HA2.out.o2.alloc _) ⟨_, 0, none⟩ 1 1 [.int .i64 0] rfl rfl (one_at (by simp) _ _) (fun u hu => by simp only [List.mem_singleton] at hu; subst hu; rfl) (by decide) (by have := HLL.out; unfold maxLen; omega) (by have := HLL.out; omega) (by have := HBA2.out; simp; omega) _ rfl ?_)
  intro g3 cap3 w3 hown hgrow hat hlt
  have hq3 := q_kept HA2.out hgrow (own_not HA2.out.o2 HA2.out.blk (by decide))
  have hA3 := bv_app2 HA2.out 0 hown hgrow (by simpa using hat)
  have HA3 := hide hA3.1
  have HK3 := hide (HK2.out.trans hA3.2)
  have HBA3 := hide (show base ≤ w3.heap.size by have := Nat.le_trans HBS.out HK3.out.size; simpa using this)
  obtain ⟨⟨d0, d1, d2, d3⟩, fz1⟩ := q_cells hq3
  have f1 := fz1 2
  clear fz1 hown hgrow hat hlt hq3 hA3
  go_wp2_with (at_builtin; refine wpList_append_lies _ rfl _ _ 23 rfl base 3 i3 (.int .i64 0) 1 8 Tryz.underlying23 hi3 hz3 hs3 hb3 rfl (by decide) _ _ _ rfl (HA3.out.o3.alloc _) ⟨_, 0, none⟩ 1 1 [.int .i64 (-1)] rfl rfl (one_at (by simp) _ _) (fun u hu => by simp only [List.mem_singleton] at hu; subst hu; rfl) (by decide) (by have := HLL.out; unfold maxLen; omega) (by have := HLL.out; omega) (by have := HBA3.out; simp; omega) _ rfl ?_)
  intro g4 cap4 w4 hown hgrow hat hlt
  have hq4 := q_kept HA3.out hgrow (own_not HA3.out.o3 HA3.out.blk (by decide))
  have hA4 := bv_app3 HA3.out (-1) hown hgrow (by simpa using hat)
  have HA4 := hide hA4.1
  have HK4 := hide (HK3.out.trans hA4.2)
  obtain ⟨⟨d0, d1, d2, d3⟩, fz1⟩ := q_cells hq4
  have f1 := fz1 3
  clear fz1 hown hgrow hat hlt hq4 hA4
  go_wp2
  go_ret
  refine ⟨?_, ⟨_, _, _, _, _, HA4.out⟩, HK4.out⟩
  rw [← HLV.out]
  simp
  have hl := HLL.out.1
  unfold wrap64
  omega

end Go.Proofs.YtbbfjjjnifomgaaGreatDoor.A

/- The program's builder: free steps are added. -/
namespace Go.Proofs.YtbbfjjjnifomgaaGreatDoor.A
open Go.RowKit

theorem ap_set {x : Value} : ∀ {l : List Value} {i : Nat}, l.Pairwise Ap → (∀ j a, j ≠ i → l[j]? = some a → Ap x a) → (l.set i x).Pairwise Ap
  | [], _, _, _ => by simp
  | b :: r, 0, h, hx => by
    rw [List.pairwise_cons] at h
    rw [List.set_cons_zero, List.pairwise_cons]
    refine ⟨fun a ha => ?_, h.2⟩
    obtain ⟨k, hk, e⟩ := List.getElem_of_mem ha
    exact hx (k + 1) a (by omega) (by rw [List.getElem?_cons_succ, List.getElem?_eq_getElem hk, e])
  | b :: r, i + 1, h, hx => by
    rw [List.pairwise_cons] at h
    rw [List.set_cons_succ, List.pairwise_cons]
    refine ⟨fun a ha => ?_, ap_set h.2 (fun j a hj ha => hx (j + 1) a (by omega) (by rw [List.getElem?_cons_succ]; exact ha))⟩
    rcases List.mem_or_eq_of_mem_set ha with ha | rfl
    · exact h.1 a ha
    · exact (hx 0 b (by omega) rfl).symm
theorem ap_at {l : List Value} (h : l.Pairwise Ap) {i j : Nat} {a b : Value} (hij : i ≠ j) (ha : l[i]? = some a) (hb : l[j]? = some b) : Ap a b := by
  rw [List.pairwise_iff_getElem] at h
  obtain ⟨hi, rfl⟩ := List.getElem?_eq_some_iff.1 ha
  obtain ⟨hj, rfl⟩ := List.getElem?_eq_some_iff.1 hb
  rcases Nat.lt_or_gt_of_ne hij with q | q
  · exact h i j hi hj q
  · exact (h j i hj hi q).symm
theorem kept2 {w w1 : World} {r : Option Nat} {base : Nat} {e : TypeId} {s : Nat} {v : Value} {n : Nat} {xs : List Value} (h : w.ownsRow base e s v n xs) (hg : w.grownBy w1 r) (hap : ∀ k, v.ownBlock = some k → r ≠ some k) : w1.ownsRow base e s v n xs :=
  own_move h (fun k hk => hg.block k (own_type h hk).2.1 (fun e => hap k hk e.symm))

section
variable {w w1 : World} {base q : Nat} {v1 v2 v3 u : Value} {vf : List Value} {ff : List (List Int)} {ss : List Nat} {ts rs l zs : List Int} {g g0 c0 cap i : Nat}
theorem bv_free (h : Bv w base q (.slice (some ⟨g0, 0, none⟩) vf.length c0) v1 v2 v3 vf ff ss ts rs) (hu : vf[i]? = some u) (hl : ff[i]? = some l)
    (ho : w1.ownsRow base 3 1 (.slice (some ⟨g, 0, none⟩) (l.length + zs.length) cap) (l.length + zs.length) (l.map (Value.int .i64) ++ zs.map (Value.int .i64))) (hg : w.grownBy w1 u.ownBlock) (hat : u.ownBlock = some g ∨ g = w.heap.size) :
    Bv (w1.setCell ⟨g0, i, none⟩ (.slice (some ⟨g, 0, none⟩) (l.length + zs.length) cap)) base q (.slice (some ⟨g0, 0, none⟩) (vf.set i (.slice (some ⟨g, 0, none⟩) (l.length + zs.length) cap)).length c0) v1 v2 v3 (vf.set i (.slice (some ⟨g, 0, none⟩) (l.length + zs.length) cap)) (ff.set i (l ++ zs)) ss ts rs ∧ Kb base w (w1.setCell ⟨g0, i, none⟩ (.slice (some ⟨g, 0, none⟩) (l.length + zs.length) cap)) := by
  have hur := h.rows i u l hu hl
  have o0' : w1.ownsRow base 23 1 (.slice (some ⟨g0, 0, none⟩) vf.length c0) vf.length vf := kept2 h.o0 hg (fun k hk e => own_types h.o0 hur (by decide) k hk e)
  obtain ⟨cs0, hg0⟩ := (own_type o0' (k := g0) rfl).2.2
  have hq : q < w.heap.size := (Array.getElem?_eq_some_iff.1 h.blk).1
  have hq1 : w1.heap[q]? = _ := (hg.block q hq (fun e => own_not hur h.blk (by decide) e.symm)).trans h.blk
  have hqg : q ≠ g0 := fun e => by subst e; rw [hg0] at hq1; cases hq1
  have mv : ∀ {e : TypeId} {v : Value} {n : Nat} {xs : List Value}, w.ownsRow base e 1 v n xs → Ap u v → e ≠ 23 → (w1.setCell ⟨g0, i, none⟩ (.slice (some ⟨g, 0, none⟩) (l.length + zs.length) cap)).ownsRow base e 1 v n xs := fun hv h1 h2 => set_far (kept2 hv hg (fun k hk e => h1 k e hk)) (own_not (kept2 hv hg (fun k hk e => h1 k e hk)) hg0 h2)
  have hui : (v2 :: v3 :: vf)[i + 2]? = some u := hu
  refine ⟨⟨?_, h.low, ?_, mv h.o1 (own_types hur h.o1 (by decide)) (by decide), mv h.o2 (ap_at h.ap (i := i + 2) (j := 0) (by omega) hui rfl) (by decide), mv h.o3 (ap_at h.ap (i := i + 2) (j := 1) (by omega) hui rfl) (by decide), by simp [h.len], fun j v k hv hk => ?_, ?_⟩, ?_⟩
  · rw [Below.heap_setCell _ _ _ _ hqg, List.length_set]; exact hq1
  · rw [List.length_set]; exact (o0'.stored i _).1
  · by_cases e : j = i
    · subst e
      rw [List.getElem?_set_self (List.getElem?_eq_some_iff.1 hu).1] at hv
      rw [List.getElem?_set_self (List.getElem?_eq_some_iff.1 hl).1] at hk
      cases hv
      cases hk
      rw [List.length_append, List.map_append]
      exact set_far ho (own_not ho hg0 (by decide))
    · rw [List.getElem?_set_ne (Ne.symm e)] at hv hk
      exact mv (h.rows j v k hv hk) (ap_at h.ap (i := i + 2) (j := j + 2) (by omega) hui hv) (by decide)
  · have := ap_set (x := .slice (some ⟨g, 0, none⟩) (l.length + zs.length) cap) (i := i + 2) h.ap (fun j a hj ha => by
      have hua := ap_at h.ap (i := i + 2) (j := j) (by omega) hui ha
      match j with
      | 0 => cases ha; exact ap_new hat (Nat.le_refl _) h.o2 hua
      | 1 => cases ha; exact ap_new hat (Nat.le_refl _) h.o3 hua
      | j + 2 =>
        have ha' : vf[j]? = some a := ha
        exact ap_new hat (Nat.le_refl _) (h.rows j a _ ha' (List.getElem?_eq_getElem (by rw [← h.len]; exact (List.getElem?_eq_some_iff.1 ha').1))) hua)
    exact this
  · refine ⟨hg.os, hg.tape, hg.output, by simpa using hg.size, fun k hk hf => ?_⟩
    have h1 : k ≠ g0 := fun e => far_near hf (own_near h.o0 (by simp) k (by rw [e]; rfl))
    rw [Below.heap_setCell _ _ _ _ h1, hg.block k hk (fun e => far_near hf (own_near hur (by simp) k e.symm))]
end

theorem wd_news {w : World} {ad : Addr} {zs : List Int} (h : Wd w (some ad) zs) : ∀ j u, (zs.map (Value.int .i64))[j]? = some u → w.cell? (ad.add j) = some u := fun j u hu => by
  rw [List.getElem?_map] at hu
  match hz : zs[j]?, hu with
  | some c, hu =>
    obtain ⟨b, off, e, hc⟩ := h j c hz
    cases e
    simp only [Option.map_some, Option.some.injEq] at hu
    rw [← hu, show (⟨b, off, none⟩ : Addr).add j = ⟨b, off + j, none⟩ from by unfold Addr.add; split <;> simp_all]
    exact hc

set_option maxRecDepth 100000 in
set_option maxHeartbeats 3200000 in
theorem free_any (base q : Nat) (ff : List (List Int)) (ss : List Nat) (ts rs : List Int) (i : Nat) (l zs : List Int) (a : Option Addr) (len cap : Nat) (w : World) (hB : Bq w base q ff ss ts rs) (hl : ff[i]? = some l) (hz : zs.length = len) (h0 : 0 < len) (hW : Wd w a zs) (hN : ff.length ≤ 10000) (hll : l.length + len ≤ 100000) :
    Calls Tryz.prog 124 #[.pointer (some ⟨q, 0, none⟩), .int .i64 i, .slice a len cap] w fun e w' => e = .returned (.tuple #[]) ∧ Bq w' base q (ff.set i (l ++ zs)) ss ts rs ∧ Kb base w w' := by
  obtain ⟨i3, hi3, hz3, hs3, hb3⟩ := info_parts info3
  obtain ⟨v0, v1, v2, v3, vf, h⟩ := hB
  obtain ⟨ad, rfl⟩ : ∃ ad, a = some ad := by
    obtain ⟨b, off, e, _⟩ := hW 0 _ (List.getElem?_eq_getElem (by omega))
    exact ⟨_, e⟩
  have hi : i < ff.length := (List.getElem?_eq_some_iff.1 hl).1
  obtain ⟨u, hu⟩ : ∃ u, vf[i]? = some u := ⟨_, List.getElem?_eq_getElem (by rw [h.len]; exact hi)⟩
  obtain ⟨g0, c0, rfl, hbg0, hlt0⟩ := h.o0.form (by rw [h.len]; omega)
  obtain ⟨⟨d0, d1, d2, d3⟩, fz⟩ := q_cells h.blk
  have e0 : w.cell? ⟨g0, i, none⟩ = some u := (h.o0.cellAt i (by have := h.len; omega)).trans hu
  have hnl := h.len
  have HV := hide h
  have HU := hide hu
  have HL := hide hl
  have HZ := hide hz
  have HNW := hide (wd_news hW)
  have HUR := hide (h.rows i u l hu hl)
  have HBS := hide (show base ≤ w.heap.size by have := h.low; have := (Array.getElem?_eq_some_iff.1 h.blk).1; omega)
  have HQ := hide (fun (w3 : World) (hgr : w.drew.grownBy w3 u.ownBlock) => show w3.cell? ⟨q, 0, none⟩ = some (.slice (some ⟨g0, 0, none⟩) vf.length c0) ∧ w3.frozen? ⟨g0, i, none⟩ = false ∧ w3.cell? ⟨g0, i, none⟩ = some u from by
    have hur := h.rows i u l hu hl
    have o0' : w3.ownsRow base 23 1 (.slice (some ⟨g0, 0, none⟩) vf.length c0) vf.length vf := kept2 h.o0.drew hgr (fun k hk e => own_types h.o0 hur (by decide) k hk e)
    refine ⟨hgr.cell (w := w.drew) d0 (fun e => own_not hur h.blk (by decide) e.symm), o0'.frozenAt i, (o0'.cellAt i (by have := h.len; omega)).trans hu⟩)
  obtain ⟨nf, hnf⟩ : ∃ nf, vf.length = nf := ⟨_, rfl⟩
  have HNF := hide hnf
  have i1 : (0 : Int) ≤ (i : Int) := by omega
  have i2 : (i : Int) < (nf : Int) := by omega
  rw [hnf] at d0
  rw [hnf] at HQ
  obtain ⟨nl, hnl'⟩ : ∃ nl, l.length = nl := ⟨_, rfl⟩
  have HNL := hide hnl'
  rw [hnl'] at hll HUR
  clear h hu hl hz hW d1 d2 d3 fz hnl hnl' hnf hbg0 hlt0
  go_enter Tryz.func124, Tryz.ntmps124
  go_wp2_with fail
  go_region_law ((refine step_append_lies _ (by rfl) (.tmp 19) (.tmp 20) 23 (by rfl) base 3 i3 (.int .i64 0) 1 8 Tryz.underlying23 hi3 hz3 hs3 hb3 rfl (by decide) u nl (l.map (Value.int .i64)) (by rfl) HUR.out.drew ad len cap (zs.map (Value.int .i64)) (by rfl) (by rw [List.length_map, HZ.out]; omega) HNW.out (one_ints zs) h0 (by unfold maxLen; omega) (by omega) HBS.out w.heap.size rfl ?_; intro g cap' w3 hown3 hgrow3 hat3 hlt3; obtain ⟨g5, g6, g7⟩ := HQ.out w3 hgrow3))
  all_goals
    have hR := bv_free (bv_below (below_drew1 w) HV.out) HU.out HL.out (zs := zs) (by rw [HNL.out, HZ.out]; exact hown3) hgrow3 hat3
    rw [HNL.out, HZ.out] at hR
    have HR := hide hR
    clear hR hown3 hgrow3 hat3 hlt3 d0 e0
    go_wp2
    go_end0
    exact ⟨rfl, ⟨_, _, _, _, _, HR.out.1⟩, (Kb.of_below (below_drew1 w)).trans HR.out.2⟩
end Go.Proofs.YtbbfjjjnifomgaaGreatDoor.A

/- A machine that is being put together, by what its steps are. -/
namespace Go.Proofs.YtbbfjjjnifomgaaGreatDoor.A
open Go.RowKit

/-- Lists that say just these steps. -/
structure Is (F : Nat → Nat → Prop) (S : Nat → Nat → Nat → Prop) (N : Nat) (ff : List (List Int)) (ss : List Nat) (ts : List Int) : Prop where
  lf : ff.length = N
  ls : ss.length = N
  lt : ts.length = N
  up : ∀ (i : Nat) (l : List Int), ff[i]? = some l → l.Pairwise (· < ·)
  mem : ∀ (i : Nat) (l : List Int), ff[i]? = some l → ∀ z : Int, z ∈ l ↔ ∃ j : Nat, z = j ∧ F i j
  set : ∀ (i s : Nat) (t : Int), ss[i]? = some s → ts[i]? = some t → (∃ j : Nat, S i s j ∧ t = (j : Int)) ∨ ((∀ s j, ¬ S i s j) ∧ s = 0 ∧ t = 0)
section
variable {F F' : Nat → Nat → Prop} {S S' : Nat → Nat → Nat → Prop} {N : Nat} {ff : List (List Int)} {ss : List Nat} {ts : List Int}
theorem is_congr (h : Is F S N ff ss ts) (hF : ∀ a b, F a b ↔ F' a b) (hS : ∀ a s b, S a s b ↔ S' a s b) : Is F' S' N ff ss ts := by
  have e1 : F = F' := by funext a b; exact propext (hF a b)
  have e2 : S = S' := by funext a s b; exact propext (hS a s b)
  subst e1; subst e2; exact h
theorem up_len : ∀ (l : List Int) (a M : Nat), l.Pairwise (· < ·) → (∀ z ∈ l, (a : Int) ≤ z ∧ z < (M : Int)) → l.length ≤ M - a
  | [], _, _, _, _ => Nat.zero_le _
  | x :: r, a, M, h, hz => by
    rw [List.pairwise_cons] at h
    obtain ⟨h1, h2⟩ := hz x (by simp)
    obtain ⟨y, rfl⟩ : ∃ y : Nat, x = y := ⟨x.toNat, by omega⟩
    have := up_len r (y + 1) M h.2 (fun z hz' => ⟨by have := h.1 z hz'; omega, (hz z (by simp [hz'])).2⟩)
    rw [List.length_cons]
    omega
theorem is_len (h : Is F S N ff ss ts) {M : Nat} (hM : ∀ a b, F a b → b < M) {i : Nat} {l : List Int} (hl : ff[i]? = some l) : l.length ≤ M := by
  have := up_len l 0 M (h.up i l hl) (fun z hz => by
    obtain ⟨j, rfl, hj⟩ := (h.mem i l hl z).1 hz
    have := hM _ _ hj
    omega)
  omega
theorem is_new (h : Is F S N ff ss ts) (hF : ∀ j, ¬ F N j) (hS : ∀ s j, ¬ S N s j) : Is F S (N + 1) (ff ++ [[]]) (ss ++ [0]) (ts ++ [0]) := by
  have spl : ∀ {α : Type} {l : List α} {x y : α} {i : Nat}, l.length = N → (l ++ [x])[i]? = some y → l[i]? = some y ∧ i < N ∨ (i = N ∧ x = y) := fun {α l x y i} hl e => by
    by_cases c : i < l.length
    · rw [List.getElem?_append_left c] at e; exact .inl ⟨e, by omega⟩
    · rw [List.getElem?_append_right (by omega)] at e
      have := (List.getElem?_eq_some_iff.1 e).1
      have e1 : i - l.length = 0 := by simp at this; omega
      rw [e1] at e
      exact .inr ⟨by omega, by simpa using e⟩
  refine ⟨by simp [h.lf], by simp [h.ls], by simp [h.lt], fun i l hl => ?_, fun i l hl z => ?_, fun i s t hs ht => ?_⟩
  · rcases spl h.lf hl with ⟨hl, _⟩ | ⟨_, rfl⟩
    · exact h.up i l hl
    · exact .nil
  · rcases spl h.lf hl with ⟨hl, _⟩ | ⟨rfl, rfl⟩
    · exact h.mem i l hl z
    · constructor
      · intro hz; cases hz
      · rintro ⟨j, _, hj⟩; exact absurd hj (hF j)
  · rcases spl h.ls hs with ⟨hs, c⟩ | ⟨c, rfl⟩
    · rcases spl h.lt ht with ⟨ht, _⟩ | ⟨c', _⟩
      · exact h.set i s t hs ht
      · omega
    · rcases spl h.lt ht with ⟨_, c'⟩ | ⟨_, rfl⟩
      · omega
      · subst c; exact .inr ⟨hS, rfl, rfl⟩
theorem is_free1 (h : Is F S N ff ss ts) {i z : Nat} {l : List Int} (hl : ff[i]? = some l) (hz : ∀ j, F i j → j < z) : Is (fun a b => F a b ∨ (a = i ∧ b = z)) S N (ff.set i (l ++ [(z : Int)])) ss ts := by
  have hlt := (List.getElem?_eq_some_iff.1 hl).1
  have lem : ∀ y ∈ l, y < (z : Int) := fun y hy => by
    obtain ⟨j, rfl, hj⟩ := (h.mem i l hl y).1 hy
    have := hz j hj; omega
  refine ⟨by simp [h.lf], h.ls, h.lt, fun k m hm => ?_, fun k m hm y => ?_, h.set⟩
  · by_cases e : k = i
    · subst e
      rw [List.getElem?_set_self hlt] at hm; cases hm
      rw [List.pairwise_append]
      exact ⟨h.up k l hl, by simp, fun a ha b hb => by rw [List.mem_singleton] at hb; subst hb; exact lem a ha⟩
    · rw [List.getElem?_set_ne (Ne.symm e)] at hm; exact h.up k m hm
  · by_cases e : k = i
    · subst e
      rw [List.getElem?_set_self hlt] at hm; cases hm
      rw [List.mem_append, List.mem_singleton, h.mem k l hl y]
      constructor
      · rintro (⟨j, e1, e2⟩ | e1)
        · exact ⟨j, e1, .inl e2⟩
        · exact ⟨z, e1, .inr ⟨rfl, rfl⟩⟩
      · rintro ⟨j, e1, e2 | ⟨_, e2⟩⟩
        · exact .inl ⟨j, e1, e2⟩
        · exact .inr (by rw [e1, e2])
    · rw [List.getElem?_set_ne (Ne.symm e)] at hm
      rw [h.mem k m hm y]
      constructor
      · rintro ⟨j, e1, e2⟩; exact ⟨j, e1, .inl e2⟩
      · rintro ⟨j, e1, e2 | ⟨e2, _⟩⟩
        · exact ⟨j, e1, e2⟩
        · exact absurd e2 e
theorem is_free2 (h : Is F S N ff ss ts) {i z y : Nat} {l : List Int} (hl : ff[i]? = some l) (hz : ∀ j, F i j → j < z) (hy : z < y) : Is (fun a b => (F a b ∨ (a = i ∧ b = z)) ∨ (a = i ∧ b = y)) S N (ff.set i (l ++ [(z : Int), (y : Int)])) ss ts := by
  have hlt := (List.getElem?_eq_some_iff.1 hl).1
  have h2 := is_free1 (is_free1 h hl hz) (z := y) (List.getElem?_set_self hlt) (fun j hj => by
    rcases hj with hj | ⟨_, hj⟩
    · have := hz j hj; omega
    · omega)
  rw [List.set_set, List.append_assoc] at h2
  exact h2
theorem is_set (h : Is F S N ff ss ts) {i s j : Nat} (hi : i < N) (hS : ∀ s j, ¬ S i s j) : Is F (fun a u b => S a u b ∨ (a = i ∧ u = s ∧ b = j)) N ff (ss.set i s) (ts.set i (j : Int)) := by
  refine ⟨h.lf, by simp [h.ls], by simp [h.lt], h.up, h.mem, fun k u t hu ht => ?_⟩
  by_cases e : k = i
  · subst e
    rw [List.getElem?_set_self (by rw [h.ls]; exact hi)] at hu
    rw [List.getElem?_set_self (by rw [h.lt]; exact hi)] at ht
    cases hu; cases ht
    exact .inl ⟨j, .inr ⟨rfl, rfl, rfl⟩, rfl⟩
  · rw [List.getElem?_set_ne (Ne.symm e)] at hu ht
    rcases h.set k u t hu ht with ⟨b, h1, h2⟩ | ⟨h1, h2, h3⟩
    · exact .inl ⟨b, .inl h1, h2⟩
    · refine .inr ⟨fun u b hb => ?_, h2, h3⟩
      rcases hb with hb | ⟨hb, _⟩
      · exact h1 u b hb
      · exact e hb
end

/-- A builder whose machine has just these steps, and these rules. -/
def Bm (w : World) (base q : Nat) (F : Nat → Nat → Prop) (S : Nat → Nat → Nat → Prop) (N : Nat) (rs : List Int) : Prop := ∃ ff ss ts, Bq w base q ff ss ts rs ∧ Is F S N ff ss ts ∧ rs.length = N
theorem bm_congr {w : World} {base q N : Nat} {F F' : Nat → Nat → Prop} {S S' : Nat → Nat → Nat → Prop} {rs : List Int} (h : Bm w base q F S N rs) (hF : ∀ a b, F a b ↔ F' a b) (hS : ∀ a s b, S a s b ↔ S' a s b) : Bm w base q F' S' N rs := by
  obtain ⟨ff, ss, ts, h1, h2, h3⟩ := h
  exact ⟨ff, ss, ts, h1, is_congr h2 hF hS, h3⟩
theorem bm_below {w w' : World} {base q N : Nat} {F : Nat → Nat → Prop} {S : Nat → Nat → Nat → Prop} {rs : List Int} (hb : Below w.heap.size w w') (h : Bm w base q F S N rs) : Bm w' base q F S N rs := by
  obtain ⟨ff, ss, ts, h1, h2, h3⟩ := h
  exact ⟨ff, ss, ts, bq_below hb h1, h2, h3⟩
theorem bm_lt {w : World} {base q N : Nat} {F : Nat → Nat → Prop} {S : Nat → Nat → Nat → Prop} {rs : List Int} (h : Bm w base q F S N rs) : base ≤ q ∧ q < w.heap.size := by
  obtain ⟨ff, ss, ts, ⟨v0, v1, v2, v3, vf, h1⟩, h2, h3⟩ := h
  exact ⟨h1.low, (Array.getElem?_eq_some_iff.1 h1.blk).1⟩
theorem state_m (base q : Nat) (F : Nat → Nat → Prop) (S : Nat → Nat → Nat → Prop) (N : Nat) (rs : List Int) (w : World) (hB : Bm w base q F S N rs) (hN : N ≤ 9999) (hF : ∀ j, ¬ F N j) (hS : ∀ s j, ¬ S N s j) :
    Calls Tryz.prog 122 #[.pointer (some ⟨q, 0, none⟩)] w fun e w' => e = .returned (.int .i64 N) ∧ Bm w' base q F S (N + 1) (rs ++ [-1]) ∧ Kb base w w' := by
  obtain ⟨ff, ss, ts, h1, h2, h3⟩ := hB
  refine (state_any base q ff ss ts rs w h1 (by rw [h2.lf]; omega) (by rw [h2.ls, h2.lf]) (by rw [h2.lt, h2.lf]) (by rw [h3, h2.lf])).mono ?_
  rintro e w' ⟨rfl, k1, k2⟩
  exact ⟨by rw [h2.lf], ⟨_, _, _, k1, is_new h2 hF hS, by simp [h3]⟩, k2⟩
theorem free_m1 (base q : Nat) (F : Nat → Nat → Prop) (S : Nat → Nat → Nat → Prop) (N : Nat) (rs : List Int) (i z : Nat) (a : Option Addr) (cap M : Nat) (w : World) (hB : Bm w base q F S N rs) (hN : N ≤ 10000) (hM : M ≤ 10000) (hi : i < N) (hFM : ∀ a b, F a b → b < M) (hz : ∀ j, F i j → j < z) (hW : Wd w a [(z : Int)]) :
    Calls Tryz.prog 124 #[.pointer (some ⟨q, 0, none⟩), .int .i64 i, .slice a 1 cap] w fun e w' => e = .returned (.tuple #[]) ∧ Bm w' base q (fun a b => F a b ∨ (a = i ∧ b = z)) S N rs ∧ Kb base w w' := by
  obtain ⟨ff, ss, ts, h1, h2, h3⟩ := hB
  obtain ⟨l, hl⟩ : ∃ l, ff[i]? = some l := ⟨_, List.getElem?_eq_getElem (by rw [h2.lf]; exact hi)⟩
  refine (free_any base q ff ss ts rs i l [(z : Int)] a 1 cap w h1 hl rfl (by omega) hW (by rw [h2.lf]; omega) (by have := is_len h2 hFM hl; omega)).mono ?_
  rintro e w' ⟨rfl, k1, k2⟩
  exact ⟨rfl, ⟨_, _, _, k1, is_free1 h2 hl hz, h3⟩, k2⟩
theorem free_m2 (base q : Nat) (F : Nat → Nat → Prop) (S : Nat → Nat → Nat → Prop) (N : Nat) (rs : List Int) (i z y : Nat) (a : Option Addr) (cap M : Nat) (w : World) (hB : Bm w base q F S N rs) (hN : N ≤ 10000) (hM : M ≤ 10000) (hi : i < N) (hFM : ∀ a b, F a b → b < M) (hz : ∀ j, F i j → j < z) (hy : z < y) (hW : Wd w a [(z : Int), (y : Int)]) :
    Calls Tryz.prog 124 #[.pointer (some ⟨q, 0, none⟩), .int .i64 i, .slice a 2 cap] w fun e w' => e = .returned (.tuple #[]) ∧ Bm w' base q (fun a b => (F a b ∨ (a = i ∧ b = z)) ∨ (a = i ∧ b = y)) S N rs ∧ Kb base w w' := by
  obtain ⟨ff, ss, ts, h1, h2, h3⟩ := hB
  obtain ⟨l, hl⟩ : ∃ l, ff[i]? = some l := ⟨_, List.getElem?_eq_getElem (by rw [h2.lf]; exact hi)⟩
  refine (free_any base q ff ss ts rs i l [(z : Int), (y : Int)] a 2 cap w h1 hl rfl (by omega) hW (by rw [h2.lf]; omega) (by have := is_len h2 hFM hl; omega)).mono ?_
  rintro e w' ⟨rfl, k1, k2⟩
  exact ⟨rfl, ⟨_, _, _, k1, is_free2 h2 hl hz hy, h3⟩, k2⟩

/-- A row of one number, of two, just made. -/
theorem wd_one (w : World) (x : Int) : Wd (w.alloc (.cells #[.int .i64 x] 3)) (some ⟨w.heap.size, 0, none⟩) [x] := fun i c hc => by
  match i with
  | 0 =>
    have e : x = c := by simpa using hc
    subst e
    exact ⟨_, _, rfl, by simp⟩
  | i + 1 => simp at hc
theorem wd_two (w : World) (x y : Int) : Wd (w.alloc (.cells #[.int .i64 x, .int .i64 y] 3)) (some ⟨w.heap.size, 0, none⟩) [x, y] := fun i c hc => by
  match i with
  | 0 =>
    have e : x = c := by simpa using hc
    subst e
    exact ⟨_, _, rfl, by simp⟩
  | 1 =>
    have e : y = c := by simpa using hc
    subst e
    exact ⟨_, _, rfl, by simp⟩
  | i + 2 => simp at hc

/-- Parts of an expression in a row: where each begins, where it ends. -/
def Pts (w : World) (a : Option Addr) (K : Nat) (pb pe : Nat → Nat) : Prop := ∀ m, m < K → ∃ g off cs, a = some ⟨g, off, none⟩ ∧ w.heap[g]? = some (.cells cs 180 (0, 0)) ∧ w.cell? ⟨g, off + m * 2, none⟩ = some (.int .i64 (pb m : Int)) ∧ w.cell? ⟨g, off + m * 2 + 1, none⟩ = some (.int .i64 (pe m : Int))
theorem far60 {w : World} {base g : Nat} {cs : Array Value} (h : w.heap[g]? = some (.cells cs 180 (0, 0))) : Far w base g := .inr ⟨cs, 180, _, h, by decide, by decide, by decide, by decide⟩
theorem far51 {w : World} {base g : Nat} {cs : Array Value} (h : w.heap[g]? = some (.cells cs 55 (0, 0))) : Far w base g := .inr ⟨cs, 55, _, h, by decide, by decide, by decide, by decide⟩
theorem pts_kb {w w' : World} {base : Nat} {a : Option Addr} {K : Nat} {pb pe : Nat → Nat} (hk : Kb base w w') (h : Pts w a K pb pe) : Pts w' a K pb pe := fun m hm => by
  obtain ⟨g, off, cs, e, hg, c1, c2⟩ := h m hm
  have hlt : g < w.heap.size := (Array.getElem?_eq_some_iff.1 hg).1
  have hb := hk.block g hlt (far60 hg)
  exact ⟨g, off, cs, e, hb.trans hg, (World.cell?_of_block (w := w) (a := ⟨g, off + m * 2, none⟩) hb).trans c1, (World.cell?_of_block (w := w) (a := ⟨g, off + m * 2 + 1, none⟩) hb).trans c2⟩
end Go.Proofs.YtbbfjjjnifomgaaGreatDoor.A


