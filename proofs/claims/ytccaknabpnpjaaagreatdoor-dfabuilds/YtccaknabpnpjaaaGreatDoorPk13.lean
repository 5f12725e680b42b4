/- The program's Match of a machine that may be. -/
import Derived.Test.YtccaknabpnpjaaaGreatDoorPk12
import Derived.Deep.AppendLies
import Derived.Deep.RegionLaw
import Derived.Deep.RegionHeld3
namespace Go.Proofs.YtccaknabpnpjaaaGreatDoor.A
open Go.RowKit

theorem zero_new (w : World) : Wd (w.alloc (.cells #[.int .i64 0] 3)) (some ⟨w.heap.size, 0, none⟩) [0] := fun i c hc => by
  match i with
  | 0 =>
    have e : (0 : Int) = c := by simpa using hc
    subst e
    exact ⟨_, _, rfl, by simp⟩
  | i + 1 => simp at hc
theorem run_zero {fs : List (List Int)} {ss : List Nat} {ts : List Int} {N : Nat} {word : List Int} {g : Nat → Bool} (h : IsCl fs N (tblB [0] 1) g) : IsRun fs ss ts N word 0 g :=
  isCl_congr (fun j _ => by
    rw [Bool.eq_iff_iff]
    simp [tblB]
    constructor
    · intro h; omega
    · intro h; omega) h
theorem run_next {fs : List (List Int)} {ss : List Nat} {ts : List Int} {N : Nat} {word : List Int} {k : Nat} {c : Int} {g g' : Nat → Bool} (hc : word[k]? = some c) (h : IsRun fs ss ts N word k g)
    (h' : IsCl fs N (tblB (lstL (stpB ss ts c (tblB (lstL g N) (lstL g N).length) N) N) (lstL (stpB ss ts c (tblB (lstL g N) (lstL g N).length) N) N).length) g') : IsRun fs ss ts N word (k + 1) g' := by
  refine ⟨g, h, isCl_congr (fun j hj => ?_) h'⟩
  rw [tbl_lst _ _ _ hj, show word.getD k 0 = c by rw [List.getD_eq_getElem?_getD, hc]; rfl]
  exact stp_congr (fun i hi => tbl_lst _ _ _ hi) j

end Go.Proofs.YtccaknabpnpjaaaGreatDoor.A

/- A machine that is being put together, in memory: four rows, and a row a state. -/
namespace Go.Proofs.YtccaknabpnpjaaaGreatDoor.A
open Go.RowKit

/-- Two values that own no block together. -/
def Ap (a b : Value) : Prop := ∀ k, a.ownBlock = some k → b.ownBlock = some k → False
theorem Ap.symm {a b : Value} (h : Ap a b) : Ap b a := fun k h1 h2 => h k h2 h1
theorem ap_nil (a : Value) : Ap a (.slice none 0 0) := fun k _ h => by simp [Value.ownBlock] at h
theorem own_types {w : World} {base base' : Nat} {e e' : TypeId} {s s' : Nat} {v v' : Value} {n n' : Nat} {xs xs' : List Value} (h : w.ownsRow base e s v n xs) (h' : w.ownsRow base' e' s' v' n' xs') (he : e ≠ e') : Ap v v' := by
  intro k hk hk'
  obtain ⟨_, ⟨rfl, _⟩ | ⟨g, cap, cur, rfl, _, hg, _⟩⟩ := h
  · simp [Value.ownBlock] at hk
  · obtain ⟨_, ⟨rfl, _⟩ | ⟨g', cap', cur', rfl, _, hg', _⟩⟩ := h'
    · simp [Value.ownBlock] at hk'
    · simp only [Value.ownBlock, Option.some.injEq] at hk hk'
      subst hk
      subst hk'
      rw [hg] at hg'
      cases hg'
      exact he rfl
theorem own_move {w w' : World} {base : Nat} {e : TypeId} {s : Nat} {v : Value} {n : Nat} {xs : List Value} (h : w.ownsRow base e s v n xs) (hk : ∀ k, v.ownBlock = some k → w'.heap[k]? = w.heap[k]?) : w'.ownsRow base e s v n xs := by
  obtain ⟨h1, h2 | ⟨g, cap, cur, rfl, hb, hg, r⟩⟩ := h
  · exact ⟨h1, .inl h2⟩
  · exact ⟨h1, .inr ⟨g, cap, cur, rfl, hb, by rw [hk g rfl]; exact hg, r⟩⟩
theorem own_type {w : World} {base : Nat} {e : TypeId} {s : Nat} {v : Value} {n : Nat} {xs : List Value} (h : w.ownsRow base e s v n xs) {k : Nat} (hk : v.ownBlock = some k) : base ≤ k ∧ k < w.heap.size ∧ ∃ cs, w.heap[k]? = some (.cells cs e (0, 0)) := by
  obtain ⟨_, ⟨rfl, _⟩ | ⟨g, cap, cur, rfl, hb, hg, _⟩⟩ := h
  · simp [Value.ownBlock] at hk
  · simp only [Value.ownBlock, Option.some.injEq] at hk
    subst hk
    exact ⟨hb, (Array.getElem?_eq_some_iff.1 hg).1, _, hg⟩
/-- A row of another type than the block's. -/
theorem own_not {w : World} {base q : Nat} {e t : TypeId} {s : Nat} {v : Value} {n : Nat} {xs : List Value} {cs : Array Value} {fr : Nat × Nat} (h : w.ownsRow base e s v n xs) (hq : w.heap[q]? = some (.cells cs t fr)) (he : e ≠ t) : v.ownBlock ≠ some q := fun hk => by
  obtain ⟨_, _, cs', h'⟩ := own_type h hk
  rw [hq] at h'
  cases h'
  exact he rfl

/-- A builder: its block, its rows. -/
structure Bv (w : World) (base q : Nat) (v0 v1 v2 v3 : Value) (vf : List Value) (ff : List (List Int)) (ss : List Nat) (ts rs : List Int) : Prop where
  blk : w.heap[q]? = some (.cells #[v0, v1, v2, v3] 86 (0, 0))
  low : base ≤ q
  o0 : w.ownsRow base 26 1 v0 vf.length vf
  o1 : w.ownsRow base 36 1 v1 ss.length (ss.map fun (s : Nat) => Value.int .u16 (s : Int))
  o2 : w.ownsRow base 3 1 v2 ts.length (ts.map (Value.int .i64))
  o3 : w.ownsRow base 3 1 v3 rs.length (rs.map (Value.int .i64))
  len : vf.length = ff.length
  rows : ∀ (i : Nat) (v : Value) (l : List Int), vf[i]? = some v → ff[i]? = some l → w.ownsRow base 3 1 v l.length (l.map (Value.int .i64))
  ap : (v2 :: v3 :: vf).Pairwise Ap
def Bq (w : World) (base q : Nat) (ff : List (List Int)) (ss : List Nat) (ts rs : List Int) : Prop := ∃ v0 v1 v2 v3 vf, Bv w base q v0 v1 v2 v3 vf ff ss ts rs

/-- A block that a builder never writes. -/
def Far (w : World) (base k : Nat) : Prop := k < base ∨ ∃ cs t fr, w.heap[k]? = some (.cells cs t fr) ∧ t ≠ 86 ∧ t ≠ 26 ∧ t ≠ 36 ∧ t ≠ 3
def Near (w : World) (base k : Nat) : Prop := base ≤ k ∧ ∃ cs t fr, w.heap[k]? = some (.cells cs t fr) ∧ (t = 86 ∨ t = 26 ∨ t = 36 ∨ t = 3)
theorem far_near {w : World} {base k : Nat} (h : Far w base k) (h' : Near w base k) : False := by
  obtain ⟨hb, cs, t, fr, e, ht⟩ := h'
  rcases h with h | ⟨cs', t', fr', e', h⟩
  · omega
  · rw [e] at e'
    cases e'
    rcases ht with rfl | rfl | rfl | rfl
    · exact h.1 rfl
    · exact h.2.1 rfl
    · exact h.2.2.1 rfl
    · exact h.2.2.2 rfl
theorem own_near {w : World} {base : Nat} {e : TypeId} {s : Nat} {v : Value} {n : Nat} {xs : List Value} (h : w.ownsRow base e s v n xs) (he : e = 86 ∨ e = 26 ∨ e = 36 ∨ e = 3) (k : Nat) (hk : v.ownBlock = some k) : Near w base k := by
  obtain ⟨h1, _, cs, h2⟩ := own_type h hk
  exact ⟨h1, cs, e, _, h2, he⟩
structure Kb (base : Nat) (w w' : World) : Prop where
  os : w'.os = w.os
  tape : w'.tape = w.tape
  output : w'.output = w.output
  size : w.heap.size ≤ w'.heap.size
  block : ∀ k, k < w.heap.size → Far w base k → w'.heap[k]? = w.heap[k]?
theorem Kb.refl (base : Nat) (w : World) : Kb base w w := ⟨rfl, rfl, rfl, Nat.le_refl _, fun _ _ _ => rfl⟩
theorem Kb.far {base : Nat} {w w' : World} (h : Kb base w w') {k : Nat} (hk : k < w.heap.size) (hf : Far w base k) : Far w' base k := by
  rcases hf with hf | ⟨cs, t, fr, e, ht⟩
  · exact .inl hf
  · exact .inr ⟨cs, t, fr, (h.block k hk (.inr ⟨cs, t, fr, e, ht⟩)).trans e, ht⟩
theorem Kb.trans {base : Nat} {a b c : World} (h : Kb base a b) (k : Kb base b c) : Kb base a c :=
  ⟨k.os.trans h.os, k.tape.trans h.tape, k.output.trans h.output, Nat.le_trans h.size k.size, fun i hi hf => (k.block i (Nat.lt_of_lt_of_le hi h.size) (h.far hi hf)).trans (h.block i hi hf)⟩
theorem Kb.of_below {base : Nat} {w w' : World} (h : Below w.heap.size w w') : Kb base w w' := ⟨h.os, h.tape, h.output, h.size, fun k hk _ => h.block k hk⟩
theorem Kb.drew {base : Nat} {w w' : World} (h : Kb base w w') : Kb base w w'.drew := ⟨h.os, h.tape, h.output, h.size, h.block⟩
theorem Kb.below {base : Nat} {w w' : World} (h : Kb base w w') (hb : base ≤ w.heap.size) : Below base w w' := ⟨h.os, h.tape, h.output, h.size, fun k hk => h.block k (by omega) (.inl hk)⟩
theorem Kb.cell {base : Nat} {w w' : World} (h : Kb base w w') {p : Addr} (hp : p.block < w.heap.size) (hf : Far w base p.block) : w'.cell? p = w.cell? p := World.cell?_of_block (w := w) (h.block p.block hp hf)
theorem bv_below {w w' : World} {base q : Nat} {v0 v1 v2 v3 : Value} {vf : List Value} {ff : List (List Int)} {ss : List Nat} {ts rs : List Int} (hb : Below w.heap.size w w') (h : Bv w base q v0 v1 v2 v3 vf ff ss ts rs) : Bv w' base q v0 v1 v2 v3 vf ff ss ts rs := by
  have mv : ∀ {e : TypeId} {v : Value} {n : Nat} {xs : List Value}, w.ownsRow base e 1 v n xs → w'.ownsRow base e 1 v n xs := fun h => own_move h (fun k hk => hb.block k (own_type h hk).2.1)
  have hq : q < w.heap.size := (Array.getElem?_eq_some_iff.1 h.blk).1
  exact ⟨(hb.block q hq).trans h.blk, h.low, mv h.o0, mv h.o1, mv h.o2, mv h.o3, h.len, fun i v l a b => mv (h.rows i v l a b), h.ap⟩
theorem bq_below {w w' : World} {base q : Nat} {ff : List (List Int)} {ss : List Nat} {ts rs : List Int} (hb : Below w.heap.size w w') (h : Bq w base q ff ss ts rs) : Bq w' base q ff ss ts rs := by
  obtain ⟨v0, v1, v2, v3, vf, h⟩ := h
  exact ⟨v0, v1, v2, v3, vf, bv_below hb h⟩

/-- Behind an append, with what is appended in a block of its own: what is not of the row stays. -/
theorem kept1 {w w1 : World} {o : Obj} {r : Option Nat} {base : Nat} {e : TypeId} {s : Nat} {v : Value} {n : Nat} {xs : List Value} (h : w.ownsRow base e s v n xs) (hg : (w.alloc o).grownBy w1 r) (hap : ∀ k, v.ownBlock = some k → r ≠ some k) : w1.ownsRow base e s v n xs :=
  own_move h (fun k hk => by
    have hlt := (own_type h hk).2.1
    rw [hg.block k (by simp; omega) (fun e => hap k hk e.symm), Below.heap_alloc _ _ _ hlt])
theorem blk_set {w : World} {q : Nat} {cs : Array Value} {t : TypeId} {fr : Nat × Nat} (h : w.heap[q]? = some (.cells cs t fr)) (i : Nat) (u : Value) : (w.setCell ⟨q, i, none⟩ u).heap[q]? = some (.cells (cs.setIfInBounds i u) t fr) := by
  simp [World.setCell, Array.getElem?_modify, h]
theorem set_far {w : World} {q i : Nat} {u : Value} {base : Nat} {e : TypeId} {s : Nat} {v : Value} {n : Nat} {xs : List Value} (h : w.ownsRow base e s v n xs) (hk : v.ownBlock ≠ some q) : (w.setCell ⟨q, i, none⟩ u).ownsRow base e s v n xs :=
  own_move h (fun k hk' => Below.heap_setCell _ _ _ _ (fun e => hk (by rw [hk', show k = q from e])))
theorem ap_new {w : World} {base : Nat} {e : TypeId} {s : Nat} {u v : Value} {n m cap g H : Nat} {xs : List Value} (hat : v.ownBlock = some g ∨ g = H) (hH : w.heap.size ≤ H) (h : w.ownsRow base e s u n xs) (hap : Ap v u) : Ap (.slice (some ⟨g, 0, none⟩) m cap) u := fun k hk hk' => by
  simp only [Value.ownBlock, Option.some.injEq] at hk
  subst hk
  rcases hat with hat | hat
  · exact hap g hat hk'
  · have := (own_type h hk').2.1
    omega
/-- An append to one of the four rows, and its store. -/
theorem kb_app {w w1 : World} {o : Obj} {base q i : Nat} {u v : Value} {cs : Array Value} {fr : Nat × Nat} (hq : w.heap[q]? = some (.cells cs 86 fr)) (hlow : base ≤ q) (hg : (w.alloc o).grownBy w1 v.ownBlock) (hn : ∀ k, v.ownBlock = some k → Near w base k) : Kb base w (w1.setCell ⟨q, i, none⟩ u) := by
  have hs := hg.size
  refine ⟨hg.os, hg.tape, hg.output, by simp at hs ⊢; omega, fun k hk hf => ?_⟩
  have h1 : k ≠ q := fun e => by subst e; exact far_near hf ⟨hlow, cs, 86, fr, hq, .inl rfl⟩
  have h2 : some k ≠ v.ownBlock := fun e => far_near hf (hn k e.symm)
  rw [Below.heap_setCell _ _ _ _ h1, hg.block k (by simp; omega) h2, Below.heap_alloc _ _ _ hk]
theorem q_kept {w w1 : World} {o : Obj} {base q : Nat} {v0 v1 v2 v3 : Value} {vf : List Value} {ff : List (List Int)} {ss : List Nat} {ts rs : List Int} (h : Bv w base q v0 v1 v2 v3 vf ff ss ts rs) {r : Option Nat} (hg : (w.alloc o).grownBy w1 r) (hr : r ≠ some q) : w1.heap[q]? = some (.cells #[v0, v1, v2, v3] 86 (0, 0)) := by
  have hq : q < w.heap.size := (Array.getElem?_eq_some_iff.1 h.blk).1
  rw [hg.block q (by simp; omega) (fun e => hr e.symm), Below.heap_alloc _ _ _ hq]
  exact h.blk
section
variable {w w1 : World} {o : Obj} {base q : Nat} {v0 v1 v2 v3 : Value} {vf : List Value} {ff : List (List Int)} {ss : List Nat} {ts rs : List Int} {g cap : Nat}
theorem bv_app0 (h : Bv w base q v0 v1 v2 v3 vf ff ss ts rs) (ho : w1.ownsRow base 26 1 (.slice (some ⟨g, 0, none⟩) (vf.length + 1) cap) (vf.length + 1) (vf ++ [.slice none 0 0])) (hg : (w.alloc o).grownBy w1 v0.ownBlock) :
    Bv (w1.setCell ⟨q, 0, none⟩ (.slice (some ⟨g, 0, none⟩) (vf.length + 1) cap)) base q (.slice (some ⟨g, 0, none⟩) (vf.length + 1) cap) v1 v2 v3 (vf ++ [.slice none 0 0]) (ff ++ [[]]) ss ts rs ∧ Kb base w (w1.setCell ⟨q, 0, none⟩ (.slice (some ⟨g, 0, none⟩) (vf.length + 1) cap)) := by
  have hq1 := q_kept h hg (own_not h.o0 h.blk (by decide))
  have mv : ∀ {e : TypeId} {v : Value} {n : Nat} {xs : List Value}, w.ownsRow base e 1 v n xs → e ≠ 26 → e ≠ 86 → (w1.setCell ⟨q, 0, none⟩ (.slice (some ⟨g, 0, none⟩) (vf.length + 1) cap)).ownsRow base e 1 v n xs := fun hv h1 h2 => set_far (kept1 hv hg (fun k hk e => own_types hv h.o0 h1 k hk e)) (own_not (kept1 hv hg (fun k hk e => own_types hv h.o0 h1 k hk e)) hq1 h2)
  refine ⟨⟨blk_set hq1 0 _, h.low, ?_, mv h.o1 (by decide) (by decide), mv h.o2 (by decide) (by decide), mv h.o3 (by decide) (by decide), by simp [h.len], fun i v l hv hl => ?_, ?_⟩, kb_app h.blk h.low hg (own_near h.o0 (by simp))⟩
  · rw [List.length_append]; exact set_far ho (own_not ho hq1 (by decide))
  · by_cases e : i < vf.length
    · rw [List.getElem?_append_left e] at hv
      rw [List.getElem?_append_left (by rw [← h.len]; exact e)] at hl
      exact mv (h.rows i v l hv hl) (by decide) (by decide)
    · rw [List.getElem?_append_right (by omega)] at hv
      rw [List.getElem?_append_right (by rw [← h.len]; omega)] at hl
      have e1 : i - vf.length = 0 := by have := (List.getElem?_eq_some_iff.1 hv).1; simp at this; omega
      rw [e1] at hv
      rw [← h.len, e1] at hl
      have hv' : Value.slice none 0 0 = v := by simpa using hv
      have hl' : ([] : List Int) = l := by simpa using hl
      subst hv'
      subst hl'
      exact World.ownsRow_nil _ _ _ _
  · rw [← List.cons_append, ← List.cons_append, List.pairwise_append]
    exact ⟨h.ap, by simp, fun a _ b hb => by rw [List.mem_singleton] at hb; subst hb; exact ap_nil a⟩
theorem bv_app1 (h : Bv w base q v0 v1 v2 v3 vf ff ss ts rs) (x : Nat) (ho : w1.ownsRow base 36 1 (.slice (some ⟨g, 0, none⟩) (ss.length + 1) cap) (ss.length + 1) ((ss.map fun (s : Nat) => Value.int .u16 (s : Int)) ++ [.int .u16 (x : Int)])) (hg : (w.alloc o).grownBy w1 v1.ownBlock) :
    Bv (w1.setCell ⟨q, 1, none⟩ (.slice (some ⟨g, 0, none⟩) (ss.length + 1) cap)) base q v0 (.slice (some ⟨g, 0, none⟩) (ss.length + 1) cap) v2 v3 vf ff (ss ++ [x]) ts rs ∧ Kb base w (w1.setCell ⟨q, 1, none⟩ (.slice (some ⟨g, 0, none⟩) (ss.length + 1) cap)) := by
  have hq1 := q_kept h hg (own_not h.o1 h.blk (by decide))
  have mv : ∀ {e : TypeId} {v : Value} {n : Nat} {xs : List Value}, w.ownsRow base e 1 v n xs → e ≠ 36 → e ≠ 86 → (w1.setCell ⟨q, 1, none⟩ (.slice (some ⟨g, 0, none⟩) (ss.length + 1) cap)).ownsRow base e 1 v n xs := fun hv h1 h2 => set_far (kept1 hv hg (fun k hk e => own_types hv h.o1 h1 k hk e)) (own_not (kept1 hv hg (fun k hk e => own_types hv h.o1 h1 k hk e)) hq1 h2)
  refine ⟨⟨blk_set hq1 1 _, h.low, mv h.o0 (by decide) (by decide), ?_, mv h.o2 (by decide) (by decide), mv h.o3 (by decide) (by decide), h.len, fun i v l hv hl => mv (h.rows i v l hv hl) (by decide) (by decide), h.ap⟩, kb_app h.blk h.low hg (own_near h.o1 (by simp))⟩
  rw [List.length_append, List.map_append]; exact set_far ho (own_not ho hq1 (by decide))
theorem bv_app2 (h : Bv w base q v0 v1 v2 v3 vf ff ss ts rs) (x : Int) (ho : w1.ownsRow base 3 1 (.slice (some ⟨g, 0, none⟩) (ts.length + 1) cap) (ts.length + 1) (ts.map (Value.int .i64) ++ [.int .i64 x])) (hg : (w.alloc o).grownBy w1 v2.ownBlock) (hat : v2.ownBlock = some g ∨ g = w.heap.size + 1) :
    Bv (w1.setCell ⟨q, 2, none⟩ (.slice (some ⟨g, 0, none⟩) (ts.length + 1) cap)) base q v0 v1 (.slice (some ⟨g, 0, none⟩) (ts.length + 1) cap) v3 vf ff ss (ts ++ [x]) rs ∧ Kb base w (w1.setCell ⟨q, 2, none⟩ (.slice (some ⟨g, 0, none⟩) (ts.length + 1) cap)) := by
  have hq1 := q_kept h hg (own_not h.o2 h.blk (by decide))
  obtain ⟨a2, a3⟩ := List.pairwise_cons.1 h.ap
  have mv : ∀ {e : TypeId} {v : Value} {n : Nat} {xs : List Value}, w.ownsRow base e 1 v n xs → Ap v2 v → e ≠ 86 → (w1.setCell ⟨q, 2, none⟩ (.slice (some ⟨g, 0, none⟩) (ts.length + 1) cap)).ownsRow base e 1 v n xs := fun hv h1 h2 => set_far (kept1 hv hg (fun k hk e => h1 k e hk)) (own_not (kept1 hv hg (fun k hk e => h1 k e hk)) hq1 h2)
  refine ⟨⟨blk_set hq1 2 _, h.low, mv h.o0 (own_types h.o2 h.o0 (by decide)) (by decide), mv h.o1 (own_types h.o2 h.o1 (by decide)) (by decide), ?_, mv h.o3 (a2 v3 (by simp)) (by decide), h.len, fun i v l hv hl => mv (h.rows i v l hv hl) (a2 v (by simp [List.mem_of_getElem? hv])) (by decide), ?_⟩, kb_app h.blk h.low hg (own_near h.o2 (by simp))⟩
  · rw [List.length_append, List.map_append]; exact set_far ho (own_not ho hq1 (by decide))
  · rw [List.pairwise_cons]
    refine ⟨fun b hb => ?_, a3⟩
    rcases List.mem_cons.1 hb with rfl | hb'
    · exact ap_new hat (by omega) h.o3 (a2 _ hb)
    · obtain ⟨i, hi, e⟩ := List.getElem_of_mem hb'
      exact ap_new hat (by omega) (h.rows i b _ (by rw [List.getElem?_eq_getElem hi, e]) (List.getElem?_eq_getElem (by rw [← h.len]; exact hi))) (a2 _ hb)
theorem bv_app3 (h : Bv w base q v0 v1 v2 v3 vf ff ss ts rs) (x : Int) (ho : w1.ownsRow base 3 1 (.slice (some ⟨g, 0, none⟩) (rs.length + 1) cap) (rs.length + 1) (rs.map (Value.int .i64) ++ [.int .i64 x])) (hg : (w.alloc o).grownBy w1 v3.ownBlock) (hat : v3.ownBlock = some g ∨ g = w.heap.size + 1) :
    Bv (w1.setCell ⟨q, 3, none⟩ (.slice (some ⟨g, 0, none⟩) (rs.length + 1) cap)) base q v0 v1 v2 (.slice (some ⟨g, 0, none⟩) (rs.length + 1) cap) vf ff ss ts (rs ++ [x]) ∧ Kb base w (w1.setCell ⟨q, 3, none⟩ (.slice (some ⟨g, 0, none⟩) (rs.length + 1) cap)) := by
  have hq1 := q_kept h hg (own_not h.o3 h.blk (by decide))
  obtain ⟨a2, a3⟩ := List.pairwise_cons.1 h.ap
  obtain ⟨a4, a5⟩ := List.pairwise_cons.1 a3
  have mv : ∀ {e : TypeId} {v : Value} {n : Nat} {xs : List Value}, w.ownsRow base e 1 v n xs → Ap v3 v → e ≠ 86 → (w1.setCell ⟨q, 3, none⟩ (.slice (some ⟨g, 0, none⟩) (rs.length + 1) cap)).ownsRow base e 1 v n xs := fun hv h1 h2 => set_far (kept1 hv hg (fun k hk e => h1 k e hk)) (own_not (kept1 hv hg (fun k hk e => h1 k e hk)) hq1 h2)
  refine ⟨⟨blk_set hq1 3 _, h.low, mv h.o0 (own_types h.o3 h.o0 (by decide)) (by decide), mv h.o1 (own_types h.o3 h.o1 (by decide)) (by decide), mv h.o2 (a2 v3 (by simp)).symm (by decide), ?_, h.len, fun i v l hv hl => mv (h.rows i v l hv hl) (a4 v (List.mem_of_getElem? hv)) (by decide), ?_⟩, kb_app h.blk h.low hg (own_near h.o3 (by simp))⟩
  · rw [List.length_append, List.map_append]; exact set_far ho (own_not ho hq1 (by decide))
  · rw [List.pairwise_cons, List.pairwise_cons]
    refine ⟨fun b hb => ?_, fun b hb => ?_, a5⟩
    · rcases List.mem_cons.1 hb with rfl | hb'
      · exact (ap_new hat (by omega) h.o2 (a2 v3 (by simp)).symm).symm
      · exact a2 b (by simp [hb'])
    · obtain ⟨i, hi, e⟩ := List.getElem_of_mem hb
      exact ap_new hat (by omega) (h.rows i b _ (by rw [List.getElem?_eq_getElem hi, e]) (List.getElem?_eq_getElem (by rw [← h.len]; exact hi))) (a4 _ hb)
end

end Go.Proofs.YtccaknabpnpjaaaGreatDoor.A

/- The program's builder: a new state. -/
namespace Go.Proofs.YtccaknabpnpjaaaGreatDoor.A
open Go.RowKit

theorem info26 : (Tryz.prog.info? 26).map (fun i => (i.zero, i.size, i.bytes)) = some (some (.slice none 0 0), 1, 24) := by kernel_rfl
theorem info36 : (Tryz.prog.info? 36).map (fun i => (i.zero, i.size, i.bytes)) = some (some (.int .u16 0), 1, 2) := by kernel_rfl
theorem q_cells {w : World} {q : Nat} {v0 v1 v2 v3 : Value} (h : w.heap[q]? = some (.cells #[v0, v1, v2, v3] 86 (0, 0))) : (w.cell? ⟨q, 0, none⟩ = some v0 ∧ w.cell? ⟨q, 1, none⟩ = some v1 ∧ w.cell? ⟨q, 2, none⟩ = some v2 ∧ w.cell? ⟨q, 3, none⟩ = some v3) ∧ (∀ i, w.frozen? ⟨q, i, none⟩ = false) := by
  refine ⟨⟨?_, ?_, ?_, ?_⟩, fun i => ?_⟩
  · rw [cell_of_row _ _ _ _ _ _ h]; rfl
  · rw [cell_of_row _ _ _ _ _ _ h]; rfl
  · rw [cell_of_row _ _ _ _ _ _ h]; rfl
  · rw [cell_of_row _ _ _ _ _ _ h]; rfl
  · simp [World.frozen?, h]

theorem one_at {w : World} {H : Nat} (hH : w.heap.size = H) (v : Value) (t : TypeId) : ∀ j u, [v][j]? = some u → (w.alloc (.cells #[v] t)).cell? ((⟨H, 0, none⟩ : Addr).add j) = some u := by subst hH; exact one_new w v t

set_option maxRecDepth 100000 in
set_option maxHeartbeats 3200000 in
theorem state_any (base q : Nat) (ff : List (List Int)) (ss : List Nat) (ts rs : List Int) (w : World) (hB : Bq w base q ff ss ts rs) (hN : ff.length ≤ 10000) (ls : ss.length = ff.length) (lt : ts.length = ff.length) (lr : rs.length = ff.length) :
    Calls Tryz.prog 41 #[.pointer (some ⟨q, 0, none⟩)] w fun e w' => e = .returned (.int .i64 ff.length) ∧ Bq w' base q (ff ++ [[]]) (ss ++ [0]) (ts ++ [0]) (rs ++ [-1]) ∧ Kb base w w' := by
  obtain ⟨i27, hi27, hz27, hs27, hb27⟩ := info_parts info26
  obtain ⟨i36, hi36, hz36, hs36, hb36⟩ := info_parts info36
  obtain ⟨i3, hi3, hz3, hs3, hb3⟩ := info_parts info3
  obtain ⟨v0, v1, v2, v3, vf, h⟩ := hB
  have HV := hide h
  have HLV := hide h.len
  obtain ⟨⟨c0, c1, c2, c3⟩, fz⟩ := q_cells h.blk
  have HBS := hide (show base ≤ w.heap.size by have := h.low; have := (Array.getElem?_eq_some_iff.1 h.blk).1; omega)
  clear h
  have HLL := hide (show vf.length ≤ 10000 ∧ ss.length ≤ 10000 ∧ ts.length ≤ 10000 ∧ rs.length ≤ 10000 by have := HLV.out; omega)
  have HLS := hide ls
  have HLT := hide lt
  have HLR := hide lr
  clear ls lt lr hN
  go_enter Tryz.func41, Tryz.ntmps41
  go_wp2_with (at_builtin; refine wpList_append_lies _ rfl _ _ 52 rfl base 26 i27 (.slice none 0 0) 1 24 Tryz.underlying52 hi27 hz27 hs27 hb27 rfl (by decide) _ _ _ rfl (HV.out.o0.alloc _) ⟨_, 0, none⟩ 1 1 [.slice none 0 0] rfl rfl (one_new _ _ _) (fun u hu => by simp only [List.mem_singleton] at hu; subst hu; rfl) (by decide) (by have := HLL.out; unfold maxLen; omega) (by have := HLL.out; omega) (by have := HBS.out; simp; omega) _ rfl ?_)
  intro g cap w1 hown hgrow hat hlt
  have hq1 := q_kept HV.out hgrow (own_not HV.out.o0 HV.out.blk (by decide))
  have hA := bv_app0 HV.out hown hgrow
  have HA := hide hA.1
  have HK := hide hA.2
  have HBA := hide (show base ≤ w1.heap.size by have := Nat.le_trans HBS.out HK.out.size; simpa using this)
  obtain ⟨⟨d0, d1, d2, d3⟩, fz1⟩ := q_cells hq1
  have f1 := fz1 0
  clear c0 c1 c2 c3 fz fz1 hown hgrow hat hlt hq1 hA
  go_wp2_with (at_builtin; refine wpList_append_lies _ rfl _ _ 53 rfl base 36 i36 (.int .u16 0) 1 2 Tryz.underlying53 hi36 hz36 hs36 hb36 rfl (by decide) _ _ _ rfl (HA.out.o1.alloc _) ⟨_, 0, none⟩ 1 1 [.int .u16 0] rfl rfl (one_at (by simp) _ _) (fun u hu => by simp only [List.mem_singleton] at hu; subst hu; rfl) (by decide) (by have := HLL.out; unfold maxLen; omega) (by have := HLL.out; omega) (by have := HBA.out; simp; omega) _ rfl ?_)
  intro g2 cap2 w2 hown hgrow hat hlt
  have hq2 := q_kept HA.out hgrow (own_not HA.out.o1 HA.out.blk (by decide))
  have hA2 := bv_app1 HA.out 0 hown hgrow
  have HA2 := hide hA2.1
  have HK2 := hide (HK.out.trans hA2.2)
  have HBA2 := hide (show base ≤ w2.heap.size by have := Nat.le_trans HBS.out HK2.out.size; simpa using this)
  obtain ⟨⟨d0, d1, d2, d3⟩, fz1⟩ := q_cells hq2
  have f1 := fz1 1
  clear fz1 hown hgrow hat hlt hq2 hA2
  go_wp2_with (at_builtin; refine wpList_append_lies _ rfl _ _ 26 rfl base 3 i3 (.int .i64 0) 1 8 Tryz.underlying26 hi3 hz3 hs3 hb3 rfl (by decide) _ _ _ rfl (HA2.out.o2.alloc _) ⟨_, 0, none⟩ 1 1 [.int .i64 0] rfl rfl (one_at (by simp) _ _) (fun u hu => by simp only [List.mem_singleton] at hu; subst hu; rfl) (by decide) (by have := HLL.out; unfold maxLen; omega) (by have := HLL.out; omega) (by have := HBA2.out; simp; omega) _ rfl ?_)
  intro g3 cap3 w3 hown hgrow hat hlt
  have hq3 := q_kept HA2.out hgrow (own_not HA2.out.o2 HA2.out.blk (by decide))
  have hA3 := bv_app2 HA2.out 0 hown hgrow (by simpa using hat)
  have HA3 := hide hA3.1
  have HK3 := hide (HK2.out.trans hA3.2)
  have HBA3 := hide (show base ≤ w3.heap.size by have := Nat.le_trans HBS.out HK3.out.size; simpa using this)
  obtain ⟨⟨d0, d1, d2, d3⟩, fz1⟩ := q_cells hq3
  have f1 := fz1 2
  clear fz1 hown hgrow hat hlt hq3 hA3
  go_wp2_with (at_builtin; refine wpList_append_lies _ rfl _ _ 26 rfl base 3 i3 (.int .i64 0) 1 8 Tryz.underlying26 hi3 hz3 hs3 hb3 rfl (by decide) _ _ _ rfl (HA3.out.o3.alloc _) ⟨_, 0, none⟩ 1 1 [.int .i64 (-1)] rfl rfl (one_at (by simp) _ _) (fun u hu => by simp only [List.mem_singleton] at hu; subst hu; rfl) (by decide) (by have := HLL.out; unfold maxLen; omega) (by have := HLL.out; omega) (by have := HBA3.out; simp; omega) _ rfl ?_)
  intro g4 cap4 w4 hown hgrow hat hlt
  have hq4 := q_kept HA3.out hgrow (own_not HA3.out.o3 HA3.out.blk (by decide))
  have hA4 := bv_app3 HA3.out (-1) hown hgrow (by simpa using hat)
  have HA4 := hide hA4.1
  have HK4 := hide (HK3.out.trans hA4.2)
  obtain ⟨⟨d0, d1, d2, d3⟩, fz1⟩ := q_cells hq4
  have f1 := fz1 3
  clear fz1 hown hgrow hat hlt hq4 hA4
  go_wp2
  go_ret
  refine ⟨?_, ⟨_, _, _, _, _, HA4.out⟩, HK4.out⟩
  rw [← HLV.out]
  simp
  have hl := HLL.out.1
  unfold wrap64
  omega

end Go.Proofs.YtccaknabpnpjaaaGreatDoor.A

/- The program's builder: free steps are added. -/
namespace Go.Proofs.YtccaknabpnpjaaaGreatDoor.A
open Go.RowKit

theorem ap_set {x : Value} : ∀ {l : List Value} {i : Nat}, l.Pairwise Ap → (∀ j a, j ≠ i → l[j]? = some a → Ap x a) → (l.set i x).Pairwise Ap
  | [], _, _, _ => by simp
  | b :: r, 0, h, hx => by
    rw [List.pairwise_cons] at h
    rw [List.set_cons_zero, List.pairwise_cons]
    refine ⟨fun a ha => ?_, h.2⟩
    obtain ⟨k, hk, e⟩ := List.getElem_of_mem ha
    exact hx (k + 1) a (by omega) (by rw [List.getElem?_cons_succ, List.getElem?_eq_getElem hk, e])
  | b :: r, i + 1, h, hx => by
    rw [List.pairwise_cons] at h
    rw [List.set_cons_succ, List.pairwise_cons]
    refine ⟨fun a ha => ?_, ap_set h.2 (fun j a hj ha => hx (j + 1) a (by omega) (by rw [List.getElem?_cons_succ]; exact ha))⟩
    rcases List.mem_or_eq_of_mem_set ha with ha | rfl
    · exact h.1 a ha
    · exact (hx 0 b (by omega) rfl).symm
theorem ap_at {l : List Value} (h : l.Pairwise Ap) {i j : Nat} {a b : Value} (hij : i ≠ j) (ha : l[i]? = some a) (hb : l[j]? = some b) : Ap a b := by
  rw [List.pairwise_iff_getElem] at h
  obtain ⟨hi, rfl⟩ := List.getElem?_eq_some_iff.1 ha
  obtain ⟨hj, rfl⟩ := List.getElem?_eq_some_iff.1 hb
  rcases Nat.lt_or_gt_of_ne hij with q | q
  · exact h i j hi hj q
  · exact (h j i hj hi q).symm
theorem kept2 {w w1 : World} {r : Option Nat} {base : Nat} {e : TypeId} {s : Nat} {v : Value} {n : Nat} {xs : List Value} (h : w.ownsRow base e s v n xs) (hg : w.grownBy w1 r) (hap : ∀ k, v.ownBlock = some k → r ≠ some k) : w1.ownsRow base e s v n xs :=
  own_move h (fun k hk => hg.block k (own_type h hk).2.1 (fun e => hap k hk e.symm))

section
variable {w w1 : World} {base q : Nat} {v1 v2 v3 u : Value} {vf : List Value} {ff : List (List Int)} {ss : List Nat} {ts rs l zs : List Int} {g g0 c0 cap i : Nat}
theorem bv_free (h : Bv w base q (.slice (some ⟨g0, 0, none⟩) vf.length c0) v1 v2 v3 vf ff ss ts rs) (hu : vf[i]? = some u) (hl : ff[i]? = some l)
    (ho : w1.ownsRow base 3 1 (.slice (some ⟨g, 0, none⟩) (l.length + zs.length) cap) (l.length + zs.length) (l.map (Value.int .i64) ++ zs.map (Value.int .i64))) (hg : w.grownBy w1 u.ownBlock) (hat : u.ownBlock = some g ∨ g = w.heap.size) :
    Bv (w1.setCell ⟨g0, i, none⟩ (.slice (some ⟨g, 0, none⟩) (l.length + zs.length) cap)) base q (.slice (some ⟨g0, 0, none⟩) (vf.set i (.slice (some ⟨g, 0, none⟩) (l.length + zs.length) cap)).length c0) v1 v2 v3 (vf.set i (.slice (some ⟨g, 0, none⟩) (l.length + zs.length) cap)) (ff.set i (l ++ zs)) ss ts rs ∧ Kb base w (w1.setCell ⟨g0, i, none⟩ (.slice (some ⟨g, 0, none⟩) (l.length + zs.length) cap)) := by
  have hur := h.rows i u l hu hl
  have o0' : w1.ownsRow base 26 1 (.slice (some ⟨g0, 0, none⟩) vf.length c0) vf.length vf := kept2 h.o0 hg (fun k hk e => own_types h.o0 hur (by decide) k hk e)
  obtain ⟨cs0, hg0⟩ := (own_type o0' (k := g0) rfl).2.2
  have hq : q < w.heap.size := (Array.getElem?_eq_some_iff.1 h.blk).1
  have hq1 : w1.heap[q]? = _ := (hg.block q hq (fun e => own_not hur h.blk (by decide) e.symm)).trans h.blk
  have hqg : q ≠ g0 := fun e => by subst e; rw [hg0] at hq1; cases hq1
  have mv : ∀ {e : TypeId} {v : Value} {n : Nat} {xs : List Value}, w.ownsRow base e 1 v n xs → Ap u v → e ≠ 26 → (w1.setCell ⟨g0, i, none⟩ (.slice (some ⟨g, 0, none⟩) (l.length + zs.length) cap)).ownsRow base e 1 v n xs := fun hv h1 h2 => set_far (kept2 hv hg (fun k hk e => h1 k e hk)) (own_not (kept2 hv hg (fun k hk e => h1 k e hk)) hg0 h2)
  have hui : (v2 :: v3 :: vf)[i + 2]? = some u := hu
  refine ⟨⟨?_, h.low, ?_, mv h.o1 (own_types hur h.o1 (by decide)) (by decide), mv h.o2 (ap_at h.ap (i := i + 2) (j := 0) (by omega) hui rfl) (by decide), mv h.o3 (ap_at h.ap (i := i + 2) (j := 1) (by omega) hui rfl) (by decide), by simp [h.len], fun j v k hv hk => ?_, ?_⟩, ?_⟩
  · rw [Below.heap_setCell _ _ _ _ hqg, List.length_set]; exact hq1
  · rw [List.length_set]; exact (o0'.stored i _).1
  · by_cases e : j = i
    · subst e
      rw [List.getElem?_set_self (List.getElem?_eq_some_iff.1 hu).1] at hv
      rw [List.getElem?_set_self (List.getElem?_eq_some_iff.1 hl).1] at hk
      cases hv
      cases hk
      rw [List.length_append, List.map_append]
      exact set_far ho (own_not ho hg0 (by decide))
    · rw [List.getElem?_set_ne (Ne.symm e)] at hv hk
      exact mv (h.rows j v k hv hk) (ap_at h.ap (i := i + 2) (j := j + 2) (by omega) hui hv) (by decide)
  · have := ap_set (x := .slice (some ⟨g, 0, none⟩) (l.length + zs.length) cap) (i := i + 2) h.ap (fun j a hj ha => by
      have hua := ap_at h.ap (i := i + 2) (j := j) (by omega) hui ha
      match j with
      | 0 => cases ha; exact ap_new hat (Nat.le_refl _) h.o2 hua
      | 1 => cases ha; exact ap_new hat (Nat.le_refl _) h.o3 hua
      | j + 2 =>
        have ha' : vf[j]? = some a := ha
        exact ap_new hat (Nat.le_refl _) (h.rows j a _ ha' (List.getElem?_eq_getElem (by rw [← h.len]; exact (List.getElem?_eq_some_iff.1 ha').1))) hua)
    exact this
  · refine ⟨hg.os, hg.tape, hg.output, by simpa using hg.size, fun k hk hf => ?_⟩
    have h1 : k ≠ g0 := fun e => far_near hf (own_near h.o0 (by simp) k (by rw [e]; rfl))
    rw [Below.heap_setCell _ _ _ _ h1, hg.block k hk (fun e => far_near hf (own_near hur (by simp) k e.symm))]
end

theorem wd_news {w : World} {ad : Addr} {zs : List Int} (h : Wd w (some ad) zs) : ∀ j u, (zs.map (Value.int .i64))[j]? = some u → w.cell? (ad.add j) = some u := fun j u hu => by
  rw [List.getElem?_map] at hu
  match hz : zs[j]?, hu with
  | some c, hu =>
    obtain ⟨b, off, e, hc⟩ := h j c hz
    cases e
    simp only [Option.map_some, Option.some.injEq] at hu
    rw [← hu, show (⟨b, off, none⟩ : Addr).add j = ⟨b, off + j, none⟩ from by unfold Addr.add; split <;> simp_all]
    exact hc

set_option maxRecDepth 100000 in
set_option maxHeartbeats 3200000 in
theorem free_any (base q : Nat) (ff : List (List Int)) (ss : List Nat) (ts rs : List Int) (i : Nat) (l zs : List Int) (a : Option Addr) (len cap : Nat) (w : World) (hB : Bq w base q ff ss ts rs) (hl : ff[i]? = some l) (hz : zs.length = len) (h0 : 0 < len) (hW : Wd w a zs) (hN : ff.length ≤ 10000) (hll : l.length + len ≤ 100000) :
    Calls Tryz.prog 43 #[.pointer (some ⟨q, 0, none⟩), .int .i64 i, .slice a len cap] w fun e w' => e = .returned (.tuple #[]) ∧ Bq w' base q (ff.set i (l ++ zs)) ss ts rs ∧ Kb base w w' := by
  obtain ⟨i3, hi3, hz3, hs3, hb3⟩ := info_parts info3
  obtain ⟨v0, v1, v2, v3, vf, h⟩ := hB
  obtain ⟨ad, rfl⟩ : ∃ ad, a = some ad := by
    obtain ⟨b, off, e, _⟩ := hW 0 _ (List.getElem?_eq_getElem (by omega))
    exact ⟨_, e⟩
  have hi : i < ff.length := (List.getElem?_eq_some_iff.1 hl).1
  obtain ⟨u, hu⟩ : ∃ u, vf[i]? = some u := ⟨_, List.getElem?_eq_getElem (by rw [h.len]; exact hi)⟩
  obtain ⟨g0, c0, rfl, hbg0, hlt0⟩ := h.o0.form (by rw [h.len]; omega)
  obtain ⟨⟨d0, d1, d2, d3⟩, fz⟩ := q_cells h.blk
  have e0 : w.cell? ⟨g0, i, none⟩ = some u := (h.o0.cellAt i (by have := h.len; omega)).trans hu
  have hnl := h.len
  have HV := hide h
  have HU := hide hu
  have HL := hide hl
  have HZ := hide hz
  have HNW := hide (wd_news hW)
  have HUR := hide (h.rows i u l hu hl)
  have HBS := hide (show base ≤ w.heap.size by have := h.low; have := (Array.getElem?_eq_some_iff.1 h.blk).1; omega)
  have HQ := hide (fun (w3 : World) (hgr : w.drew.grownBy w3 u.ownBlock) => show w3.cell? ⟨q, 0, none⟩ = some (.slice (some ⟨g0, 0, none⟩) vf.length c0) ∧ w3.frozen? ⟨g0, i, none⟩ = false ∧ w3.cell? ⟨g0, i, none⟩ = some u from by
    have hur := h.rows i u l hu hl
    have o0' : w3.ownsRow base 26 1 (.slice (some ⟨g0, 0, none⟩) vf.length c0) vf.length vf := kept2 h.o0.drew hgr (fun k hk e => own_types h.o0 hur (by decide) k hk e)
    refine ⟨hgr.cell (w := w.drew) d0 (fun e => own_not hur h.blk (by decide) e.symm), o0'.frozenAt i, (o0'.cellAt i (by have := h.len; omega)).trans hu⟩)
  obtain ⟨nf, hnf⟩ : ∃ nf, vf.length = nf := ⟨_, rfl⟩
  have HNF := hide hnf
  have i1 : (0 : Int) ≤ (i : Int) := by omega
  have i2 : (i : Int) < (nf : Int) := by omega
  rw [hnf] at d0
  rw [hnf] at HQ
  obtain ⟨nl, hnl'⟩ : ∃ nl, l.length = nl := ⟨_, rfl⟩
  have HNL := hide hnl'
  rw [hnl'] at hll HUR
  clear h hu hl hz hW d1 d2 d3 fz hnl hnl' hnf hbg0 hlt0
  go_enter Tryz.func43, Tryz.ntmps43
  go_wp2_with fail
  go_region_law ((refine step_append_lies _ (by rfl) (.tmp 19) (.tmp 20) 26 (by rfl) base 3 i3 (.int .i64 0) 1 8 Tryz.underlying26 hi3 hz3 hs3 hb3 rfl (by decide) u nl (l.map (Value.int .i64)) (by rfl) HUR.out.drew ad len cap (zs.map (Value.int .i64)) (by rfl) (by rw [List.length_map, HZ.out]; omega) HNW.out (one_ints zs) h0 (by unfold maxLen; omega) (by omega) HBS.out w.heap.size rfl ?_; intro g cap' w3 hown3 hgrow3 hat3 hlt3; obtain ⟨g5, g6, g7⟩ := HQ.out w3 hgrow3))
  all_goals
    have hR := bv_free (bv_below (below_drew1 w) HV.out) HU.out HL.out (zs := zs) (by rw [HNL.out, HZ.out]; exact hown3) hgrow3 hat3
    rw [HNL.out, HZ.out] at hR
    have HR := hide hR
    clear hR hown3 hgrow3 hat3 hlt3 d0 e0
    go_wp2
    go_end0
    exact ⟨rfl, ⟨_, _, _, _, _, HR.out.1⟩, (Kb.of_below (below_drew1 w)).trans HR.out.2⟩
end Go.Proofs.YtccaknabpnpjaaaGreatDoor.A

/- A machine that is being put together, by what its steps are. -/
namespace Go.Proofs.YtccaknabpnpjaaaGreatDoor.A
open Go.RowKit

/-- Lists that say just these steps. -/
structure Is (F : Nat → Nat → Prop) (S : Nat → Nat → Nat → Prop) (N : Nat) (ff : List (List Int)) (ss : List Nat) (ts : List Int) : Prop where
  lf : ff.length = N
  ls : ss.length = N
  lt : ts.length = N
  up : ∀ (i : Nat) (l : List Int), ff[i]? = some l → l.Pairwise (· < ·)
  mem : ∀ (i : Nat) (l : List Int), ff[i]? = some l → ∀ z : Int, z ∈ l ↔ ∃ j : Nat, z = j ∧ F i j
  set : ∀ (i s : Nat) (t : Int), ss[i]? = some s → ts[i]? = some t → (∃ j : Nat, S i s j ∧ t = (j : Int)) ∨ ((∀ s j, ¬ S i s j) ∧ s = 0 ∧ t = 0)
section
variable {F F' : Nat → Nat → Prop} {S S' : Nat → Nat → Nat → Prop} {N : Nat} {ff : List (List Int)} {ss : List Nat} {ts : List Int}
theorem is_congr (h : Is F S N ff ss ts) (hF : ∀ a b, F a b ↔ F' a b) (hS : ∀ a s b, S a s b ↔ S' a s b) : Is F' S' N ff ss ts := by
  have e1 : F = F' := by funext a b; exact propext (hF a b)
  have e2 : S = S' := by funext a s b; exact propext (hS a s b)
  subst e1; subst e2; exact h
theorem up_len : ∀ (l : List Int) (a M : Nat), l.Pairwise (· < ·) → (∀ z ∈ l, (a : Int) ≤ z ∧ z < (M : Int)) → l.length ≤ M - a
  | [], _, _, _, _ => Nat.zero_le _
  | x :: r, a, M, h, hz => by
    rw [List.pairwise_cons] at h
    obtain ⟨h1, h2⟩ := hz x (by simp)
    obtain ⟨y, rfl⟩ : ∃ y : Nat, x = y := ⟨x.toNat, by omega⟩
    have := up_len r (y + 1) M h.2 (fun z hz' => ⟨by have := h.1 z hz'; omega, (hz z (by simp [hz'])).2⟩)
    rw [List.length_cons]
    omega
theorem is_len (h : Is F S N ff ss ts) {M : Nat} (hM : ∀ a b, F a b → b < M) {i : Nat} {l : List Int} (hl : ff[i]? = some l) : l.length ≤ M := by
  have := up_len l 0 M (h.up i l hl) (fun z hz => by
    obtain ⟨j, rfl, hj⟩ := (h.mem i l hl z).1 hz
    have := hM _ _ hj
    omega)
  omega
theorem is_new (h : Is F S N ff ss ts) (hF : ∀ j, ¬ F N j) (hS : ∀ s j, ¬ S N s j) : Is F S (N + 1) (ff ++ [[]]) (ss ++ [0]) (ts ++ [0]) := by
  have spl : ∀ {α : Type} {l : List α} {x y : α} {i : Nat}, l.length = N → (l ++ [x])[i]? = some y → l[i]? = some y ∧ i < N ∨ (i = N ∧ x = y) := fun {α l x y i} hl e => by
    by_cases c : i < l.length
    · rw [List.getElem?_append_left c] at e; exact .inl ⟨e, by omega⟩
    · rw [List.getElem?_append_right (by omega)] at e
      have := (List.getElem?_eq_some_iff.1 e).1
      have e1 : i - l.length = 0 := by simp at this; omega
      rw [e1] at e
      exact .inr ⟨by omega, by simpa using e⟩
  refine ⟨by simp [h.lf], by simp [h.ls], by simp [h.lt], fun i l hl => ?_, fun i l hl z => ?_, fun i s t hs ht => ?_⟩
  · rcases spl h.lf hl with ⟨hl, _⟩ | ⟨_, rfl⟩
    · exact h.up i l hl
    · exact .nil
  · rcases spl h.lf hl with ⟨hl, _⟩ | ⟨rfl, rfl⟩
    · exact h.mem i l hl z
    · constructor
      · intro hz; cases hz
      · rintro ⟨j, _, hj⟩; exact absurd hj (hF j)
  · rcases spl h.ls hs with ⟨hs, c⟩ | ⟨c, rfl⟩
    · rcases spl h.lt ht with ⟨ht, _⟩ | ⟨c', _⟩
      · exact h.set i s t hs ht
      · omega
    · rcases spl h.lt ht with ⟨_, c'⟩ | ⟨_, rfl⟩
      · omega
      · subst c; exact .inr ⟨hS, rfl, rfl⟩
theorem is_free1 (h : Is F S N ff ss ts) {i z : Nat} {l : List Int} (hl : ff[i]? = some l) (hz : ∀ j, F i j → j < z) : Is (fun a b => F a b ∨ (a = i ∧ b = z)) S N (ff.set i (l ++ [(z : Int)])) ss ts := by
  have hlt := (List.getElem?_eq_some_iff.1 hl).1
  have lem : ∀ y ∈ l, y < (z : Int) := fun y hy => by
    obtain ⟨j, rfl, hj⟩ := (h.mem i l hl y).1 hy
    have := hz j hj; omega
  refine ⟨by simp [h.lf], h.ls, h.lt, fun k m hm => ?_, fun k m hm y => ?_, h.set⟩
  · by_cases e : k = i
    · subst e
      rw [List.getElem?_set_self hlt] at hm; cases hm
      rw [List.pairwise_append]
      exact ⟨h.up k l hl, by simp, fun a ha b hb => by rw [List.mem_singleton] at hb; subst hb; exact lem a ha⟩
    · rw [List.getElem?_set_ne (Ne.symm e)] at hm; exact h.up k m hm
  · by_cases e : k = i
    · subst e
      rw [List.getElem?_set_self hlt] at hm; cases hm
      rw [List.mem_append, List.mem_singleton, h.mem k l hl y]
      constructor
      · rintro (⟨j, e1, e2⟩ | e1)
        · exact ⟨j, e1, .inl e2⟩
        · exact ⟨z, e1, .inr ⟨rfl, rfl⟩⟩
      · rintro ⟨j, e1, e2 | ⟨_, e2⟩⟩
        · exact .inl ⟨j, e1, e2⟩
        · exact .inr (by rw [e1, e2])
    · rw [List.getElem?_set_ne (Ne.symm e)] at hm
      rw [h.mem k m hm y]
      constructor
      · rintro ⟨j, e1, e2⟩; exact ⟨j, e1, .inl e2⟩
      · rintro ⟨j, e1, e2 | ⟨e2, _⟩⟩
        · exact ⟨j, e1, e2⟩
        · exact absurd e2 e
theorem is_free2 (h : Is F S N ff ss ts) {i z y : Nat} {l : List Int} (hl : ff[i]? = some l) (hz : ∀ j, F i j → j < z) (hy : z < y) : Is (fun a b => (F a b ∨ (a = i ∧ b = z)) ∨ (a = i ∧ b = y)) S N (ff.set i (l ++ [(z : Int), (y : Int)])) ss ts := by
  have hlt := (List.getElem?_eq_some_iff.1 hl).1
  have h2 := is_free1 (is_free1 h hl hz) (z := y) (List.getElem?_set_self hlt) (fun j hj => by
    rcases hj with hj | ⟨_, hj⟩
    · have := hz j hj; omega
    · omega)
  rw [List.set_set, List.append_assoc] at h2
  exact h2
theorem is_set (h : Is F S N ff ss ts) {i s j : Nat} (hi : i < N) (hS : ∀ s j, ¬ S i s j) : Is F (fun a u b => S a u b ∨ (a = i ∧ u = s ∧ b = j)) N ff (ss.set i s) (ts.set i (j : Int)) := by
  refine ⟨h.lf, by simp [h.ls], by simp [h.lt], h.up, h.mem, fun k u t hu ht => ?_⟩
  by_cases e : k = i
  · subst e
    rw [List.getElem?_set_self (by rw [h.ls]; exact hi)] at hu
    rw [List.getElem?_set_self (by rw [h.lt]; exact hi)] at ht
    cases hu; cases ht
    exact .inl ⟨j, .inr ⟨rfl, rfl, rfl⟩, rfl⟩
  · rw [List.getElem?_set_ne (Ne.symm e)] at hu ht
    rcases h.set k u t hu ht with ⟨b, h1, h2⟩ | ⟨h1, h2, h3⟩
    · exact .inl ⟨b, .inl h1, h2⟩
    · refine .inr ⟨fun u b hb => ?_, h2, h3⟩
      rcases hb with hb | ⟨hb, _⟩
      · exact h1 u b hb
      · exact e hb
end

/-- A builder whose machine has just these steps, and these rules. -/
def Bm (w : World) (base q : Nat) (F : Nat → Nat → Prop) (S : Nat → Nat → Nat → Prop) (N : Nat) (rs : List Int) : Prop := ∃ ff ss ts, Bq w base q ff ss ts rs ∧ Is F S N ff ss ts ∧ rs.length = N
theorem bm_congr {w : World} {base q N : Nat} {F F' : Nat → Nat → Prop} {S S' : Nat → Nat → Nat → Prop} {rs : List Int} (h : Bm w base q F S N rs) (hF : ∀ a b, F a b ↔ F' a b) (hS : ∀ a s b, S a s b ↔ S' a s b) : Bm w base q F' S' N rs := by
  obtain ⟨ff, ss, ts, h1, h2, h3⟩ := h
  exact ⟨ff, ss, ts, h1, is_congr h2 hF hS, h3⟩
theorem bm_below {w w' : World} {base q N : Nat} {F : Nat → Nat → Prop} {S : Nat → Nat → Nat → Prop} {rs : List Int} (hb : Below w.heap.size w w') (h : Bm w base q F S N rs) : Bm w' base q F S N rs := by
  obtain ⟨ff, ss, ts, h1, h2, h3⟩ := h
  exact ⟨ff, ss, ts, bq_below hb h1, h2, h3⟩
theorem bm_lt {w : World} {base q N : Nat} {F : Nat → Nat → Prop} {S : Nat → Nat → Nat → Prop} {rs : List Int} (h : Bm w base q F S N rs) : base ≤ q ∧ q < w.heap.size := by
  obtain ⟨ff, ss, ts, ⟨v0, v1, v2, v3, vf, h1⟩, h2, h3⟩ := h
  exact ⟨h1.low, (Array.getElem?_eq_some_iff.1 h1.blk).1⟩
theorem state_m (base q : Nat) (F : Nat → Nat → Prop) (S : Nat → Nat → Nat → Prop) (N : Nat) (rs : List Int) (w : World) (hB : Bm w base q F S N rs) (hN : N ≤ 9999) (hF : ∀ j, ¬ F N j) (hS : ∀ s j, ¬ S N s j) :
    Calls Tryz.prog 41 #[.pointer (some ⟨q, 0, none⟩)] w fun e w' => e = .returned (.int .i64 N) ∧ Bm w' base q F S (N + 1) (rs ++ [-1]) ∧ Kb base w w' := by
  obtain ⟨ff, ss, ts, h1, h2, h3⟩ := hB
  refine (state_any base q ff ss ts rs w h1 (by rw [h2.lf]; omega) (by rw [h2.ls, h2.lf]) (by rw [h2.lt, h2.lf]) (by rw [h3, h2.lf])).mono ?_
  rintro e w' ⟨rfl, k1, k2⟩
  exact ⟨by rw [h2.lf], ⟨_, _, _, k1, is_new h2 hF hS, by simp [h3]⟩, k2⟩
theorem free_m1 (base q : Nat) (F : Nat → Nat → Prop) (S : Nat → Nat → Nat → Prop) (N : Nat) (rs : List Int) (i z : Nat) (a : Option Addr) (cap M : Nat) (w : World) (hB : Bm w base q F S N rs) (hN : N ≤ 10000) (hM : M ≤ 10000) (hi : i < N) (hFM : ∀ a b, F a b → b < M) (hz : ∀ j, F i j → j < z) (hW : Wd w a [(z : Int)]) :
    Calls Tryz.prog 43 #[.pointer (some ⟨q, 0, none⟩), .int .i64 i, .slice a 1 cap] w fun e w' => e = .returned (.tuple #[]) ∧ Bm w' base q (fun a b => F a b ∨ (a = i ∧ b = z)) S N rs ∧ Kb base w w' := by
  obtain ⟨ff, ss, ts, h1, h2, h3⟩ := hB
  obtain ⟨l, hl⟩ : ∃ l, ff[i]? = some l := ⟨_, List.getElem?_eq_getElem (by rw [h2.lf]; exact hi)⟩
  refine (free_any base q ff ss ts rs i l [(z : Int)] a 1 cap w h1 hl rfl (by omega) hW (by rw [h2.lf]; omega) (by have := is_len h2 hFM hl; omega)).mono ?_
  rintro e w' ⟨rfl, k1, k2⟩
  exact ⟨rfl, ⟨_, _, _, k1, is_free1 h2 hl hz, h3⟩, k2⟩
theorem free_m2 (base q : Nat) (F : Nat → Nat → Prop) (S : Nat → Nat → Nat → Prop) (N : Nat) (rs : List Int) (i z y : Nat) (a : Option Addr) (cap M : Nat) (w : World) (hB : Bm w base q F S N rs) (hN : N ≤ 10000) (hM : M ≤ 10000) (hi : i < N) (hFM : ∀ a b, F a b → b < M) (hz : ∀ j, F i j → j < z) (hy : z < y) (hW : Wd w a [(z : Int), (y : Int)]) :
    Calls Tryz.prog 43 #[.pointer (some ⟨q, 0, none⟩), .int .i64 i, .slice a 2 cap] w fun e w' => e = .returned (.tuple #[]) ∧ Bm w' base q (fun a b => (F a b ∨ (a = i ∧ b = z)) ∨ (a = i ∧ b = y)) S N rs ∧ Kb base w w' := by
  obtain ⟨ff, ss, ts, h1, h2, h3⟩ := hB
  obtain ⟨l, hl⟩ : ∃ l, ff[i]? = some l := ⟨_, List.getElem?_eq_getElem (by rw [h2.lf]; exact hi)⟩
  refine (free_any base q ff ss ts rs i l [(z : Int), (y : Int)] a 2 cap w h1 hl rfl (by omega) hW (by rw [h2.lf]; omega) (by have := is_len h2 hFM hl; omega)).mono ?_
  rintro e w' ⟨rfl, k1, k2⟩
  exact ⟨rfl, ⟨_, _, _, k1, is_free2 h2 hl hz hy, h3⟩, k2⟩

/-- A row of one number, of two, just made. -/
theorem wd_one (w : World) (x : Int) : Wd (w.alloc (.cells #[.int .i64 x] 3)) (some ⟨w.heap.size, 0, none⟩) [x] := fun i c hc => by
  match i with
  | 0 =>
    have e : x = c := by simpa using hc
    subst e
    exact ⟨_, _, rfl, by simp⟩
  | i + 1 => simp at hc
theorem wd_two (w : World) (x y : Int) : Wd (w.alloc (.cells #[.int .i64 x, .int .i64 y] 3)) (some ⟨w.heap.size, 0, none⟩) [x, y] := fun i c hc => by
  match i with
  | 0 =>
    have e : x = c := by simpa using hc
    subst e
    exact ⟨_, _, rfl, by simp⟩
  | 1 =>
    have e : y = c := by simpa using hc
    subst e
    exact ⟨_, _, rfl, by simp⟩
  | i + 2 => simp at hc

/-- Parts of an expression in a row: where each begins, where it ends. -/
def Pts (w : World) (a : Option Addr) (K : Nat) (pb pe : Nat → Nat) : Prop := ∀ m, m < K → ∃ g off cs, a = some ⟨g, off, none⟩ ∧ w.heap[g]? = some (.cells cs 89 (0, 0)) ∧ w.cell? ⟨g, off + m * 2, none⟩ = some (.int .i64 (pb m : Int)) ∧ w.cell? ⟨g, off + m * 2 + 1, none⟩ = some (.int .i64 (pe m : Int))
theorem far60 {w : World} {base g : Nat} {cs : Array Value} (h : w.heap[g]? = some (.cells cs 89 (0, 0))) : Far w base g := .inr ⟨cs, 89, _, h, by decide, by decide, by decide, by decide⟩
theorem far51 {w : World} {base g : Nat} {cs : Array Value} (h : w.heap[g]? = some (.cells cs 38 (0, 0))) : Far w base g := .inr ⟨cs, 38, _, h, by decide, by decide, by decide, by decide⟩
theorem pts_kb {w w' : World} {base : Nat} {a : Option Addr} {K : Nat} {pb pe : Nat → Nat} (hk : Kb base w w') (h : Pts w a K pb pe) : Pts w' a K pb pe := fun m hm => by
  obtain ⟨g, off, cs, e, hg, c1, c2⟩ := h m hm
  have hlt : g < w.heap.size := (Array.getElem?_eq_some_iff.1 hg).1
  have hb := hk.block g hlt (far60 hg)
  exact ⟨g, off, cs, e, hb.trans hg, (World.cell?_of_block (w := w) (a := ⟨g, off + m * 2, none⟩) hb).trans c1, (World.cell?_of_block (w := w) (a := ⟨g, off + m * 2 + 1, none⟩) hb).trans c2⟩
end Go.Proofs.YtccaknabpnpjaaaGreatDoor.A

/- The program's builder: the steps of a node, by its kind. -/
namespace Go.Proofs.YtccaknabpnpjaaaGreatDoor.A
open Go.RowKit

/-- The boxes of a node and of its part, in every world behind. -/
def Bxs (w : World) (P : Nat) (kk : Int) (ss : Nat) (x : Value) (b e : Nat) : Prop := w.heap[P]? = some (.cells #[.int .u8 kk, .int .u16 ss, x] 38 (0, 0)) ∧ w.heap[P + 1]? = some (.cells #[.int .i64 b, .int .i64 e] 89 (0, 0))
theorem bxs_new (w : World) (kk : Int) (ss : Nat) (x : Value) (b e : Nat) : Bxs ((w.alloc (.cells #[.int .u8 kk, .int .u16 ss, x] 38)).alloc (.cells #[.int .i64 b, .int .i64 e] 89)) w.heap.size kk ss x b e := by
  refine ⟨?_, ?_⟩
  · rw [Below.heap_alloc _ _ _ (by simp)]; exact heap_alloc_last w _
  · have := heap_alloc_last (w.alloc (.cells #[.int .u8 kk, .int .u16 ss, x] 38)) (.cells #[.int .i64 b, .int .i64 e] 89)
    rw [show (w.alloc (.cells #[.int .u8 kk, .int .u16 ss, x] 38)).heap.size = w.heap.size + 1 by simp] at this
    exact this
theorem bxs_kb {w w' : World} {base P ss : Nat} {kk : Int} {x : Value} {b e : Nat} (hk : Kb base w w') (h : Bxs w P kk ss x b e) : Bxs w' P kk ss x b e := by
  obtain ⟨h1, h2⟩ := h
  exact ⟨(hk.block P (Array.getElem?_eq_some_iff.1 h1).1 (far51 h1)).trans h1, (hk.block (P + 1) (Array.getElem?_eq_some_iff.1 h2).1 (far60 h2)).trans h2⟩
theorem bxs_cells {w : World} {P ss : Nat} {kk : Int} {x : Value} {b e : Nat} (h : Bxs w P kk ss x b e) : (w.cell? ⟨P, 0, none⟩ = some (.int .u8 kk) ∧ w.cell? ⟨P, 1, none⟩ = some (.int .u16 ss)) ∧ w.cell? ⟨P + 1, 0, none⟩ = some (.int .i64 b) ∧ w.cell? ⟨P + 1, 1, none⟩ = some (.int .i64 e) := by
  obtain ⟨h1, h2⟩ := h
  refine ⟨⟨?_, ?_⟩, ?_, ?_⟩
  · rw [cell_of_row _ _ _ _ _ _ h1]; rfl
  · rw [cell_of_row _ _ _ _ _ _ h1]; rfl
  · rw [cell_of_row _ _ _ _ _ _ h2]; rfl
  · rw [cell_of_row _ _ _ _ _ _ h2]; rfl
theorem kb_alloc {base : Nat} {w : World} (o : Obj) : Kb base w (w.alloc o) := Kb.of_below ((Below.refl _ _).alloc (Nat.le_refl _) o)

theorem free_new1 (base q : Nat) (F : Nat → Nat → Prop) (S : Nat → Nat → Nat → Prop) (N : Nat) (rs : List Int) (i z M H : Nat) (W : World) (hH : W.heap.size = H) (hB : Bm W base q F S N rs) (hN : N ≤ 10000) (hM : M ≤ 10000) (hi : i < N) (hFM : ∀ a b, F a b → b < M) (hz : ∀ j, F i j → j < z) :
    Calls Tryz.prog 43 #[.pointer (some ⟨q, 0, none⟩), .int .i64 i, .slice (some ⟨H, 0, none⟩) 1 1] (W.alloc (.cells #[.int .i64 z] 3)) fun e w' => e = .returned (.tuple #[]) ∧ Bm w' base q (fun a b => F a b ∨ (a = i ∧ b = z)) S N rs ∧ Kb base W w' := by
  subst hH
  refine (free_m1 base q F S N rs i z _ 1 M _ (bm_below ((Below.refl _ _).alloc (Nat.le_refl _) _) hB) hN hM hi hFM hz (wd_one W z)).mono ?_
  rintro e w' ⟨rfl, h1, h2⟩
  exact ⟨rfl, h1, (kb_alloc _).trans h2⟩
theorem free_new2 (base q : Nat) (F : Nat → Nat → Prop) (S : Nat → Nat → Nat → Prop) (N : Nat) (rs : List Int) (i z y M H : Nat) (W : World) (hH : W.heap.size = H) (hB : Bm W base q F S N rs) (hN : N ≤ 10000) (hM : M ≤ 10000) (hi : i < N) (hFM : ∀ a b, F a b → b < M) (hz : ∀ j, F i j → j < z) (hy : z < y) :
    Calls Tryz.prog 43 #[.pointer (some ⟨q, 0, none⟩), .int .i64 i, .slice (some ⟨H, 0, none⟩) 2 2] (W.alloc (.cells #[.int .i64 z, .int .i64 y] 3)) fun e w' => e = .returned (.tuple #[]) ∧ Bm w' base q (fun a b => (F a b ∨ (a = i ∧ b = z)) ∨ (a = i ∧ b = y)) S N rs ∧ Kb base W w' := by
  subst hH
  refine (free_m2 base q F S N rs i z y _ 2 M _ (bm_below ((Below.refl _ _).alloc (Nat.le_refl _) _) hB) hN hM hi hFM hz hy (wd_two W z y)).mono ?_
  rintro e w' ⟨rfl, h1, h2⟩
  exact ⟨rfl, h1, (kb_alloc _).trans h2⟩

/-- What lies behind the two boxes. -/
theorem two_boxes {w : World} {base q N : Nat} {F : Nat → Nat → Prop} {S : Nat → Nat → Nat → Prop} {rs : List Int} (hB : Bm w base q F S N rs) (kk : Int) (ss : Nat) (x : Value) (b e : Nat) :
    Bxs ((w.alloc (.cells #[.int .u8 kk, .int .u16 ss, x] 38)).alloc (.cells #[.int .i64 b, .int .i64 e] 89)) w.heap.size kk ss x b e ∧ Kb base w ((w.alloc (.cells #[.int .u8 kk, .int .u16 ss, x] 38)).alloc (.cells #[.int .i64 b, .int .i64 e] 89)) ∧ Bm ((w.alloc (.cells #[.int .u8 kk, .int .u16 ss, x] 38)).alloc (.cells #[.int .i64 b, .int .i64 e] 89)) base q F S N rs ∧ ((w.alloc (.cells #[.int .u8 kk, .int .u16 ss, x] 38)).alloc (.cells #[.int .i64 b, .int .i64 e] 89)).heap.size = w.heap.size + 1 + 1 :=
  ⟨bxs_new w kk ss x b e, (kb_alloc _).trans (kb_alloc _), bm_below ((Below.refl _ _).alloc (Nat.le_refl _) _) (bm_below ((Below.refl _ _).alloc (Nat.le_refl _) _) hB), by simp⟩

set_option maxHeartbeats 1600000 in
theorem steps_k0 (base q : Nat) (F : Nat → Nat → Prop) (S : Nat → Nat → Nat → Prop) (N : Nat) (rs : List Int) (ss : Nat) (x v : Value) (b e M : Nat) (w : World) (hB : Bm w base q F S N rs) (hN : N ≤ 10000) (hM : M ≤ 10000) (hb : b < N) (hFM : ∀ a b, F a b → b < M) (hFb : ∀ j, ¬ F b j) :
    Calls Tryz.prog 62 #[.pointer (some ⟨q, 0, none⟩), .agg #[.int .u8 0, .int .u16 ss, x], .agg #[.int .i64 b, .int .i64 e], v] w fun en w' => en = .returned (.tuple #[]) ∧ Bm w' base q (fun i j => F i j ∨ (i = b ∧ j = e)) S N rs ∧ Kb base w w' := by
  have H := hide (two_boxes hB 0 ss x b e)
  have HF := hide hFM
  have HFb := hide hFb
  clear hB hFM hFb
  go_enter Tryz.func62, Tryz.ntmps62
  go_wp2_with fail
  generalize (w.alloc (.cells #[.int .u8 0, .int .u16 ss, x] 38)).alloc (.cells #[.int .i64 b, .int .i64 e] 89) = W at *
  refine (free_new1 base q F S N rs b e M _ W H.out.2.2.2 H.out.2.2.1 hN hM hb HF.out (fun j hj => (HFb.out j hj).elim)).mono ?_
  rintro en w1 ⟨rfl, h1, h2⟩
  have H1 := hide h1
  have H2 := hide (H.out.2.1.trans h2)
  clear h1 h2
  go_wp2
  go_end0
  exact ⟨rfl, H1.out, H2.out⟩

/-- Where parts lie: between the node's two states, one behind the other. -/
structure Geo (b e K : Nat) (pb pe : Nat → Nat) : Prop where
  lo : ∀ m, m < K → b < pb m
  mid : ∀ m, m < K → pb m ≤ pe m
  hi : ∀ m, m < K → pe m < e
  next : ∀ m m', m < m' → m' < K → pe m < pb m'
/-- Where the way through parts stands ahead of each. -/
def src (b : Nat) (pe : Nat → Nat) : Nat → Nat | 0 => b | m + 1 => pe m
theorem src_lt {b e K : Nat} {pb pe : Nat → Nat} (g : Geo b e K pb pe) : ∀ m m', m < m' → m' ≤ K → src b pe m < src b pe m'
  | 0, m' + 1, _, h => by show b < pe m'; have := g.lo m' (by omega); have := g.mid m' (by omega); omega
  | m + 1, m' + 1, h1, h => by show pe m < pe m'; have := g.next m m' (by omega) (by omega); have := g.mid m' (by omega); omega
theorem src_e {b e K : Nat} {pb pe : Nat → Nat} (g : Geo b e K pb pe) (hbe : b < e) : ∀ m, m ≤ K → src b pe m < e
  | 0, _ => hbe
  | m + 1, h => g.hi m (by omega)
theorem pts_at {w : World} {a : Option Addr} {K : Nat} {pb pe : Nat → Nat} (h : Pts w a K pb pe) {m : Nat} (hm : m < K) : ∃ g off, a = some ⟨g, off, none⟩ ∧ w.cell? ⟨g, off + m * 2, none⟩ = some (.int .i64 (pb m : Int)) ∧ w.cell? ⟨g, off + m * 2 + 1, none⟩ = some (.int .i64 (pe m : Int)) := by
  obtain ⟨g, off, cs, e, _, c1, c2⟩ := h m hm
  exact ⟨g, off, e, c1, c2⟩
theorem box60 (w : World) (x y : Nat) : ∃ cs, (w.alloc (.cells #[.int .i64 x, .int .i64 y] 89)).heap[w.heap.size]? = some (.cells cs 89 (0, 0)) ∧ (w.alloc (.cells #[.int .i64 x, .int .i64 y] 89)).cell? ⟨w.heap.size, 1, none⟩ = some (.int .i64 y) := ⟨_, heap_alloc_last w _, by simp⟩

set_option maxRecDepth 100000 in
set_option maxHeartbeats 3200000 in
theorem steps_k2 (base q : Nat) (F : Nat → Nat → Prop) (S : Nat → Nat → Nat → Prop) (N : Nat) (rs : List Int) (ss : Nat) (x : Value) (a : Option Addr) (K cap b e M : Nat) (pb pe : Nat → Nat) (w : World) (hB : Bm w base q F S N rs) (hN : N ≤ 10000) (hM : M ≤ 10000) (hFM : ∀ a b, F a b → b < M) (heM : e < M) (heN : e < N) (hbe : b < e) (hK : K ≤ 10000)
    (hg : Geo b e K pb pe) (hFb : ∀ m j, m ≤ K → ¬ F (src b pe m) j) (hP : Pts w a K pb pe) :
    Calls Tryz.prog 62 #[.pointer (some ⟨q, 0, none⟩), .agg #[.int .u8 2, .int .u16 ss, x], .agg #[.int .i64 b, .int .i64 e], .slice a K cap] w fun en w' => en = .returned (.tuple #[]) ∧ Bm w' base q (fun i j => F i j ∨ (∃ m, m < K ∧ i = src b pe m ∧ j = pb m) ∨ (i = src b pe K ∧ j = e)) S N rs ∧ Kb base w w' := by
  have H := hide (two_boxes hB 2 ss x b e)
  obtain ⟨p0, p1, p2⟩ := bxs_cells H.out.1
  have HF := hide hFM
  have HFb := hide hFb
  have HP := hide (pts_kb H.out.2.1 hP)
  have HG := hide hg
  clear hB hFM hFb hP hg
  go_enter Tryz.func62, Tryz.ntmps62
  go_wp2_with fail
  generalize (w.alloc (.cells #[.int .u8 2, .int .u16 ss, x] 38)).alloc (.cells #[.int .i64 b, .int .i64 e] 89) = W at *
  generalize hQ : w.heap.size = P at *
  go_loopw [8, 10, 58] (fun at_ _ i wr => ∃ (k : Nat), k ≤ K ∧ i = .int .i64 k ∧ at_ = .int .i64 (src b pe k : Nat) ∧ Bm wr base q (fun i j => F i j ∨ ∃ m, m < k ∧ i = src b pe m ∧ j = pb m) S N rs ∧ Kb base W wr) (fun _ _ i _ => K - (intOf i).toNat)
  case atStart => exact ⟨0, Nat.zero_le _, rfl, rfl, bm_congr H.out.2.2.1 (fun a b => ⟨.inl, fun h => h.elim id (fun ⟨m, h, _⟩ => absurd h (by omega))⟩) (fun _ _ _ => Iff.rfl), Kb.refl _ _⟩
  case round =>
    obtain ⟨k, hk, rfl, rfl, hbm, hkb⟩ := hrel
    have HBM := hide hbm
    have HKB := hide hkb
    clear hbm hkb
    have hFk : ∀ a c, (F a c ∨ ∃ m, m < k ∧ a = src b pe m ∧ c = pb m) → c < M := fun a c h => by
      rcases h with h | ⟨m, h1, _, rfl⟩
      · exact HF.out a c h
      · have := HG.out.mid m (by omega); have := HG.out.hi m (by omega); omega
    have hsk : src b pe k < N := by have := src_e HG.out hbe k hk; omega
    have hnk : ∀ j, ¬ (F (src b pe k) j ∨ ∃ m, m < k ∧ src b pe k = src b pe m ∧ j = pb m) := fun j h => by
      rcases h with h | ⟨m, h1, h2, _⟩
      · exact HFb.out k j hk h
      · have := src_lt HG.out m k h1 hk; omega
    have HFK := hide hFk
    have HNK := hide hnk
    have HSK := hide hsk
    obtain ⟨_, r1, r2⟩ := bxs_cells (bxs_kb HKB.out H.out.1)
    clear hFk hnk hsk p0 p1 p2
    by_cases hlt : k < K
    · obtain ⟨g, off, rfl, c1, c2⟩ := pts_at (pts_kb HKB.out HP.out) hlt
      have i3 : (0 : Int) ≤ (k : Int) := by omega
      have i4 : (k : Int) < (K : Int) := by omega
      have HBX := hide (box60 wr (pb k) (pe k))
      have HBA := hide (bm_below ((Below.refl _ _).alloc (Nat.le_refl _) (.cells #[.int .i64 (pb k : Nat), .int .i64 (pe k : Nat)] 89)) HBM.out)
      have HKA := hide (HKB.out.trans (kb_alloc (.cells #[.int .i64 (pb k : Nat), .int .i64 (pe k : Nat)] 89)))
      have HSZ := hide (show (wr.alloc (.cells #[.int .i64 (pb k : Nat), .int .i64 (pe k : Nat)] 89)).heap.size = wr.heap.size + 1 by simp)
      go_wp2_with fail
      generalize wr.alloc (.cells #[.int .i64 (pb k : Nat), .int .i64 (pe k : Nat)] 89) = WA at *
      generalize wr.heap.size = H0 at *
      refine (free_new1 base q _ S N rs (src b pe k) (pb k) M _ WA HSZ.out HBA.out hN hM HSK.out HFK.out (fun j hj => (HNK.out j hj).elim)).mono ?_
      rintro en w1 ⟨rfl, h1, h2⟩
      have H1 := hide h1
      have H2 := hide (HKA.out.trans h2)
      obtain ⟨cs, hb1, hb2⟩ := HBX.out
      have d2 := (h2.cell (p := ⟨H0, 1, none⟩) (cell_lt hb2) (far60 hb1)).trans hb2
      clear h1 h2 hb1 hb2 c1 c2 r1 r2
      go_wp2
      go_roundw
      case rel => exact ⟨k + 1, by omega, by go_num, rfl, bm_congr H1.out (fun a c => by
        constructor
        · rintro ((h | ⟨m, h1, h2⟩) | ⟨h1, h2⟩)
          · exact .inl h
          · exact .inr ⟨m, by omega, h2⟩
          · exact .inr ⟨k, by omega, h1, h2⟩
        · rintro (h | ⟨m, h1, h2⟩)
          · exact .inl (.inl h)
          · by_cases q : m = k
            · subst q; exact .inr h2
            · exact .inl (.inr ⟨m, by omega, h2⟩)) (fun _ _ _ => Iff.rfl), H2.out⟩
      case measure => simp [intOf]; omega
    · have e' : k = K := by omega
      subst e'
      go_wp2_with fail
      refine (free_new1 base q _ S N rs (src b pe k) e M _ wr rfl HBM.out hN hM HSK.out HFK.out (fun j hj => (HNK.out j hj).elim)).mono ?_
      rintro en w1 ⟨rfl, h1, h2⟩
      have H1 := hide h1
      have H2 := hide (HKB.out.trans h2)
      clear h1 h2 r1 r2
      go_wp2
      go_end0
      exact ⟨rfl, bm_congr H1.out (fun a c => or_assoc) (fun _ _ _ => Iff.rfl), H.out.2.1.trans H2.out⟩
end Go.Proofs.YtccaknabpnpjaaaGreatDoor.A

/- The program's builder: the steps of a node, by its kind: one of several, and an option. -/
namespace Go.Proofs.YtccaknabpnpjaaaGreatDoor.A
open Go.RowKit

set_option maxRecDepth 100000 in
set_option maxHeartbeats 3200000 in
theorem steps_k3 (base q : Nat) (F : Nat → Nat → Prop) (S : Nat → Nat → Nat → Prop) (N : Nat) (rs : List Int) (ss : Nat) (x : Value) (a : Option Addr) (K cap b e M : Nat) (pb pe : Nat → Nat) (w : World) (hB : Bm w base q F S N rs) (hN : N ≤ 10000) (hM : M ≤ 10000) (hFM : ∀ a b, F a b → b < M) (heM : e < M) (heN : e < N) (hbe : b < e) (hK : K ≤ 10000)
    (hg : Geo b e K pb pe) (hFb : ∀ m j, m ≤ K → ¬ F (src b pe m) j) (hP : Pts w a K pb pe) :
    Calls Tryz.prog 62 #[.pointer (some ⟨q, 0, none⟩), .agg #[.int .u8 3, .int .u16 ss, x], .agg #[.int .i64 b, .int .i64 e], .slice a K cap] w fun en w' => en = .returned (.tuple #[]) ∧ Bm w' base q (fun i j => F i j ∨ ∃ m, m < K ∧ ((i = b ∧ j = pb m) ∨ (i = pe m ∧ j = e))) S N rs ∧ Kb base w w' := by
  have H := hide (two_boxes hB 3 ss x b e)
  obtain ⟨p0, p1, p2⟩ := bxs_cells H.out.1
  have HF := hide hFM
  have HFb := hide hFb
  have HP := hide (pts_kb H.out.2.1 hP)
  have HG := hide hg
  clear hB hFM hFb hP hg
  go_enter Tryz.func62, Tryz.ntmps62
  go_wp2_with fail
  generalize (w.alloc (.cells #[.int .u8 3, .int .u16 ss, x] 38)).alloc (.cells #[.int .i64 b, .int .i64 e] 89) = W at *
  generalize hQ : w.heap.size = P at *
  go_loopw [12, 79] (fun _ i wr => ∃ (k : Nat), k ≤ K ∧ i = .int .i64 k ∧ Bm wr base q (fun i j => F i j ∨ ∃ m, m < k ∧ ((i = b ∧ j = pb m) ∨ (i = pe m ∧ j = e))) S N rs ∧ Kb base W wr) (fun _ i _ => K - (intOf i).toNat)
  case atStart => exact ⟨0, Nat.zero_le _, rfl, bm_congr H.out.2.2.1 (fun a b => ⟨.inl, fun h => h.elim id (fun ⟨m, h, _⟩ => absurd h (by omega))⟩) (fun _ _ _ => Iff.rfl), Kb.refl _ _⟩
  case round =>
    obtain ⟨k, hk, rfl, hbm, hkb⟩ := hrel
    have HBM := hide hbm
    have HKB := hide hkb
    clear hbm hkb
    have hFk : ∀ a c, (F a c ∨ ∃ m, m < k ∧ ((a = b ∧ c = pb m) ∨ (a = pe m ∧ c = e))) → c < M := fun a c h => by
      rcases h with h | ⟨m, h1, ⟨_, rfl⟩ | ⟨_, rfl⟩⟩
      · exact HF.out a c h
      · have := HG.out.mid m (by omega); have := HG.out.hi m (by omega); omega
      · exact heM
    have HFK := hide hFk
    obtain ⟨_, r1, r2⟩ := bxs_cells (bxs_kb HKB.out H.out.1)
    clear hFk p0 p1 p2
    by_cases hlt : k < K
    · obtain ⟨g, off, rfl, c1, c2⟩ := pts_at (pts_kb HKB.out HP.out) hlt
      have i3 : (0 : Int) ≤ (k : Int) := by omega
      have i4 : (k : Int) < (K : Int) := by omega
      have hnk : ∀ j, (F b j ∨ ∃ m, m < k ∧ ((b = b ∧ j = pb m) ∨ (b = pe m ∧ j = e))) → j < pb k := fun j h => by
        rcases h with h | ⟨m, h1, ⟨_, h2⟩ | ⟨h2, _⟩⟩
        · exact (HFb.out 0 j (by omega) h).elim
        · have := HG.out.next m k h1 hlt; have := HG.out.mid m (by omega); omega
        · have := HG.out.lo m (by omega); have := HG.out.mid m (by omega); omega
      have hnk2 : ∀ j, ((F (pe k) j ∨ ∃ m, m < k ∧ ((pe k = b ∧ j = pb m) ∨ (pe k = pe m ∧ j = e))) ∨ (pe k = b ∧ j = pb k)) → j < e := fun j h => by
        have q1 := HG.out.lo k hlt
        have q2 := HG.out.mid k hlt
        rcases h with (h | ⟨m, h1, ⟨h2, _⟩ | ⟨h2, _⟩⟩) | ⟨h, _⟩
        · exact (HFb.out (k + 1) j (by omega) h).elim
        · omega
        · have := HG.out.next m k h1 hlt; omega
        · omega
      have HNK := hide hnk
      have HNK2 := hide hnk2
      have hpk : pe k < N ∧ pb k < M := by have := HG.out.hi k hlt; have := HG.out.mid k hlt; omega
      have HPK := hide hpk
      have HBX := hide (box60 wr (pb k) (pe k))
      have HBA := hide (bm_below ((Below.refl _ _).alloc (Nat.le_refl _) (.cells #[.int .i64 (pb k : Nat), .int .i64 (pe k : Nat)] 89)) HBM.out)
      have HKA := hide (HKB.out.trans (kb_alloc (.cells #[.int .i64 (pb k : Nat), .int .i64 (pe k : Nat)] 89)))
      have HSZ := hide (show (wr.alloc (.cells #[.int .i64 (pb k : Nat), .int .i64 (pe k : Nat)] 89)).heap.size = wr.heap.size + 1 by simp)
      have hPA : P + 1 < wr.heap.size := (cell_lt r1)
      clear hnk hnk2 hpk
      go_wp2_with fail
      generalize wr.alloc (.cells #[.int .i64 (pb k : Nat), .int .i64 (pe k : Nat)] 89) = WA at *
      generalize wr.heap.size = H0 at *
      refine (free_new1 base q _ S N rs b (pb k) M _ WA HSZ.out HBA.out hN hM (by omega) HFK.out (fun j hj => HNK.out j (by simpa using hj))).mono ?_
      rintro en w1 ⟨rfl, h1, h2⟩
      have H1 := hide h1
      have H2 := hide (HKA.out.trans h2)
      obtain ⟨cs, hb1, hb2⟩ := HBX.out
      have d2 := (h2.cell (p := ⟨H0, 1, none⟩) (cell_lt hb2) (far60 hb1)).trans hb2
      obtain ⟨_, s1, s2⟩ := bxs_cells (bxs_kb H2.out H.out.1)
      have HF2 := hide (show ∀ a c, ((F a c ∨ ∃ m, m < k ∧ ((a = b ∧ c = pb m) ∨ (a = pe m ∧ c = e))) ∨ (a = b ∧ c = pb k)) → c < M from fun a c h => by
        rcases h with h | ⟨_, h⟩
        · exact HFK.out a c h
        · rw [h]; exact HPK.out.2)
      clear h1 h2 hb1 hb2 c1 c2 r1 r2
      go_wp2_with fail
      refine (free_new1 base q _ S N rs (pe k) e M _ w1 rfl H1.out hN hM HPK.out.1 HF2.out HNK2.out).mono ?_
      rintro en w2 ⟨rfl, h1, h2⟩
      have H3 := hide h1
      have H4 := hide (H2.out.trans h2)
      clear h1 h2 d2 s1 s2
      go_wp2
      go_roundw
      case rel => exact ⟨k + 1, by omega, by go_num, bm_congr H3.out (fun a c => by
        constructor
        · rintro (((h | ⟨m, h1, h2⟩) | h) | h)
          · exact .inl h
          · exact .inr ⟨m, by omega, h2⟩
          · exact .inr ⟨k, by omega, .inl h⟩
          · exact .inr ⟨k, by omega, .inr h⟩
        · rintro (h | ⟨m, h1, h2⟩)
          · exact .inl (.inl (.inl h))
          · by_cases q : m = k
            · subst q
              rcases h2 with h2 | h2
              · exact .inl (.inr h2)
              · exact .inr h2
            · exact .inl (.inl (.inr ⟨m, by omega, h2⟩))) (fun _ _ _ => Iff.rfl), H4.out⟩
      case measure => simp [intOf]; omega
    · have e' : k = K := by omega
      subst e'
      clear r1 r2
      go_wp2
      go_end0
      exact ⟨rfl, HBM.out, H.out.2.1.trans HKB.out⟩

/-- The cells that an option's steps read. -/
theorem opt_cells {base : Nat} {W w1 : World} {P ss : Nat} {kk : Int} {x : Value} {b e g off K : Nat} {pb pe : Nat → Nat} (hk : Kb base W w1) (hx : Bxs W P kk ss x b e) (hp : Pts W (some ⟨g, off, none⟩) K pb pe) (h0 : 0 < K) :
    (w1.cell? ⟨g, off, none⟩ = some (.int .i64 (pb 0 : Nat)) ∧ w1.cell? ⟨g, off + 1, none⟩ = some (.int .i64 (pe 0 : Nat))) ∧ w1.cell? ⟨P + 1, 0, none⟩ = some (.int .i64 b) ∧ w1.cell? ⟨P + 1, 1, none⟩ = some (.int .i64 e) := by
  obtain ⟨g', off', e', k1, k2⟩ := pts_at (pts_kb hk hp) h0
  cases e'
  rw [show off + 0 * 2 = off by omega] at k1 k2
  obtain ⟨_, j1, j2⟩ := bxs_cells (bxs_kb hk hx)
  exact ⟨⟨k1, k2⟩, j1, j2⟩
theorem kb_drew (base : Nat) (w : World) : Kb base w w.drew := Kb.of_below (below_drew1 w)

set_option maxRecDepth 100000 in
set_option maxHeartbeats 3200000 in
theorem steps_k5 (base q : Nat) (F : Nat → Nat → Prop) (S : Nat → Nat → Nat → Prop) (N : Nat) (rs : List Int) (ss : Nat) (x : Value) (a : Option Addr) (cap b e M : Nat) (pb pe : Nat → Nat) (w : World) (hB : Bm w base q F S N rs) (hN : N ≤ 10000) (hM : M ≤ 10000) (hFM : ∀ a b, F a b → b < M) (heM : e < M) (heN : e < N) (hbe : b < e)
    (hg : Geo b e 1 pb pe) (hFb : ∀ m j, m ≤ 1 → ¬ F (src b pe m) j) (hP : Pts w a 1 pb pe) :
    Calls Tryz.prog 62 #[.pointer (some ⟨q, 0, none⟩), .agg #[.int .u8 5, .int .u16 ss, x], .agg #[.int .i64 b, .int .i64 e], .slice a 1 cap] w fun en w' => en = .returned (.tuple #[]) ∧ Bm w' base q (fun i j => ((F i j ∨ (i = b ∧ j = pb 0)) ∨ (i = b ∧ j = e)) ∨ (i = pe 0 ∧ j = e)) S N rs ∧ Kb base w w' := by
  have H := hide (two_boxes hB 5 ss x b e)
  obtain ⟨p0, p1, p2⟩ := bxs_cells H.out.1
  obtain ⟨g, off, rfl, -, -⟩ := pts_at hP (show 0 < 1 by omega)
  have HP := hide (pts_kb H.out.2.1 hP)
  have g1 := hg.lo 0 (by omega)
  have g2 := hg.mid 0 (by omega)
  have g3 := hg.hi 0 (by omega)
  have HF := hide hFM
  have HF2 := hide (show ∀ a c, ((F a c ∨ (a = b ∧ c = pb 0)) ∨ (a = b ∧ c = e)) → c < M from fun a c h => by
    rcases h with (h | ⟨_, rfl⟩) | ⟨_, rfl⟩
    · exact hFM a c h
    · omega
    · exact heM)
  have HZ1 := hide (show ∀ j, F b j → j < pb 0 from fun j h => (hFb 0 j (by omega) h).elim)
  have HZ2 := hide (show ∀ j, ((F (pe 0) j ∨ (pe 0 = b ∧ j = pb 0)) ∨ (pe 0 = b ∧ j = e)) → j < e from fun j h => by
    rcases h with (h | ⟨h, _⟩) | ⟨h, _⟩
    · exact (hFb 1 j (by omega) h).elim
    · omega
    · omega)
  have HPE := hide (show pe 0 < N ∧ pb 0 < e by omega)
  clear hB hFM hFb hP hg
  go_enter Tryz.func62, Tryz.ntmps62
  go_wp2_with fail
  generalize (w.alloc (.cells #[.int .u8 5, .int .u16 ss, x] 38)).alloc (.cells #[.int .i64 b, .int .i64 e] 89) = W at *
  generalize hQ : w.heap.size = P at *
  clear p0 p1 p2
  obtain ⟨⟨c1, c2⟩, c3, c4⟩ := opt_cells (Kb.refl base W) H.out.1 HP.out (by omega)
  have HBD := hide (bm_below (below_drew1 W) H.out.2.2.1)
  go_region_held3 (fun w' => w'.cell? ⟨g, off, none⟩ = some (.int .i64 (pb 0 : Nat)) ∧ w'.cell? ⟨P + 1, 0, none⟩ = some (.int .i64 b) ∧ w'.cell? ⟨P + 1, 1, none⟩ = some (.int .i64 e)) (first | assumption | go_keep) ((go_at_call 43; refine (free_new2 base q _ S N rs b (pb 0) e M _ W.drew rfl HBD.out hN hM (by omega) HF.out HZ1.out HPE.out.2).mono ?_; rintro en w2 ⟨rfl, h1, h2⟩; obtain ⟨⟨k1, k2⟩, k3, k4⟩ := opt_cells ((kb_drew base W).trans h2) H.out.1 HP.out (by omega); have k9 := And.intro k1 (And.intro k3 k4)))
  have HB2 := hide h1
  have HKB2 := hide ((Kb.refl base W).trans ((kb_drew base W).trans h2))
  clear h1 h2 k9 k1 k2 k3 k4 c1 c2 c3 c4 HBD
  go_wp2_with fail
  obtain ⟨⟨c1, c2⟩, c3, c4⟩ := opt_cells HKB2.out H.out.1 HP.out (by omega)
  have HBD := hide (bm_below (below_drew1 w2) HB2.out)
  go_region_held3 (fun w' => w'.cell? ⟨g, off + 1, none⟩ = some (.int .i64 (pe 0 : Nat)) ∧ w'.cell? ⟨P + 1, 1, none⟩ = some (.int .i64 e)) (first | assumption | go_keep) ((go_at_call 43; refine (free_new1 base q _ S N rs (pe 0) e M _ w2.drew rfl HBD.out hN hM HPE.out.1 HF2.out HZ2.out).mono ?_; rintro en w3 ⟨rfl, h1, h2⟩; obtain ⟨⟨k1, k2⟩, k3, k4⟩ := opt_cells (HKB2.out.trans ((kb_drew base w2).trans h2)) H.out.1 HP.out (by omega); have k9 := And.intro k2 k4))
  have HB3 := hide h1
  have HKB3 := hide (HKB2.out.trans ((kb_drew base w2).trans h2))
  clear h1 h2 k9 k1 k2 k3 k4 c1 c2 c3 c4 HBD
  go_wp2
  go_end0
  exact ⟨rfl, HB3.out, H.out.2.1.trans HKB3.out⟩

set_option maxRecDepth 100000 in
set_option maxHeartbeats 3200000 in
theorem steps_k4 (base q : Nat) (F : Nat → Nat → Prop) (S : Nat → Nat → Nat → Prop) (N : Nat) (rs : List Int) (ss : Nat) (x : Value) (a : Option Addr) (cap b e M : Nat) (pb pe : Nat → Nat) (w : World) (hB : Bm w base q F S N rs) (hN : N ≤ 10000) (hM : M ≤ 10000) (hFM : ∀ a b, F a b → b < M) (heM : e < M) (heN : e < N) (hbe : b < e)
    (hg : Geo b e 1 pb pe) (hFb : ∀ m j, m ≤ 1 → ¬ F (src b pe m) j) (hP : Pts w a 1 pb pe) :
    Calls Tryz.prog 62 #[.pointer (some ⟨q, 0, none⟩), .agg #[.int .u8 4, .int .u16 ss, x], .agg #[.int .i64 b, .int .i64 e], .slice a 1 cap] w fun en w' => en = .returned (.tuple #[]) ∧ Bm w' base q (fun i j => (((F i j ∨ (i = pe 0 ∧ j = pb 0)) ∨ (i = b ∧ j = pb 0)) ∨ (i = b ∧ j = e)) ∨ (i = pe 0 ∧ j = e)) S N rs ∧ Kb base w w' := by
  have H := hide (two_boxes hB 4 ss x b e)
  obtain ⟨p0, p1, p2⟩ := bxs_cells H.out.1
  obtain ⟨g, off, rfl, -, -⟩ := pts_at hP (show 0 < 1 by omega)
  have HP := hide (pts_kb H.out.2.1 hP)
  have g1 := hg.lo 0 (by omega)
  have g2 := hg.mid 0 (by omega)
  have g3 := hg.hi 0 (by omega)
  have HF := hide hFM
  have HF1 := hide (show ∀ a c, (F a c ∨ (a = pe 0 ∧ c = pb 0)) → c < M from fun a c h => by
    rcases h with h | ⟨_, rfl⟩
    · exact hFM a c h
    · omega)
  have HF2 := hide (show ∀ a c, (((F a c ∨ (a = pe 0 ∧ c = pb 0)) ∨ (a = b ∧ c = pb 0)) ∨ (a = b ∧ c = e)) → c < M from fun a c h => by
    rcases h with ((h | ⟨_, rfl⟩) | ⟨_, rfl⟩) | ⟨_, rfl⟩
    · exact hFM a c h
    · omega
    · omega
    · exact heM)
  have HZ0 := hide (show ∀ j, F (pe 0) j → j < pb 0 from fun j h => (hFb 1 j (by omega) h).elim)
  have HZ1 := hide (show ∀ i, i = b → ∀ j, (F i j ∨ (i = pe 0 ∧ j = pb 0)) → j < pb 0 from fun i hi j h => by
    subst hi
    rcases h with h | ⟨h, _⟩
    · exact (hFb 0 j (by omega) h).elim
    · omega)
  have HZ2 := hide (show ∀ i, i = pe 0 → ∀ j, (((F i j ∨ (i = pe 0 ∧ j = pb 0)) ∨ (i = b ∧ j = pb 0)) ∨ (i = b ∧ j = e)) → j < e from fun i hi j h => by
    rcases h with ((h | ⟨_, h⟩) | ⟨h, _⟩) | ⟨h, _⟩
    · subst hi; exact (hFb 1 j (by omega) h).elim
    · omega
    · omega
    · omega)
  have HPE := hide (show pe 0 < N ∧ pb 0 < e by omega)
  clear hB hFM hFb hP hg
  go_enter Tryz.func62, Tryz.ntmps62
  go_wp2_with fail
  generalize (w.alloc (.cells #[.int .u8 4, .int .u16 ss, x] 38)).alloc (.cells #[.int .i64 b, .int .i64 e] 89) = W at *
  generalize hQ : w.heap.size = P at *
  clear p0 p1 p2
  obtain ⟨⟨c1, c2⟩, c3, c4⟩ := opt_cells (Kb.refl base W) H.out.1 HP.out (by omega)
  have HBD := hide (bm_below (below_drew1 W) H.out.2.2.1)
  go_region_held3 (fun w' => w'.cell? ⟨g, off + 1, none⟩ = some (.int .i64 (pe 0 : Nat)) ∧ w'.cell? ⟨g, off, none⟩ = some (.int .i64 (pb 0 : Nat))) (first | assumption | go_keep) ((go_at_call 43; refine (free_new1 base q _ S N rs (pe 0) (pb 0) M _ W.drew rfl HBD.out hN hM HPE.out.1 HF.out HZ0.out).mono ?_; rintro en w1 ⟨rfl, h1, h2⟩; obtain ⟨⟨k1, k2⟩, k3, k4⟩ := opt_cells ((kb_drew base W).trans h2) H.out.1 HP.out (by omega); have k9 := And.intro k2 k1))
  have HB1 := hide h1
  have HKB1 := hide ((kb_drew base W).trans h2)
  clear h1 h2 k9 k1 k2 k3 k4 c1 c2 c3 c4 HBD
  go_wp2_with fail
  obtain ⟨⟨c1, c2⟩, c3, c4⟩ := opt_cells HKB1.out H.out.1 HP.out (by omega)
  have HBD := hide (bm_below (below_drew1 w1) HB1.out)
  go_region_held3 (fun w' => w'.cell? ⟨g, off, none⟩ = some (.int .i64 (pb 0 : Nat)) ∧ w'.cell? ⟨P + 1, 0, none⟩ = some (.int .i64 b) ∧ w'.cell? ⟨P + 1, 1, none⟩ = some (.int .i64 e)) (first | assumption | go_keep) ((go_at_call 43; refine (free_new2 base q _ S N rs b (pb 0) e M _ w1.drew rfl HBD.out hN hM (by omega) HF1.out (HZ1.out b rfl) HPE.out.2).mono ?_; rintro en w2 ⟨rfl, h1, h2⟩; obtain ⟨⟨k1, k2⟩, k3, k4⟩ := opt_cells (HKB1.out.trans ((kb_drew base w1).trans h2)) H.out.1 HP.out (by omega); have k9 := And.intro k1 (And.intro k3 k4)))
  have HB2 := hide h1
  have HKB2 := hide (HKB1.out.trans ((kb_drew base w1).trans h2))
  clear h1 h2 k9 k1 k2 k3 k4 c1 c2 c3 c4 HBD
  go_wp2_with fail
  obtain ⟨⟨c1, c2⟩, c3, c4⟩ := opt_cells HKB2.out H.out.1 HP.out (by omega)
  have HBD := hide (bm_below (below_drew1 w2) HB2.out)
  go_region_held3 (fun w' => w'.cell? ⟨g, off + 1, none⟩ = some (.int .i64 (pe 0 : Nat)) ∧ w'.cell? ⟨P + 1, 1, none⟩ = some (.int .i64 e)) (first | assumption | go_keep) ((go_at_call 43; refine (free_new1 base q _ S N rs (pe 0) e M _ w2.drew rfl HBD.out hN hM HPE.out.1 HF2.out (HZ2.out (pe 0) rfl)).mono ?_; rintro en w3 ⟨rfl, h1, h2⟩; obtain ⟨⟨k1, k2⟩, k3, k4⟩ := opt_cells (HKB2.out.trans ((kb_drew base w2).trans h2)) H.out.1 HP.out (by omega); have k9 := And.intro k2 k4))
  have HB3 := hide h1
  have HKB3 := hide (HKB2.out.trans ((kb_drew base w2).trans h2))
  clear h1 h2 k9 k1 k2 k3 k4 c1 c2 c3 c4 HBD
  go_wp2
  go_end0
  exact ⟨rfl, HB3.out, H.out.2.1.trans HKB3.out⟩
end Go.Proofs.YtccaknabpnpjaaaGreatDoor.A

/- The program's builder: the steps of a node that is a set. -/
namespace Go.Proofs.YtccaknabpnpjaaaGreatDoor.A
open Go.RowKit

section
variable {w : World} {base q : Nat} {v0 v1 v2 v3 : Value} {vf : List Value} {ff : List (List Int)} {ss : List Nat} {ts rs : List Int} {g c n : Nat}
theorem kb_set {cs : Array Value} {t : TypeId} {fr : Nat × Nat} {i : Nat} {u : Value} (hg : w.heap[g]? = some (.cells cs t fr)) (hlow : base ≤ g) (ht : t = 86 ∨ t = 26 ∨ t = 36 ∨ t = 3) : Kb base w (w.setCell ⟨g, i, none⟩ u) :=
  ⟨rfl, rfl, rfl, by simp, fun k hk hf => Below.heap_setCell _ _ _ _ (fun e => far_near hf ⟨by rw [show k = g from e]; exact hlow, cs, t, fr, by rw [show k = g from e]; exact hg, ht⟩)⟩
theorem bv_setS (h : Bv w base q v0 (.slice (some ⟨g, 0, none⟩) n c) v2 v3 vf ff ss ts rs) (hn : ss.length = n) (i s : Nat) :
    Bv (w.setCell ⟨g, i, none⟩ (.int .u16 s)) base q v0 (.slice (some ⟨g, 0, none⟩) n c) v2 v3 vf ff (ss.set i s) ts rs ∧ Kb base w (w.setCell ⟨g, i, none⟩ (.int .u16 s)) := by
  subst hn
  obtain ⟨hlo, hlt, cs, hg⟩ := own_type h.o1 (k := g) rfl
  have hqg : q ≠ g := fun e => by subst e; have := h.blk; rw [hg] at this; cases this
  have mv : ∀ {e : TypeId} {v : Value} {n : Nat} {xs : List Value}, w.ownsRow base e 1 v n xs → e ≠ 36 → (w.setCell ⟨g, i, none⟩ (.int .u16 s)).ownsRow base e 1 v n xs := fun hv h2 => set_far hv (own_not hv hg h2)
  refine ⟨⟨by rw [Below.heap_setCell _ _ _ _ hqg]; exact h.blk, h.low, mv h.o0 (by decide), ?_, mv h.o2 (by decide), mv h.o3 (by decide), h.len, fun j v l a b => mv (h.rows j v l a b) (by decide), h.ap⟩, kb_set hg hlo (by simp)⟩
  have := (h.o1.stored i (.int .u16 s)).1
  rw [List.length_set, List.map_set]
  exact this
theorem bv_setT (h : Bv w base q v0 v1 (.slice (some ⟨g, 0, none⟩) n c) v3 vf ff ss ts rs) (hn : ts.length = n) (i : Nat) (t : Int) :
    Bv (w.setCell ⟨g, i, none⟩ (.int .i64 t)) base q v0 v1 (.slice (some ⟨g, 0, none⟩) n c) v3 vf ff ss (ts.set i t) rs ∧ Kb base w (w.setCell ⟨g, i, none⟩ (.int .i64 t)) := by
  subst hn
  obtain ⟨hlo, hlt, cs, hg⟩ := own_type h.o2 (k := g) rfl
  have hqg : q ≠ g := fun e => by subst e; have := h.blk; rw [hg] at this; cases this
  obtain ⟨a2, a3⟩ := List.pairwise_cons.1 h.ap
  have mv : ∀ {e : TypeId} {v : Value} {n : Nat} {xs : List Value}, w.ownsRow base e 1 v n xs → Ap (.slice (some ⟨g, 0, none⟩) ts.length c) v → (w.setCell ⟨g, i, none⟩ (.int .i64 t)).ownsRow base e 1 v n xs := fun hv h2 => set_far hv (fun e => h2 g rfl e)
  refine ⟨⟨by rw [Below.heap_setCell _ _ _ _ hqg]; exact h.blk, h.low, mv h.o0 (own_types h.o2 h.o0 (by decide)), mv h.o1 (own_types h.o2 h.o1 (by decide)), ?_, mv h.o3 (a2 v3 (by simp)), h.len, fun j v l a b => mv (h.rows j v l a b) (a2 v (by simp [List.mem_of_getElem? a])), h.ap⟩, kb_set hg hlo (by simp)⟩
  have := (h.o2.stored i (.int .i64 t)).1
  rw [List.length_set, List.map_set]
  exact this
theorem bv_setR (h : Bv w base q v0 v1 v2 (.slice (some ⟨g, 0, none⟩) n c) vf ff ss ts rs) (hn : rs.length = n) (i : Nat) (t : Int) :
    Bv (w.setCell ⟨g, i, none⟩ (.int .i64 t)) base q v0 v1 v2 (.slice (some ⟨g, 0, none⟩) n c) vf ff ss ts (rs.set i t) ∧ Kb base w (w.setCell ⟨g, i, none⟩ (.int .i64 t)) := by
  subst hn
  obtain ⟨hlo, hlt, cs, hg⟩ := own_type h.o3 (k := g) rfl
  have hqg : q ≠ g := fun e => by subst e; have := h.blk; rw [hg] at this; cases this
  obtain ⟨a2, a3⟩ := List.pairwise_cons.1 h.ap
  obtain ⟨a4, a5⟩ := List.pairwise_cons.1 a3
  have mv : ∀ {e : TypeId} {v : Value} {n : Nat} {xs : List Value}, w.ownsRow base e 1 v n xs → Ap (.slice (some ⟨g, 0, none⟩) rs.length c) v → (w.setCell ⟨g, i, none⟩ (.int .i64 t)).ownsRow base e 1 v n xs := fun hv h2 => set_far hv (fun e => h2 g rfl e)
  refine ⟨⟨by rw [Below.heap_setCell _ _ _ _ hqg]; exact h.blk, h.low, mv h.o0 (own_types h.o3 h.o0 (by decide)), mv h.o1 (own_types h.o3 h.o1 (by decide)), mv h.o2 (a2 _ (by simp)).symm, ?_, h.len, fun j v l a b => mv (h.rows j v l a b) (a4 v (List.mem_of_getElem? a)), h.ap⟩, kb_set hg hlo (by simp)⟩
  have := (h.o3.stored i (.int .i64 t)).1
  rw [List.length_set, List.map_set]
  exact this
end

set_option maxRecDepth 100000 in
set_option maxHeartbeats 3200000 in
theorem steps_k1 (base q : Nat) (F : Nat → Nat → Prop) (S : Nat → Nat → Nat → Prop) (N : Nat) (rs : List Int) (ss : Nat) (x v : Value) (b e : Nat) (w : World) (hB : Bm w base q F S N rs) (hN : N ≤ 10000) (hb : b < N) (hS : ∀ s j, ¬ S b s j) :
    Calls Tryz.prog 62 #[.pointer (some ⟨q, 0, none⟩), .agg #[.int .u8 1, .int .u16 ss, x], .agg #[.int .i64 b, .int .i64 e], v] w fun en w' => en = .returned (.tuple #[]) ∧ Bm w' base q F (fun i s j => S i s j ∨ (i = b ∧ s = ss ∧ j = e)) N rs ∧ Kb base w w' := by
  have H := hide (two_boxes hB 1 ss x b e)
  obtain ⟨p0, p1, p2⟩ := bxs_cells H.out.1
  have HS := hide hS
  clear hB hS
  go_enter Tryz.func62, Tryz.ntmps62
  go_wp2_with fail
  generalize (w.alloc (.cells #[.int .u8 1, .int .u16 ss, x] 38)).alloc (.cells #[.int .i64 b, .int .i64 e] 89) = W at *
  generalize hQ : w.heap.size = P at *
  obtain ⟨ff, ss', ts, ⟨v0, v1, v2, v3, vf, hv⟩, hi, hr⟩ := H.out.2.2.1
  obtain ⟨g1, c1, rfl, hl1, hb1⟩ := hv.o1.form (by rw [hi.ls]; omega)
  obtain ⟨g2, c2, rfl, hl2, hb2⟩ := hv.o2.form (by rw [hi.lt]; omega)
  obtain ⟨⟨d0, d1, d2, d3⟩, fz⟩ := q_cells hv.blk
  have f1 := hv.o1.frozenAt b
  have f2 := hv.o2.frozenAt b
  obtain ⟨j0, j1⟩ := H.out.1
  have x1 := own_not hv.o1 hv.blk (by decide)
  have x2 := own_not hv.o2 hv.blk (by decide)
  have x3 := own_not hv.o1 j0 (by decide)
  have x4 := own_not hv.o2 j0 (by decide)
  have x5 := own_not hv.o1 j1 (by decide)
  have x6 := own_not hv.o2 j1 (by decide)
  have x7 := own_types hv.o1 hv.o2 (by decide) g1 rfl
  simp only [Value.ownBlock, ne_eq, Option.some.injEq] at x1 x2 x3 x4 x5 x6 x7
  have x7' : ¬ g1 = g2 := fun h => x7 h.symm
  have y1 : ¬ q = g1 := fun h => x1 h.symm
  have y2 : ¬ q = g2 := fun h => x2 h.symm
  have y3 : ¬ P = g1 := fun h => x3 h.symm
  have y4 : ¬ P = g2 := fun h => x4 h.symm
  have y5 : ¬ P + 1 = g1 := fun h => x5 h.symm
  have y6 : ¬ P + 1 = g2 := fun h => x6 h.symm
  have HV := hide hv
  have HI := hide hi
  have hl1 := hi.ls
  have hl2 := hi.lt
  rw [hl1] at d1
  rw [hl2] at d2
  obtain ⟨sb, hsb⟩ : ∃ sb, ss'[b]? = some sb := ⟨_, List.getElem?_eq_getElem (by omega)⟩
  obtain ⟨tb, htb⟩ : ∃ tb, ts[b]? = some tb := ⟨_, List.getElem?_eq_getElem (by omega)⟩
  have k1 : W.cell? ⟨g1, b, none⟩ = some (.int .u16 (sb : Nat)) := by
    rw [hv.o1.cellAt b (by rw [hl1]; omega)]; simp [List.getElem?_map, hsb]
  have k2 : W.cell? ⟨g2, b, none⟩ = some (.int .i64 tb) := by
    rw [hv.o2.cellAt b (by rw [hl2]; omega)]; simp [List.getElem?_map, htb]
  have HR := hide hr
  clear hv hi hr hl1 hl2 j0 j1 d0 d3 fz hsb htb
  have i3 : (0 : Int) ≤ (b : Int) := by omega
  have i4 : (b : Int) < (N : Int) := by omega
  go_region_held3 (fun w' => w'.cell? ⟨q, 1, none⟩ = some (.slice (some ⟨g1, 0, none⟩) N c1) ∧ w'.cell? ⟨q, 2, none⟩ = some (.slice (some ⟨g2, 0, none⟩) N c2) ∧ w'.cell? ⟨P, 1, none⟩ = some (.int .u16 ss) ∧ w'.cell? ⟨P + 1, 0, none⟩ = some (.int .i64 b) ∧ w'.cell? ⟨P + 1, 1, none⟩ = some (.int .i64 e)) (first | assumption | go_keep) (fail)
  all_goals
    go_wp2
    go_end0
    have q1 := bv_setS HV.out rfl b ss
    have q2 := bv_setT q1.1 rfl b (e : Int)
    exact ⟨rfl, bm_below (below_drew1 _) ⟨ff, ss'.set b ss, ts.set b (e : Int), ⟨_, _, _, _, _, q2.1⟩, is_set HI.out hb HS.out, HR.out⟩, (H.out.2.1.trans (q1.2.trans q2.2)).drew⟩
end Go.Proofs.YtccaknabpnpjaaaGreatDoor.A
