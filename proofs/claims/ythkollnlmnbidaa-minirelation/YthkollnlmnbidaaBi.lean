/- The document's Small in memory. -/
import Derived.Test.YthkollnlmnbidaaBh
namespace Go.Proofs.Ythkollnlmnbidaa.A
open Go.RowKit
set_option linter.unusedVariables false

/-- A smallest machine that is being built: states that were found, rows, rules. -/
structure Sm (w : World) (base n d : Nat) (A : Nat → Nat → Bool) (fv nv rv : Value) (fd : List Int) (S nx : List (List Int)) (ru : List Int) : Prop where
  f : w.ownsRow base 3 1 fv fd.length (fd.map (Value.int .i64))
  len : fd.length = S.length
  cls : ∀ (i : Nat) (z : Int) (s : List Int), fd[i]? = some z → S[i]? = some s → ∃ t : Nat, z = t ∧ t < n ∧ s = clsM A n t
  db : w.heap[d]? = some (.cells #[nv, rv] 25 (0, 0))
  dlow : base ≤ d
  n' : w.ownsRow base 41 16 nv nx.length (cellsR nx)
  r : w.ownsRow base 3 1 rv ru.length (ru.map (Value.int .i64))
  ap : Ap fv rv
section
variable {w w' : World} {base n d : Nat} {A : Nat → Nat → Bool} {fv nv rv : Value} {fd : List Int} {S nx : List (List Int)} {ru : List Int}
theorem sm_lt (h : Sm w base n d A fv nv rv fd S nx ru) : d < w.heap.size := (Array.getElem?_eq_some_iff.1 h.db).1
theorem sm_below (hb : Below w.heap.size w w') (h : Sm w base n d A fv nv rv fd S nx ru) : Sm w' base n d A fv nv rv fd S nx ru :=
  ⟨own_move h.f (fun k hk => hb.block k (own_type h.f hk).2.1), h.len, h.cls, (hb.block d (sm_lt h)).trans h.db, h.dlow, own_move h.n' (fun k hk => hb.block k (own_type h.n' hk).2.1), own_move h.r (fun k hk => hb.block k (own_type h.r hk).2.1), h.ap⟩
theorem sm_row {rb : Nat} {cs : Array Value} {fr : Nat × Nat} (h : Sm w base n d A fv nv rv fd S nx ru) (hb : w.heap[rb]? = some (.cells cs 41 fr)) (hne : nv.ownBlock ≠ some rb) (j : Nat) (u : Value) : Sm (w.setCell ⟨rb, j, none⟩ u) base n d A fv nv rv fd S nx ru := by
  refine ⟨set_far h.f (own_not h.f hb (by decide)), h.len, h.cls, ?_, h.dlow, set_far h.n' hne, set_far h.r (own_not h.r hb (by decide)), h.ap⟩
  rw [Below.heap_setCell _ _ _ _ (fun q => by
    have q' : d = rb := q
    rw [← q', h.db] at hb
    cases hb)]
  exact h.db
theorem sm_app {o : Obj} {g cap t : Nat} (h : Sm w base n d A fv nv rv fd S nx ru) (ht : t < n) (hg : (w.alloc o).grownBy w' fv.ownBlock) (ho : w'.ownsRow base 3 1 (.slice (some ⟨g, 0, none⟩) (fd.length + 1) cap) (fd.length + 1) (fd.map (Value.int .i64) ++ [.int .i64 (t : Int)])) (hat : fv.ownBlock = some g ∨ w.heap.size ≤ g) :
    Sm w' base n d A (.slice (some ⟨g, 0, none⟩) (fd.length + 1) cap) nv rv (fd ++ [(t : Int)]) (S ++ [clsM A n t]) nx ru := by
  have old : ∀ k, k < w.heap.size → fv.ownBlock ≠ some k → w'.heap[k]? = w.heap[k]? := fun k hk hc => by
    rw [hg.block k (by simp; omega) (fun e => hc e.symm), Below.heap_alloc _ _ _ hk]
  refine ⟨by rw [List.length_append, List.map_append]; exact ho, by simp [h.len], fun i z s a b => ?_, (old d (sm_lt h) (own_not h.f h.db (by decide))).trans h.db, h.dlow, own_move h.n' (fun k hk => old k (own_type h.n' hk).2.1 (fun e => own_types h.n' h.f (by decide) k hk e)), own_move h.r (fun k hk => old k (own_type h.r hk).2.1 (fun e => h.ap k e hk)), fun k h1 h2 => ?_⟩
  · by_cases c : i < fd.length
    · rw [List.getElem?_append_left c] at a
      rw [List.getElem?_append_left (by rw [← h.len]; exact c)] at b
      exact h.cls i z s a b
    · rw [List.getElem?_append_right (by omega)] at a
      rw [List.getElem?_append_right (by rw [← h.len]; omega)] at b
      have e1 : i - fd.length = 0 := by have := (List.getElem?_eq_some_iff.1 a).1; simp at this; omega
      rw [e1] at a
      rw [← h.len, e1] at b
      have a' : (t : Int) = z := by simpa using a
      have b' : clsM A n t = s := by simpa using b
      exact ⟨t, a'.symm, ht, b'.symm⟩
  · simp only [Value.ownBlock, Option.some.injEq] at h1
    subst h1
    rcases hat with q | q
    · exact h.ap g q h2
    · have := (own_type h.r h2).2.1
      omega
theorem sm_next {o : Obj} {g cap : Nat} {l : List Int} (h : Sm w base n d A fv nv rv fd S nx ru) (hg : (w.alloc o).grownBy w' nv.ownBlock) (ho : w'.ownsRow base 41 16 (.slice (some ⟨g, 0, none⟩) (nx.length + 1) cap) (nx.length + 1) (cellsR nx ++ cI l)) :
    Sm (w'.setCell ⟨d, 0, none⟩ (.slice (some ⟨g, 0, none⟩) (nx.length + 1) cap)) base n d A fv (.slice (some ⟨g, 0, none⟩) (nx.length + 1) cap) rv fd S (nx ++ [l]) ru := by
  have hdl := sm_lt h
  have hnd : nv.ownBlock ≠ some d := own_not h.n' h.db (by decide)
  have hd1 : w'.heap[d]? = some (.cells #[nv, rv] 25 (0, 0)) := by
    rw [hg.block d (by simp; omega) (fun e => hnd e.symm), Below.heap_alloc _ _ _ hdl]; exact h.db
  have old : ∀ k, k < w.heap.size → k ≠ d → nv.ownBlock ≠ some k → (w'.setCell ⟨d, 0, none⟩ (.slice (some ⟨g, 0, none⟩) (nx.length + 1) cap)).heap[k]? = w.heap[k]? := fun k hk h1 h2 => by
    rw [Below.heap_setCell _ _ _ _ h1, hg.block k (by simp; omega) (fun e => h2 e.symm), Below.heap_alloc _ _ _ hk]
  refine ⟨own_move h.f (fun k hk => old k (own_type h.f hk).2.1 (fun e => own_not h.f h.db (by decide) (e ▸ hk)) (fun e => own_types h.f h.n' (by decide) k hk e)), h.len, h.cls, by rw [blk_set hd1 0 _]; rfl, h.dlow, ?_, own_move h.r (fun k hk => old k (own_type h.r hk).2.1 (fun e => own_not h.r h.db (by decide) (e ▸ hk)) (fun e => own_types h.r h.n' (by decide) k hk e)), h.ap⟩
  rw [List.length_append, cellsR_app]
  have e : cellsR [l] = cI l := by simp [cellsR]
  rw [e]
  exact set_far ho (own_not ho hd1 (by decide))
theorem sm_rule {o : Obj} {g cap : Nat} {z : Int} (h : Sm w base n d A fv nv rv fd S nx ru) (hg : (w.alloc o).grownBy w' rv.ownBlock) (ho : w'.ownsRow base 3 1 (.slice (some ⟨g, 0, none⟩) (ru.length + 1) cap) (ru.length + 1) (ru.map (Value.int .i64) ++ [.int .i64 z])) (hat : rv.ownBlock = some g ∨ w.heap.size ≤ g) :
    Sm (w'.setCell ⟨d, 1, none⟩ (.slice (some ⟨g, 0, none⟩) (ru.length + 1) cap)) base n d A fv nv (.slice (some ⟨g, 0, none⟩) (ru.length + 1) cap) fd S nx (ru ++ [z]) := by
  have hdl := sm_lt h
  have hnd : rv.ownBlock ≠ some d := own_not h.r h.db (by decide)
  have hd1 : w'.heap[d]? = some (.cells #[nv, rv] 25 (0, 0)) := by
    rw [hg.block d (by simp; omega) (fun e => hnd e.symm), Below.heap_alloc _ _ _ hdl]; exact h.db
  have old : ∀ k, k < w.heap.size → k ≠ d → rv.ownBlock ≠ some k → (w'.setCell ⟨d, 1, none⟩ (.slice (some ⟨g, 0, none⟩) (ru.length + 1) cap)).heap[k]? = w.heap[k]? := fun k hk h1 h2 => by
    rw [Below.heap_setCell _ _ _ _ h1, hg.block k (by simp; omega) (fun e => h2 e.symm), Below.heap_alloc _ _ _ hk]
  refine ⟨own_move h.f (fun k hk => old k (own_type h.f hk).2.1 (fun e => own_not h.f h.db (by decide) (e ▸ hk)) (fun e => h.ap k hk e)), h.len, h.cls, by rw [blk_set hd1 1 _]; rfl, h.dlow, own_move h.n' (fun k hk => old k (own_type h.n' hk).2.1 (fun e => own_not h.n' h.db (by decide) (e ▸ hk)) (fun e => own_types h.n' h.r (by decide) k hk e)), ?_, fun k h1 h2 => ?_⟩
  · rw [List.length_append, List.map_append]
    exact set_far ho (own_not ho hd1 (by decide))
  · simp only [Value.ownBlock, Option.some.injEq] at h2
    subst h2
    rcases hat with q | q
    · exact h.ap g h1 q
    · have := (own_type h.f h1).2.1
      omega
end
end Go.Proofs.Ythkollnlmnbidaa.A
