/- The document's Build in memory: tables of states, rows and rules. -/
import Derived.Test.YtccaknabpnpjaaaGreatDoorPk22
import Derived.Test.YtccaknabpnpjaaaGreatDoorEa
namespace Go.Proofs.YtccaknabpnpjaaaGreatDoor.A
open Go.RowKit
set_option linter.unusedVariables false

/-- A machine that is being built, its sets as tables. -/
structure By (w : World) (base N d : Nat) (sv nv rv : Value) (vs : List Value) (S nx : List (List Int)) (ru : List Int) : Prop where
  own : w.ownsRow base 68 1 sv vs.length vs
  len : vs.length = S.length
  set : ∀ (i : Nat) (v : Value) (s : List Int), vs[i]? = some v → S[i]? = some s → ∃ F g, v = .slice (some ⟨F, 0, none⟩) N N ∧ Mk w F N g ∧ s = lstL g N
  db : w.heap[d]? = some (.cells #[nv, rv] 28 (0, 0))
  dlow : base ≤ d
  n : w.ownsRow base 63 16 nv nx.length (cellsR nx)
  r : w.ownsRow base 3 1 rv ru.length (ru.map (Value.int .i64))
section
variable {w w' : World} {base N d : Nat} {sv nv rv : Value} {vs : List Value} {S nx : List (List Int)} {ru : List Int}
theorem by_lt (h : By w base N d sv nv rv vs S nx ru) : d < w.heap.size := (Array.getElem?_eq_some_iff.1 h.db).1
theorem by_below (hb : Below w.heap.size w w') (h : By w base N d sv nv rv vs S nx ru) : By w' base N d sv nv rv vs S nx ru :=
  ⟨own_move h.own (fun k hk => hb.block k (own_type h.own hk).2.1), h.len, fun i v s a b => by
    obtain ⟨F, g, e, hm, e'⟩ := h.set i v s a b
    exact ⟨F, g, e, (hb.block F (mk_lt hm)).trans hm, e'⟩, (hb.block d (by_lt h)).trans h.db, h.dlow, own_move h.n (fun k hk => hb.block k (own_type h.n hk).2.1), own_move h.r (fun k hk => hb.block k (own_type h.r hk).2.1)⟩
/-- A cell of a row of one's own. -/
theorem by_row {rb : Nat} {cs : Array Value} {fr : Nat × Nat} (h : By w base N d sv nv rv vs S nx ru) (hb : w.heap[rb]? = some (.cells cs 63 fr)) (hne : nv.ownBlock ≠ some rb) (j : Nat) (u : Value) : By (w.setCell ⟨rb, j, none⟩ u) base N d sv nv rv vs S nx ru := by
  refine ⟨set_far h.own (own_not h.own hb (by decide)), h.len, fun i v s a b => ?_, ?_, h.dlow, set_far h.n hne, set_far h.r (own_not h.r hb (by decide))⟩
  · obtain ⟨F, g, e, hm, e'⟩ := h.set i v s a b
    refine ⟨F, g, e, mk_other hm (fun q => ?_) j u, e'⟩
    subst q
    unfold Mk at hm
    rw [hb] at hm
    simp at hm
  · rw [Below.heap_setCell _ _ _ _ (fun q => by
      have q' : d = rb := q
      rw [← q', h.db] at hb
      cases hb)]
    exact h.db
/-- A set more. -/
theorem by_app {o : Obj} {g cap F : Nat} {gg : Nat → Bool} (h : By w base N d sv nv rv vs S nx ru) (hm : Mk w F N gg) (hg : (w.alloc o).grownBy w' sv.ownBlock) (ho : w'.ownsRow base 68 1 (.slice (some ⟨g, 0, none⟩) (vs.length + 1) cap) (vs.length + 1) (vs ++ [.slice (some ⟨F, 0, none⟩) N N])) :
    By w' base N d (.slice (some ⟨g, 0, none⟩) (vs.length + 1) cap) nv rv (vs ++ [.slice (some ⟨F, 0, none⟩) N N]) (S ++ [lstL gg N]) nx ru := by
  have old : ∀ k, k < w.heap.size → sv.ownBlock ≠ some k → w'.heap[k]? = w.heap[k]? := fun k hk hc => by
    rw [hg.block k (by simp; omega) (fun e => hc e.symm), Below.heap_alloc _ _ _ hk]
  have mk : ∀ {F : Nat} {g : Nat → Bool}, Mk w F N g → Mk w' F N g := fun hm => (old _ (mk_lt hm) (own_not h.own hm (by decide))).trans hm
  refine ⟨by rw [List.length_append]; exact ho, by simp [h.len], fun i v s a b => ?_, (old d (by_lt h) (own_not h.own h.db (by decide))).trans h.db, h.dlow, own_move h.n (fun k hk => old k (own_type h.n hk).2.1 (fun e => own_types h.n h.own (by decide) k hk e)), own_move h.r (fun k hk => old k (own_type h.r hk).2.1 (fun e => own_types h.r h.own (by decide) k hk e))⟩
  by_cases c : i < vs.length
  · rw [List.getElem?_append_left c] at a
    rw [List.getElem?_append_left (by rw [← h.len]; exact c)] at b
    obtain ⟨F', g', e, hm', e'⟩ := h.set i v s a b
    exact ⟨F', g', e, mk hm', e'⟩
  · rw [List.getElem?_append_right (by omega)] at a
    rw [List.getElem?_append_right (by rw [← h.len]; omega)] at b
    have e1 : i - vs.length = 0 := by have := (List.getElem?_eq_some_iff.1 a).1; simp at this; omega
    rw [e1] at a
    rw [← h.len, e1] at b
    have a' : .slice (some ⟨F, 0, none⟩) N N = v := by simpa using a
    have b' : lstL gg N = s := by simpa using b
    exact ⟨F, gg, a'.symm, mk hm, b'.symm⟩
/-- A row more. -/
theorem by_next {o : Obj} {g cap : Nat} {l : List Int} (h : By w base N d sv nv rv vs S nx ru) (hg : (w.alloc o).grownBy w' nv.ownBlock) (ho : w'.ownsRow base 63 16 (.slice (some ⟨g, 0, none⟩) (nx.length + 1) cap) (nx.length + 1) (cellsR nx ++ cI l)) :
    By (w'.setCell ⟨d, 0, none⟩ (.slice (some ⟨g, 0, none⟩) (nx.length + 1) cap)) base N d sv (.slice (some ⟨g, 0, none⟩) (nx.length + 1) cap) rv vs S (nx ++ [l]) ru := by
  have hdl := by_lt h
  have hnd : nv.ownBlock ≠ some d := own_not h.n h.db (by decide)
  have hd1 : w'.heap[d]? = some (.cells #[nv, rv] 28 (0, 0)) := by
    rw [hg.block d (by simp; omega) (fun e => hnd e.symm), Below.heap_alloc _ _ _ hdl]; exact h.db
  have old : ∀ k, k < w.heap.size → k ≠ d → nv.ownBlock ≠ some k → (w'.setCell ⟨d, 0, none⟩ (.slice (some ⟨g, 0, none⟩) (nx.length + 1) cap)).heap[k]? = w.heap[k]? := fun k hk h1 h2 => by
    rw [Below.heap_setCell _ _ _ _ h1, hg.block k (by simp; omega) (fun e => h2 e.symm), Below.heap_alloc _ _ _ hk]
  refine ⟨own_move h.own (fun k hk => old k (own_type h.own hk).2.1 (fun e => own_not h.own h.db (by decide) (e ▸ hk)) (fun e => own_types h.own h.n (by decide) k hk e)), h.len, fun i v s a b => ?_, by rw [blk_set hd1 0 _]; rfl, h.dlow, ?_, own_move h.r (fun k hk => old k (own_type h.r hk).2.1 (fun e => own_not h.r h.db (by decide) (e ▸ hk)) (fun e => own_types h.r h.n (by decide) k hk e))⟩
  · obtain ⟨F, g', e, hm, e'⟩ := h.set i v s a b
    refine ⟨F, g', e, (old F (mk_lt hm) (fun q => ?_) (own_not h.n hm (by decide))).trans hm, e'⟩
    subst q
    unfold Mk at hm
    rw [h.db] at hm
    simp at hm
  · rw [List.length_append, cellsR_app]
    have e : cellsR [l] = cI l := by simp [cellsR]
    rw [e]
    exact set_far ho (own_not ho hd1 (by decide))
/-- A rule more. -/
theorem by_rule {o : Obj} {g cap : Nat} {z : Int} (h : By w base N d sv nv rv vs S nx ru) (hg : (w.alloc o).grownBy w' rv.ownBlock) (ho : w'.ownsRow base 3 1 (.slice (some ⟨g, 0, none⟩) (ru.length + 1) cap) (ru.length + 1) (ru.map (Value.int .i64) ++ [.int .i64 z])) :
    By (w'.setCell ⟨d, 1, none⟩ (.slice (some ⟨g, 0, none⟩) (ru.length + 1) cap)) base N d sv nv (.slice (some ⟨g, 0, none⟩) (ru.length + 1) cap) vs S nx (ru ++ [z]) := by
  have hdl := by_lt h
  have hnd : rv.ownBlock ≠ some d := own_not h.r h.db (by decide)
  have hd1 : w'.heap[d]? = some (.cells #[nv, rv] 28 (0, 0)) := by
    rw [hg.block d (by simp; omega) (fun e => hnd e.symm), Below.heap_alloc _ _ _ hdl]; exact h.db
  have old : ∀ k, k < w.heap.size → k ≠ d → rv.ownBlock ≠ some k → (w'.setCell ⟨d, 1, none⟩ (.slice (some ⟨g, 0, none⟩) (ru.length + 1) cap)).heap[k]? = w.heap[k]? := fun k hk h1 h2 => by
    rw [Below.heap_setCell _ _ _ _ h1, hg.block k (by simp; omega) (fun e => h2 e.symm), Below.heap_alloc _ _ _ hk]
  refine ⟨own_move h.own (fun k hk => old k (own_type h.own hk).2.1 (fun e => own_not h.own h.db (by decide) (e ▸ hk)) (fun e => own_types h.own h.r (by decide) k hk e)), h.len, fun i v s a b => ?_, by rw [blk_set hd1 1 _]; rfl, h.dlow, own_move h.n (fun k hk => old k (own_type h.n hk).2.1 (fun e => own_not h.n h.db (by decide) (e ▸ hk)) (fun e => own_types h.n h.r (by decide) k hk e)), ?_⟩
  · obtain ⟨F, g', e, hm, e'⟩ := h.set i v s a b
    refine ⟨F, g', e, (old F (mk_lt hm) (fun q => ?_) (own_not h.r hm (by decide))).trans hm, e'⟩
    subst q
    unfold Mk at hm
    rw [h.db] at hm
    simp at hm
  · rw [List.length_append, List.map_append]
    exact set_far ho (own_not ho hd1 (by decide))
end
theorem own_one (w : World) (base : Nat) (v : Value) (t : TypeId) (hb : base ≤ w.heap.size) : (w.alloc (.cells #[v] t)).ownsRow base t 1 (.slice (some ⟨w.heap.size, 0, none⟩) 1 1) 1 [v] :=
  ⟨rfl, .inr ⟨w.heap.size, 1, #[v], rfl, hb, heap_alloc_last w _, Nat.le_refl _, by unfold maxLen; omega, rfl, rfl⟩⟩

/-- Is any of the first k marks set? -/
def anyM (o : Nat → Bool) (k : Nat) : Bool := (List.range k).any o
theorem anyM_step (o : Nat → Bool) (k : Nat) : anyM o (k + 1) = (anyM o k || o k) := by simp [anyM, List.range_succ]
theorem tr_at {fs : List (List Int)} {ss : List Nat} {ts : List Int} {N : Nat} {tr : List Int → Nat → List Int} (ht : TrS fs ss ts N tr) {g h : Nat → Bool} {c : Nat} (hc : c < 16) (hcl : IsCl fs N (stpB ss ts (c : Int) g N) h) : tr (lstL g N) c = lstL h N := by
  obtain ⟨h', h1, h2⟩ := ht g c hc
  rw [h2]
  exact lst_congr (isCl_one h1 hcl)
theorem tr_nil {fs : List (List Int)} {ss : List Nat} {ts : List Int} {N : Nat} {tr : List Int → Nat → List Int} (ht : TrS fs ss ts N tr) {g : Nat → Bool} {c : Nat} (hc : c < 16) (hno : anyM (stpB ss ts (c : Int) g N) N = false) : tr (lstL g N) c = [] := by
  obtain ⟨h', h1, h2⟩ := ht g c hc
  rw [h2]
  refine cl_none (isCl_congr (o' := fun _ => false) (fun j hj => ?_) h1) (fun _ => rfl)
  unfold anyM at hno
  rw [List.any_eq_false] at hno
  simpa using hno j (List.mem_range.2 hj)
theorem tr_some {fs : List (List Int)} {ss : List Nat} {ts : List Int} {N : Nat} {g h : Nat → Bool} {c : Nat} (hcl : IsCl fs N (stpB ss ts (c : Int) g N) h) (hyes : anyM (stpB ss ts (c : Int) g N) N = true) : lstL h N ≠ [] := fun e => by
  unfold anyM at hyes
  rw [List.any_eq_true] at hyes
  obtain ⟨j, hj, hs⟩ := hyes
  have hj' := List.mem_range.1 hj
  have : ((j : Nat) : Int) ∈ lstL h N := (lst_mem h N _).2 ⟨j, rfl, hj', (hcl j hj').2 (.here hj' hs)⟩
  rw [e] at this
  cases this

/-- What is told of a set among the first k: the first one that is it, or that none is. -/
def Seen (S : List (List Int)) (t : List Int) (k : Nat) (z : Int) : Prop :=
  (z = -1 ∧ ∀ i, i < k → S[i]? ≠ some t) ∨ ∃ i : Nat, z = i ∧ i < k ∧ S[i]? = some t ∧ ∀ j, j < i → S[j]? ≠ some t
theorem seen_zero (S : List (List Int)) (t : List Int) : Seen S t 0 (-1) := .inl ⟨rfl, fun i hi => by omega⟩
theorem seen_no {S : List (List Int)} {t s : List Int} {k : Nat} (h : Seen S t k (-1)) (hs : S[k]? = some s) (hne : s ≠ t) : Seen S t (k + 1) (-1) := by
  rcases h with ⟨_, h⟩ | ⟨i, e, _⟩
  · refine .inl ⟨rfl, fun i hi => ?_⟩
    by_cases c : i < k
    · exact h i c
    · have : i = k := by omega
      subst this
      rw [hs]
      exact fun e => hne (Option.some.inj e)
  · omega
theorem seen_yes {S : List (List Int)} {t : List Int} {k : Nat} (h : Seen S t k (-1)) (hs : S[k]? = some t) : Seen S t (k + 1) (k : Int) := by
  rcases h with ⟨_, h⟩ | ⟨i, e, _⟩
  · exact .inr ⟨k, rfl, by omega, hs, h⟩
  · omega
theorem seen_end {S : List (List Int)} {t : List Int} (ht : t ≠ []) (h : Seen S t S.length (-1)) : findF S t = (S ++ [t], ((S.length : Nat) : Int)) := by
  rcases h with ⟨_, h⟩ | ⟨i, e, _⟩
  · unfold findF
    rw [if_neg ht, if_neg]
    intro hm
    obtain ⟨i, hi, e⟩ := List.getElem_of_mem hm
    exact h i hi (by rw [List.getElem?_eq_getElem hi, e])
  · omega
theorem seen_found {S : List (List Int)} {t : List Int} (ht : t ≠ []) {k : Nat} {z : Int} (hz : 0 ≤ z) (h : Seen S t k z) : findF S t = (S, z) := by
  rcases h with ⟨e, _⟩ | ⟨i, rfl, _, hi, hno⟩
  · omega
  · have hm := List.mem_of_getElem? hi
    unfold findF
    rw [if_neg ht, if_pos hm]
    have hil := (List.getElem?_eq_some_iff.1 hi).1
    have h1 : S.idxOf t ≤ i := by
      rcases Nat.lt_or_ge i (S.idxOf t) with c | c
      · have h2 := List.not_of_lt_findIdx (p := (· == t)) (xs := S) (i := i) (by simpa [List.idxOf] using c)
        rw [List.getElem?_eq_getElem hil] at hi
        have h3 := Option.some.inj hi
        simp [h3] at h2
      · exact c
    have h2 : i ≤ S.idxOf t := by
      rcases Nat.lt_or_ge (S.idxOf t) i with c | c
      · have hl : S.idxOf t < S.length := List.idxOf_lt_length_iff.2 hm
        have h3 : S[S.idxOf t] = t := List.getElem_idxOf hl
        exact absurd (by rw [List.getElem?_eq_getElem hl, h3]) (hno _ c)
      · exact c
    have : S.idxOf t = i := by omega
    rw [this]
theorem seen_rng {S : List (List Int)} {t : List Int} {k : Nat} {z : Int} (h : Seen S t k z) : -1 ≤ z ∧ z < (k : Int) := by
  rcases h with ⟨rfl, _⟩ | ⟨i, rfl, h, _⟩
  · omega
  · omega

/-- A row of 16 numbers in a block of its own. -/
def Rg (w : World) (rb : Nat) (f : Nat → Int) : Prop := w.heap[rb]? = some (.cells (rowG f) 63 (0, 0))
theorem rg_cell {w : World} {rb m : Nat} {f : Nat → Int} (h : Rg w rb f) (hm : m < 16) : w.cell? ⟨rb, m, none⟩ = some (.int .i64 (f m)) ∧ w.frozen? ⟨rb, m, none⟩ = false := by
  constructor
  · rw [cell_of_row _ _ _ _ _ _ h, rowG_at _ _ hm]
  · unfold Rg at h; simp [World.frozen?, h]
theorem rg_set {w : World} {rb m : Nat} {f : Nat → Int} (h : Rg w rb f) (hm : m < 16) (z : Int) : Rg (w.setCell ⟨rb, m, none⟩ (.int .i64 z)) rb (fun i => if i = m then z else f i) := by
  unfold Rg at h ⊢
  rw [blk_set h, rowG_set _ _ _ hm]
theorem rg_congr {w : World} {rb : Nat} {f f' : Nat → Int} (h : Rg w rb f) (e : ∀ j, j < 16 → f j = f' j) : Rg w rb f' := by
  unfold Rg; rw [← rowG_congr e]; exact h
theorem rg_below {w w' : World} {rb : Nat} {f : Nat → Int} (hb : Below w.heap.size w w') (h : Rg w rb f) : Rg w' rb f := (hb.block rb (Array.getElem?_eq_some_iff.1 h).1).trans h
theorem rg_lt {w : World} {rb : Nat} {f : Nat → Int} (h : Rg w rb f) : rb < w.heap.size := (Array.getElem?_eq_some_iff.1 h).1
theorem rg_range {w : World} {rb : Nat} {row : List Int} (h : Rg w rb (fnL row)) (hl : row.length = 16) : w.rangeAt rb 0 (cI row) := fun j v hj => by
  rw [cell_of_row _ _ _ _ _ _ h, rowG_list hl, Nat.zero_add]
  simpa [cI] using hj
theorem fnL_app {l : List Int} {m : Nat} (hl : l.length = m) (z : Int) (j : Nat) (hj : j < 16) : fnL (l ++ [z]) j = if j = m then z else fnL l j := by
  unfold fnL
  rw [List.getD_eq_getElem?_getD, List.getD_eq_getElem?_getD]
  by_cases e : j = m
  · subst e; rw [if_pos rfl, List.getElem?_append_right (by omega), hl, Nat.sub_self]; rfl
  · rw [if_neg e]
    by_cases e2 : j < m
    · rw [List.getElem?_append_left (by omega)]
    · rw [List.getElem?_eq_none (by rw [List.length_append, hl]; simp; omega), List.getElem?_eq_none (by omega)]
theorem row_step {tr : List Int → Nat → List Int} {s : List Int} {S S' : List (List Int)} {m : Nat} {z : Int} (h : findF (rowF tr s S m).1 (tr s m) = (S', z)) : rowF tr s S (m + 1) = (S', (rowF tr s S m).2 ++ [z]) := by
  show ((findF (rowF tr s S m).1 (tr s m)).1, (rowF tr s S m).2 ++ [(findF (rowF tr s S m).1 (tr s m)).2]) = _
  rw [h]
theorem find_none (S : List (List Int)) {t : List Int} (h : t = []) : findF S t = (S, -1) := by unfold findF; rw [if_pos h]
/-- A row's block, behind a step. -/
theorem rg_step {w : World} {rb m : Nat} {tr : List Int → Nat → List Int} {s : List Int} {S S' : List (List Int)} {f : Nat → Int} {z : Int} (hf : findF (rowF tr s S m).1 (tr s m) = (S', z)) (h : Rg w rb f) (e : ∀ j, j < 16 → f j = if j = m then z else fnL (rowF tr s S m).2 j) : Rg w rb (fnL (rowF tr s S (m + 1)).2) := by
  rw [row_step hf]
  exact rg_congr h fun j hj => by rw [e j hj]; exact (fnL_app (row_len tr s S m) z j hj).symm
end Go.Proofs.YtccaknabpnpjaaaGreatDoor.A
