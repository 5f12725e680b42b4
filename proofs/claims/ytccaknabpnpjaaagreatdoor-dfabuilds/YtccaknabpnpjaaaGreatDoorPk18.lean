/- One machine, told twice: its lists are one. -/
import Derived.Test.YtccaknabpnpjaaaGreatDoorPk16
import Derived.Test.YtccaknabpnpjaaaGreatDoorPk17
namespace Go.Proofs.YtccaknabpnpjaaaGreatDoor.A
open Go.RowKit

theorem is_one {n : Nat} {l : List (Ex n)} {N : Nat} {fs fs' : List (List Int)} {ss ss' : List Nat} {ts ts' : List Int} (hf : ∀ x ∈ l, full n x) (hsh : ∀ x ∈ l, shapesE n x = true) (h : Is (FrA l) (SpA l) N fs ss ts) (h' : Is (FrA l) (SpA l) N fs' ss' ts') : fs = fs' ∧ ss = ss' ∧ ts = ts' := by
  have e1 : fs = fs' := List.ext_getElem (by rw [h.lf, h'.lf]) (fun i h1 h2 => by
    have a := List.getElem?_eq_getElem h1
    have b := List.getElem?_eq_getElem h2
    exact rising_eq (h.up i _ a) (h'.up i _ b) (fun z => (h.mem i _ a z).trans (h'.mem i _ b z).symm))
  have key : ∀ i (h1 : i < ss.length) (h2 : i < ts.length) (h3 : i < ss'.length) (h4 : i < ts'.length), ss[i] = ss'[i] ∧ ts[i] = ts'[i] := fun i h1 h2 h3 h4 => by
    rcases h.set i _ _ (List.getElem?_eq_getElem h1) (List.getElem?_eq_getElem h2) with ⟨j, a, b⟩ | ⟨a, b, c⟩
    · rcases h'.set i _ _ (List.getElem?_eq_getElem h3) (List.getElem?_eq_getElem h4) with ⟨j', a', b'⟩ | ⟨a', _⟩
      · obtain ⟨e, e'⟩ := spa_one hf hsh a a'
        exact ⟨e, by rw [b, b', e']⟩
      · exact absurd a (a' _ _)
    · rcases h'.set i _ _ (List.getElem?_eq_getElem h3) (List.getElem?_eq_getElem h4) with ⟨j', a', b'⟩ | ⟨_, b', c'⟩
      · exact absurd a' (a _ _)
      · exact ⟨by rw [b, b'], by rw [c, c']⟩
  refine ⟨e1, List.ext_getElem (by rw [h.ls, h'.ls]) (fun i h1 h2 => (key i h1 (by rw [h.lt, ← h.ls]; exact h1) h2 (by rw [h'.lt, ← h'.ls]; exact h2)).1), List.ext_getElem (by rw [h.lt, h'.lt]) (fun i h1 h2 => (key i (by rw [h.ls, ← h.lt]; exact h1) h1 (by rw [h'.ls, ← h'.lt]; exact h2) h2).2)⟩
theorem rs_one {n : Nat} {l : List (Ex n)} {k : Nat} {rs rs' : List Int} (hf : ∀ x ∈ l, full n x) (hl : rs.length = rs'.length) (h : RsI l k rs) (h' : RsI l k rs') : rs = rs' :=
  List.ext_getElem hl (fun i h1 h2 => by
    rcases h i _ (List.getElem?_eq_getElem h1) with ⟨m, p, hm, hp, e, e2⟩ | ⟨a, b⟩
    · rcases h' i _ (List.getElem?_eq_getElem h2) with ⟨m', p', hm', hp', e', e2'⟩ | ⟨a', _⟩
      · rw [e2, e2', en_inj hf hp hp' (e.symm.trans e')]
      · exact absurd e (a' m p hm hp)
    · rcases h' i _ (List.getElem?_eq_getElem h2) with ⟨m', p', hm', hp', e', e2'⟩ | ⟨_, b'⟩
      · exact absurd e' (a m' p' hm' hp')
      · rw [b, b'])

end Go.Proofs.YtccaknabpnpjaaaGreatDoor.A

/- Expressions that are not too great have few levels. -/
namespace Go.Proofs.YtccaknabpnpjaaaGreatDoor.A
open Go.RowKit Go.ChangeShapes Go.WideShapes Go.Deep

/-- An expression that is not too great has no more levels than were looked at. -/
theorem rx_trim {w : World} : ∀ (m n : Nat) (t : Ex n) (v : Value), Rx w n t v → greatE n t m = false → ∃ t' : Ex m, Rx w m t' v
  | _, 0, _, _, h, _ => h.elim
  | 0, n + 1, t, _, _, hg => by unfold greatE at hg; simp at hg
  | m + 1, n + 1, t, v, ⟨a, len, cap, h1, h2, h3, h4, h5, h6, h7⟩, hg => by
    have hk : ∀ x ∈ ks t, greatE n x m = false := fun x hx => by
      unfold greatE at hg
      simp only [Bool.or_eq_false_iff] at hg
      have := hg.2.2
      rw [Bool.eq_false_iff, ne_eq, List.any_eq_true] at this
      cases hq : greatE n x m with
      | false => rfl
      | true => exact (this ⟨x, hx, hq⟩).elim
    rcases h7 with h7 | ⟨b, off, e, h7⟩
    · exact ⟨(kd t, st t, []), a, len, cap, h1, h2, h3, h4, h5, h7.symm, .inl h7⟩
    · have each : ∀ i, i < len → ∃ y : Ex m, ∃ c0 c1 c2, w.cell? ⟨b, off + i * 3, none⟩ = some c0 ∧ w.cell? ⟨b, off + i * 3 + 1, none⟩ = some c1 ∧ w.cell? ⟨b, off + i * 3 + 2, none⟩ = some c2 ∧ Rx w m y (.agg #[c0, c1, c2]) := by
        intro i hi
        have hx : (ks t)[i]? = some ((ks t)[i]'(by omega)) := by simp
        obtain ⟨c0, c1, c2, p0, p1, p2, p3⟩ := h7 i _ hx
        obtain ⟨y, hy⟩ := rx_trim m n _ _ p3 (hk _ (List.mem_of_getElem? hx))
        exact ⟨y, c0, c1, c2, p0, p1, p2, hy⟩
      obtain ⟨g, hgf⟩ := @choose_lt (Ex m) ⟨exI m⟩ len _ each
      refine ⟨(kd t, st t, (List.range len).map g), a, len, cap, h1, h2, h3, h4, h5, ?_, .inr ⟨b, off, e, fun i y hy => ?_⟩⟩
      · show ((List.range len).map g).length = len
        simp
      · have hy' : ((List.range len).map g)[i]? = some y := hy
        have hi : i < len := by have := (List.getElem?_eq_some_iff.1 hy').1; simpa using this
        simp only [List.getElem?_map, List.getElem?_range hi, Option.map_some, Option.some.injEq] at hy'
        subst hy'
        exact hgf i hi
theorem exs_trim {w : World} {n : Nat} {a : Option Addr} {l : List (Ex n)} (h : Exs w n a l) (hg : greatL l = false) : ∃ l' : List (Ex 20), Exs w 20 a l' ∧ l'.length = l.length := by
  unfold greatL at hg
  rw [Bool.or_eq_false_iff] at hg
  have hk : ∀ x ∈ l, greatE n x 20 = false := fun x hx => by
    have := hg.2
    rw [Bool.eq_false_iff, ne_eq, List.any_eq_true] at this
    cases hq : greatE n x 20 with
    | false => rfl
    | true => exact (this ⟨x, hx, hq⟩).elim
  have each : ∀ i, i < l.length → ∃ y : Ex 20, ∃ b off c0 c1 c2, a = some ⟨b, off, none⟩ ∧ w.cell? ⟨b, off + i * 3, none⟩ = some c0 ∧ w.cell? ⟨b, off + i * 3 + 1, none⟩ = some c1 ∧ w.cell? ⟨b, off + i * 3 + 2, none⟩ = some c2 ∧ Rx w 20 y (.agg #[c0, c1, c2]) := by
    intro i hi
    have hx : l[i]? = some l[i] := List.getElem?_eq_getElem hi
    obtain ⟨b, off, c0, c1, c2, e, p0, p1, p2, p3⟩ := h i _ hx
    obtain ⟨y, hy⟩ := rx_trim 20 n _ _ p3 (hk _ (List.getElem_mem hi))
    exact ⟨y, b, off, c0, c1, c2, e, p0, p1, p2, hy⟩
  obtain ⟨g, hgf⟩ := @choose_lt (Ex 20) ⟨exI 20⟩ l.length _ each
  refine ⟨(List.range l.length).map g, fun i y hy => ?_, by simp⟩
  have hi : i < l.length := by have := (List.getElem?_eq_some_iff.1 hy).1; simpa using this
  simp only [List.getElem?_map, List.getElem?_range hi, Option.map_some, Option.some.injEq] at hy
  subst hy
  exact hgf i hi
end Go.Proofs.YtccaknabpnpjaaaGreatDoor.A

/- The machine that is being built, in memory: its finder, its rows, its rules. -/
namespace Go.Proofs.YtccaknabpnpjaaaGreatDoor.A
open Go.RowKit Go.Maps

theorem fold_at : ∀ (l : List Value) (k : Nat) (cells : Array Value) (i : Nat), ((l.zipIdx k).foldl (fun cs p => cs.setIfInBounds (0 + p.2) p.1) cells)[i]? = if k ≤ i ∧ i < k + l.length ∧ i < cells.size then l[i - k]? else cells[i]?
  | [], k, cells, i => by
    rw [if_neg (by simp; omega)]; rfl
  | x :: r, k, cells, i => by
    rw [List.zipIdx_cons, List.foldl_cons, fold_at r (k + 1) _ i]
    simp only [Array.size_setIfInBounds, List.length_cons, Nat.zero_add]
    by_cases h : i = k
    · subst h
      rw [if_neg (by omega)]
      by_cases h2 : i < cells.size
      · rw [if_pos ⟨by omega, by omega, h2⟩]
        simp [h2]
      · rw [if_neg (by omega), Array.getElem?_eq_none (by simp; omega), Array.getElem?_eq_none (by omega)]
    · have hk : (cells.setIfInBounds k x)[i]? = cells[i]? := by rw [Array.getElem?_setIfInBounds, if_neg (fun e => h e.symm)]
      rw [hk]
      by_cases h2 : k ≤ i ∧ i < k + (r.length + 1) ∧ i < cells.size
      · rw [if_pos h2, if_pos (show k + 1 ≤ i ∧ i < k + 1 + r.length ∧ i < cells.size from ⟨by omega, by omega, by omega⟩)]
        rw [show i - k = (i - (k + 1)) + 1 by omega]
        simp
      · rw [if_neg h2, if_neg (by omega)]
theorem fold_all (c cells : Array Value) (h : c.size = cells.size) : c.zipIdx.foldl (fun cs p => cs.setIfInBounds (0 + p.2) p.1) cells = c := by
  apply Array.ext_getElem?
  intro i
  rw [← Array.foldl_toList, Array.toList_zipIdx, fold_at]
  by_cases hi : i < c.size
  · rw [if_pos ⟨by omega, by simpa using hi, by omega⟩]
    simp
  · rw [if_neg (by simp; omega), Array.getElem?_eq_none (by omega), Array.getElem?_eq_none (by omega)]
theorem build25 (c : Array Value) (hc : c.size = 16) (w : World) : (Instr.buildSlice 25 1 #[(0, .agg c)]).run Tryz.prog w = .ok (.slice (some ⟨w.heap.size, 0, none⟩) 1 1) (w.alloc (.cells c 63)) := by
  obtain ⟨hv63, hi63⟩ := zero_of_info zero63
  have hs : ∀ w, (sizeOf 63).run Tryz.prog w = .ok 16 w := by
    intro w
    cases hq : Tryz.prog.info? 63 with
    | none => simp [hq] at hi63
    | some i => simp [hq] at hi63; simp [sizeOf, typeInfo, hq, hi63]
  have e := fold_all c ((Array.range (1 * 16)).map (fun x => (Array.replicate 16 (Value.int IntKind.i64 0))[x % (Array.replicate 16 (Value.int IntKind.i64 0)).size]!)) (by simp [hc])
  simp only [Instr.buildSlice, Sem.run_bind, run_underlying Tryz.underlying25, Result.andThen_ok, hs, Value.cells]
  rw [if_neg (by omega), if_neg (by omega)]
  simp only [Sem.run_bind, Sem.run_pure, hv63, Result.andThen_ok, Value.cells, Instr.fill, Nat.zero_mul, e, hc]
  rw [if_neg (by simp)]
  simp [newRow]
def isBlk : Value → Bool
  | .agg c => decide (c.size = 16)
  | _ => false
theorem isBlk_agg (c : Array Value) : isBlk (.agg c) = decide (c.size = 16) := rfl
theorem cells_agg (c : Array Value) : (Value.agg c).cells = c := rfl
theorem wp_build25 (o : Oper) (d : Tmp) (x : Operand) (hop : o.op = Op.buildSlice 25 1 #[(0, x)]) (hd : o.dst = some d) (a : Act) (w : World) (K : Act → World → Prop) (Q : Exit → Act → World → Prop) (hc : isBlk (a.eval x) = true) :
    Oper.wp Tryz.prog o a w K Q = K (a.put (some d) (.slice (some ⟨w.heap.size, 0, none⟩) 1 1)) (w.alloc (.cells (a.eval x).cells 63)) := by
  cases hx : a.eval x <;> rw [hx] at hc <;> simp [isBlk] at hc
  unfold Oper.wp execOp
  simp only [hop, hx, List.map_toArray, List.map_cons, List.map_nil, Sem.run_bind, build25 _ hc, Result.andThen_ok, Sem.run_pure, Value.cells]
  rw [Oper.upon_value, hd]
theorem wp_build25s {d : Tmp} {x : Operand} {t : TypeId} {p : String} {af : Array Edge} {g : Option (Nat × Bool)} {a : Act} {w : World} {K : Act → World → Prop} {Q : Exit → Act → World → Prop} (hc : isBlk (a.eval x) = true) :
    Oper.wp Tryz.prog { dst := some d, op := Op.buildSlice 25 1 #[(0, x)], type := t, pos := p, after := af, guard := g } a w K Q = K (a.put (some d) (.slice (some ⟨w.heap.size, 0, none⟩) 1 1)) (w.alloc (.cells (a.eval x).cells 63)) := wp_build25 _ d x rfl rfl a w K Q hc

/-- Rows of numbers, cell by cell. -/
def cI (x : List Int) : List Value := x.map (Value.int .i64)
theorem cI_len (x : List Int) : (cI x).length = x.length := by simp [cI]
def cellsR (l : List (List Int)) : List Value := l.flatMap cI
theorem cellsR_app (a b : List (List Int)) : cellsR (a ++ b) = cellsR a ++ cellsR b := by simp [cellsR]
theorem cellsR_at : ∀ (l : List (List Int)) (_ : ∀ x ∈ l, x.length = 16) (i j : Nat) (x : List Int) (_ : l[i]? = some x) (u : Value), (cI x)[j]? = some u → (cellsR l)[i * 16 + j]? = some u
  | [], _, i, j, x, h, u, _ => by simp at h
  | y :: r, hl, i, j, x, h, u, hu => by
    have e : cellsR (y :: r) = cI y ++ cellsR r := by simp [cellsR]
    have hy := hl y (by simp)
    have hj : j < 16 := by
      have := (List.getElem?_eq_some_iff.1 hu).1
      rw [cI_len, hl x (List.mem_of_getElem? h)] at this; exact this
    rw [e]
    cases i with
    | zero =>
      have : y = x := by simpa using h
      subst this
      rw [List.getElem?_append_left (by rw [cI_len]; omega), Nat.zero_mul, Nat.zero_add]; exact hu
    | succ i =>
      rw [List.getElem?_append_right (by rw [cI_len]; omega), cI_len, hy, show (i + 1) * 16 + j - 16 = i * 16 + j by omega]
      exact cellsR_at r (fun x hx => hl x (by simp [hx])) i j x (by simpa using h) u hu
/-- Rows of 16 numbers at a slice. -/
def Dr (w : World) (a : Option Addr) (nx : List (List Int)) : Prop := ∀ (i : Nat) (row : List Int), nx[i]? = some row → row.length = 16 ∧ ∃ b off, a = some ⟨b, off, none⟩ ∧ w.rangeAt b (off + i * 16) (cI row)
theorem dr_below {w w' : World} {a : Option Addr} {nx : List (List Int)} (hb : Below w.heap.size w w') (h : Dr w a nx) : Dr w' a nx := fun i row hr => by
  obtain ⟨h1, b, off, e, h2⟩ := h i row hr
  exact ⟨h1, b, off, e, fun j v hj => (hb.cell (p := ⟨b, off + i * 16 + j, none⟩) (cell_lt (h2 j v hj))).trans (h2 j v hj)⟩
theorem own_dr {w : World} {base n : Nat} {v : Value} {nx : List (List Int)} (h : w.ownsRow base 63 16 v n (cellsR nx)) (hl : ∀ x ∈ nx, x.length = 16) : ∃ a c, v = .slice a n c ∧ (n = nx.length → Dr w a nx) := by
  rcases h.2 with ⟨rfl, h0⟩ | ⟨g, cap, cur, rfl, _, hg, _, _, hs, ht⟩
  · refine ⟨none, 0, by rw [h0], fun e i row hr => ?_⟩
    have := (List.getElem?_eq_some_iff.1 hr).1
    omega
  · refine ⟨_, _, rfl, fun _ i row hr => ⟨hl row (List.mem_of_getElem? hr), g, 0, rfl, fun j u hu => ?_⟩⟩
    have := cellsR_at nx hl i j row hr u hu
    rw [← ht, List.getElem?_take] at this
    split at this
    · rw [cell_of_row _ _ _ _ _ _ hg, Nat.zero_add]; simpa using this
    · cases this

/-- What is written elsewhere than a finder's blocks. -/
theorem fd_but {w w' : World} {base q m : Nat} {x0 x1 x2 x3 sv : Value} {vs : List Value} {S : List (List Int)} (h : Fd w base q m x0 x1 x2 x3 sv vs S) (C : Nat → Prop) (hC : ∀ k, C k → ∃ cs t fr, w.heap[k]? = some (.cells cs t fr) ∧ t ≠ 60 ∧ t ≠ 26) (hv : ∀ v ∈ vs, ∀ k, v.ownBlock = some k → ¬ C k) (hb : ∀ k, k < w.heap.size → ¬ C k → w'.heap[k]? = w.heap[k]?) : Fd w' base q m x0 x1 x2 x3 sv vs S := by
  obtain ⟨h1, h2, h3, h4⟩ := fd_lt h
  obtain ⟨D, hD, ht⟩ := h.map
  obtain ⟨es, c, hm⟩ := map_obj hD
  refine ⟨(hb q h1 (fun e => ?_)).trans h.blk, h.low, own_move h.own (fun k hk => hb k (own_type h.own hk).2.1 (fun e => ?_)), h.len, fun i v s a b => own_move (h.set i v s a b) (fun k hk => hb k (own_type (h.set i v s a b) hk).2.1 (hv v (List.mem_of_getElem? a) k hk)), ⟨D, map_move hD (hb m h2 (fun e => ?_)), ht⟩, h.mlow⟩
  · obtain ⟨cs, t, fr, e, e1, _⟩ := hC q e
    rw [h.blk] at e; cases e; exact e1 rfl
  · obtain ⟨cs, t, fr, e, _, e2⟩ := hC k e
    obtain ⟨_, _, cs', h'⟩ := own_type h.own hk
    rw [h'] at e; cases e; exact e2 rfl
  · obtain ⟨cs, t, fr, e, _⟩ := hC m e
    rw [hm] at e; cases e

/-- A machine that is being built. -/
structure Bd (w : World) (base q m d : Nat) (x0 x1 x2 x3 sv nv rv : Value) (vs : List Value) (S nx : List (List Int)) (ru : List Int) : Prop where
  f : Fd w base q m x0 x1 x2 x3 sv vs S
  db : w.heap[d]? = some (.cells #[nv, rv] 28 (0, 0))
  dlow : base ≤ d
  n : w.ownsRow base 63 16 nv nx.length (cellsR nx)
  r : w.ownsRow base 3 1 rv ru.length (ru.map (Value.int .i64))
  ap : ∀ v ∈ vs, Ap v rv
theorem d_cells {w : World} {q : Nat} {v0 v1 : Value} (h : w.heap[q]? = some (.cells #[v0, v1] 28 (0, 0))) : w.cell? ⟨q, 0, none⟩ = some v0 ∧ w.cell? ⟨q, 1, none⟩ = some v1 ∧ (∀ i, w.frozen? ⟨q, i, none⟩ = false) := by
  refine ⟨?_, ?_, fun i => ?_⟩
  · rw [cell_of_row _ _ _ _ _ _ h]; rfl
  · rw [cell_of_row _ _ _ _ _ _ h]; rfl
  · simp [World.frozen?, h]
section
variable {w w' : World} {base q m d : Nat} {x0 x1 x2 x3 sv nv rv : Value} {vs : List Value} {S nx : List (List Int)} {ru : List Int}
theorem bd_below (hb : Below w.heap.size w w') (h : Bd w base q m d x0 x1 x2 x3 sv nv rv vs S nx ru) : Bd w' base q m d x0 x1 x2 x3 sv nv rv vs S nx ru :=
  ⟨fd_below hb h.f, (hb.block d (Array.getElem?_eq_some_iff.1 h.db).1).trans h.db, h.dlow, own_move h.n (fun k hk => hb.block k (own_type h.n hk).2.1), own_move h.r (fun k hk => hb.block k (own_type h.r hk).2.1), h.ap⟩
/-- Behind a row. -/
theorem bd_kf {sv' : Value} {r : List Value} {S' : List (List Int)} (h : Bd w base q m d x0 x1 x2 x3 sv nv rv vs S nx ru) (hk : Kf base w w') (hf : Fd w' base q m x0 x1 x2 x3 sv' (vs ++ r) S') (hr : ∀ u ∈ r, ∀ k, u.ownBlock = some k → w.heap.size ≤ k) : Bd w' base q m d x0 x1 x2 x3 sv' nv rv (vs ++ r) S' nx ru := by
  refine ⟨hf, hk.heap h.db (by decide) (by decide), h.dlow, hk.own h.n (by decide) (by decide), hk.own h.r (by decide) (by decide), fun v hv k h1 h2 => ?_⟩
  rw [List.mem_append] at hv
  rcases hv with hv | hv
  · exact h.ap v hv k h1 h2
  · have := hr v hv k h1
    have := (own_type h.r h2).2.1
    omega
/-- A row more. -/
theorem bd_next {o : Obj} {g cap : Nat} {l : List Int} (h : Bd w base q m d x0 x1 x2 x3 sv nv rv vs S nx ru) (hg : (w.alloc o).grownBy w' nv.ownBlock) (ho : w'.ownsRow base 63 16 (.slice (some ⟨g, 0, none⟩) (nx.length + 1) cap) (nx.length + 1) (cellsR nx ++ cI l)) :
    Bd (w'.setCell ⟨d, 0, none⟩ (.slice (some ⟨g, 0, none⟩) (nx.length + 1) cap)) base q m d x0 x1 x2 x3 sv (.slice (some ⟨g, 0, none⟩) (nx.length + 1) cap) rv vs S (nx ++ [l]) ru := by
  have hdl := (Array.getElem?_eq_some_iff.1 h.db).1
  have hnd : nv.ownBlock ≠ some d := own_not h.n h.db (by decide)
  have hd1 : w'.heap[d]? = some (.cells #[nv, rv] 28 (0, 0)) := by
    rw [hg.block d (by simp; omega) (fun e => hnd e.symm), Below.heap_alloc _ _ _ hdl]; exact h.db
  have old : ∀ k, k < w.heap.size → ¬ (k = d ∨ nv.ownBlock = some k) → (w'.setCell ⟨d, 0, none⟩ (.slice (some ⟨g, 0, none⟩) (nx.length + 1) cap)).heap[k]? = w.heap[k]? := fun k hk hc => by
    rw [Below.heap_setCell _ _ _ _ (fun e => hc (.inl e)), hg.block k (by simp; omega) (fun e => hc (.inr e.symm)), Below.heap_alloc _ _ _ hk]
  refine ⟨fd_but h.f (fun k => k = d ∨ nv.ownBlock = some k) (fun k hc => ?_) (fun v hv k hk hc => ?_) old, by rw [blk_set hd1 0 _]; rfl, h.dlow, ?_, own_move h.r (fun k hk => old k (own_type h.r hk).2.1 (fun hc => ?_)), h.ap⟩
  · rcases hc with rfl | hc
    · exact ⟨_, _, _, h.db, by decide, by decide⟩
    · obtain ⟨_, _, cs, h'⟩ := own_type h.n hc
      exact ⟨_, _, _, h', by decide, by decide⟩
  · obtain ⟨i, hi, e⟩ := List.getElem_of_mem hv
    have hs := h.f.set i v (S[i]'(by rw [← h.f.len]; exact hi)) (by rw [List.getElem?_eq_getElem hi, e]) (List.getElem?_eq_getElem _)
    obtain ⟨_, _, cs, h'⟩ := own_type hs hk
    rcases hc with rfl | hc
    · rw [h.db] at h'; cases h'
    · obtain ⟨_, _, cs2, h2⟩ := own_type h.n hc
      rw [h'] at h2; cases h2
  · rw [List.length_append, cellsR_app]
    have e : cellsR [l] = cI l := by simp [cellsR]
    rw [e]
    exact set_far ho (own_not ho hd1 (by decide))
  · obtain ⟨_, _, cs, h'⟩ := own_type h.r hk
    rcases hc with rfl | hc
    · rw [h.db] at h'; cases h'
    · obtain ⟨_, _, cs2, h2⟩ := own_type h.n hc
      rw [h'] at h2; cases h2
/-- A rule more. -/
theorem bd_rule {o : Obj} {g cap : Nat} {z : Int} (h : Bd w base q m d x0 x1 x2 x3 sv nv rv vs S nx ru) (hg : (w.alloc o).grownBy w' rv.ownBlock) (ho : w'.ownsRow base 3 1 (.slice (some ⟨g, 0, none⟩) (ru.length + 1) cap) (ru.length + 1) (ru.map (Value.int .i64) ++ [.int .i64 z])) (hat : rv.ownBlock = some g ∨ w.heap.size ≤ g) :
    Bd (w'.setCell ⟨d, 1, none⟩ (.slice (some ⟨g, 0, none⟩) (ru.length + 1) cap)) base q m d x0 x1 x2 x3 sv nv (.slice (some ⟨g, 0, none⟩) (ru.length + 1) cap) vs S nx (ru ++ [z]) := by
  have hdl := (Array.getElem?_eq_some_iff.1 h.db).1
  have hnd : rv.ownBlock ≠ some d := own_not h.r h.db (by decide)
  have hd1 : w'.heap[d]? = some (.cells #[nv, rv] 28 (0, 0)) := by
    rw [hg.block d (by simp; omega) (fun e => hnd e.symm), Below.heap_alloc _ _ _ hdl]; exact h.db
  have old : ∀ k, k < w.heap.size → ¬ (k = d ∨ rv.ownBlock = some k) → (w'.setCell ⟨d, 1, none⟩ (.slice (some ⟨g, 0, none⟩) (ru.length + 1) cap)).heap[k]? = w.heap[k]? := fun k hk hc => by
    rw [Below.heap_setCell _ _ _ _ (fun e => hc (.inl e)), hg.block k (by simp; omega) (fun e => hc (.inr e.symm)), Below.heap_alloc _ _ _ hk]
  have sets : ∀ v ∈ vs, ∀ k, v.ownBlock = some k → k < w.heap.size ∧ ∃ cs, w.heap[k]? = some (.cells cs 3 (0, 0)) := fun v hv k hk => by
    obtain ⟨i, hi, e⟩ := List.getElem_of_mem hv
    have hs := h.f.set i v (S[i]'(by rw [← h.f.len]; exact hi)) (by rw [List.getElem?_eq_getElem hi, e]) (List.getElem?_eq_getElem _)
    exact (own_type hs hk).2
  refine ⟨fd_but h.f (fun k => k = d ∨ rv.ownBlock = some k) (fun k hc => ?_) (fun v hv k hk hc => ?_) old, by rw [blk_set hd1 1 _]; rfl, h.dlow, own_move h.n (fun k hk => old k (own_type h.n hk).2.1 (fun hc => ?_)), ?_, fun v hv k h1 h2 => ?_⟩
  · rcases hc with rfl | hc
    · exact ⟨_, _, _, h.db, by decide, by decide⟩
    · obtain ⟨_, _, cs, h'⟩ := own_type h.r hc
      exact ⟨_, _, _, h', by decide, by decide⟩
  · rcases hc with rfl | hc
    · obtain ⟨_, cs, h'⟩ := sets v hv k hk
      rw [h.db] at h'; cases h'
    · exact h.ap v hv k hk hc
  · obtain ⟨_, _, cs, h'⟩ := own_type h.n hk
    rcases hc with rfl | hc
    · rw [h.db] at h'; cases h'
    · obtain ⟨_, _, cs2, h2⟩ := own_type h.r hc
      rw [h'] at h2; cases h2
  · rw [List.length_append, List.map_append]
    exact set_far ho (own_not ho hd1 (by decide))
  · simp only [Value.ownBlock, Option.some.injEq] at h2
    subst h2
    rcases hat with hat | hat
    · exact h.ap v hv g h1 hat
    · have := (sets v hv g h1).1
      omega
end
end Go.Proofs.YtccaknabpnpjaaaGreatDoor.A

/- A machine without free steps that came in: where it goes, what may be, what it matches: plain mathematics; one step of the program's. -/
namespace Go.Proofs.YtccaknabpnpjaaaGreatDoor.A
open Go.RowKit

/-- One step. -/
def stepF (nx : List (List Int)) (a c : Int) : Int := if 0 ≤ a ∧ 0 ≤ c ∧ c < 16 then (nx.getD a.toNat []).getD c.toNat 0 else -1
/-- Where the machine is behind k letters. -/
def runF (nx : List (List Int)) (word : List Int) : Nat → Int
  | 0 => 0
  | k + 1 => stepF nx (runF nx word k) (word.getD k 0)
/-- The last place of a rule's end, and that rule, of the first k places. -/
def lgF (nx : List (List Int)) (ru word : List Int) (from_ : Int) : Nat → Int × Int
  | 0 => (-1, -1)
  | k + 1 => if 0 ≤ runF nx word (k + 1) ∧ ru.getD (runF nx word (k + 1)).toNat 0 ≠ -1 then (from_ + (k : Int) + 1, ru.getD (runF nx word (k + 1)).toNat 0) else lgF nx ru word from_ k
/-- May a row be? -/
def okRow (n : Nat) (row : List Int) : Bool := row.all fun z => decide (-1 ≤ z) && decide (z < (n : Int))
def okRule (r : Int) : Bool := decide (-1 ≤ r) && decide (r ≤ 15)
/-- May a machine be? -/
def rightD (nx : List (List Int)) (ru : List Int) : Bool := decide (1 ≤ nx.length) && (decide (nx.length ≤ 200) && (decide (ru.length = nx.length) && ((List.range nx.length).all fun i => okRule (ru.getD i 0) && okRow nx.length (nx.getD i []))))
theorem right_open {nx : List (List Int)} {ru : List Int} (h : rightD nx ru = true) : 1 ≤ nx.length ∧ nx.length ≤ 200 ∧ ru.length = nx.length ∧ (∀ (i : Nat) (r : Int), ru[i]? = some r → -1 ≤ r ∧ r ≤ 15) ∧ ∀ (i : Nat) (row : List Int), nx[i]? = some row → ∀ z ∈ row, -1 ≤ z ∧ z < (nx.length : Int) := by
  unfold rightD at h
  simp only [Bool.and_eq_true, decide_eq_true_eq, List.all_eq_true, List.mem_range] at h
  obtain ⟨h1, h2, h3, h4⟩ := h
  refine ⟨h1, h2, h3, fun i r hr => ?_, fun i row hr z hz => ?_⟩
  · have := (h4 i (by rw [← h3]; exact (List.getElem?_eq_some_iff.1 hr).1)).1
    unfold okRule at this
    rw [List.getD_eq_getElem?_getD, hr, Bool.and_eq_true, decide_eq_true_eq, decide_eq_true_eq] at this
    exact this
  · have := (h4 i (List.getElem?_eq_some_iff.1 hr).1).2
    unfold okRow at this
    rw [List.getD_eq_getElem?_getD, hr, Option.getD_some, List.all_eq_true] at this
    simpa using this z hz
theorem right_mk {nx : List (List Int)} {ru : List Int} (h1 : 1 ≤ nx.length) (h2 : nx.length ≤ 200) (h3 : ru.length = nx.length) (h4 : ∀ (i : Nat) (r : Int), ru[i]? = some r → -1 ≤ r ∧ r ≤ 15) (h5 : ∀ (i : Nat) (row : List Int), nx[i]? = some row → ∀ z ∈ row, -1 ≤ z ∧ z < (nx.length : Int)) : rightD nx ru = true := by
  unfold rightD
  simp only [Bool.and_eq_true, decide_eq_true_eq, List.all_eq_true, List.mem_range]
  refine ⟨h1, h2, h3, fun i hi => ⟨?_, ?_⟩⟩
  · have e : ru[i]? = some ru[i] := List.getElem?_eq_getElem (by omega)
    have := h4 i _ e
    unfold okRule
    rw [List.getD_eq_getElem?_getD, e, Bool.and_eq_true, decide_eq_true_eq, decide_eq_true_eq]
    exact this
  · have e : nx[i]? = some nx[i] := List.getElem?_eq_getElem hi
    unfold okRow
    rw [List.getD_eq_getElem?_getD, e, Option.getD_some, List.all_eq_true]
    intro z hz
    have := h5 i _ e z hz
    simp; omega
/-- A machine's step stays within it. -/
theorem step_rng {nx : List (List Int)} {ru : List Int} (h : rightD nx ru = true) (h16 : ∀ x ∈ nx, x.length = 16) (a c : Int) (ha : a < (nx.length : Int)) : -1 ≤ stepF nx a c ∧ stepF nx a c < (nx.length : Int) := by
  obtain ⟨h1, _, _, _, h5⟩ := right_open h
  unfold stepF
  split
  · rename_i hc
    have e : nx[a.toNat]? = some (nx[a.toNat]'(by omega)) := List.getElem?_eq_getElem _
    have hl := h16 _ (List.mem_of_getElem? e)
    rw [show nx.getD a.toNat [] = nx[a.toNat]'(by omega) from by rw [List.getD_eq_getElem?_getD, e]; rfl]
    have e2 : (nx[a.toNat]'(by omega))[c.toNat]? = some ((nx[a.toNat]'(by omega))[c.toNat]'(by omega)) := List.getElem?_eq_getElem _
    rw [List.getD_eq_getElem?_getD, e2, Option.getD_some]
    exact h5 _ _ e _ (List.mem_of_getElem? e2)
  · omega
theorem run_rng {nx : List (List Int)} {ru : List Int} (h : rightD nx ru = true) (h16 : ∀ x ∈ nx, x.length = 16) (word : List Int) : ∀ k, -1 ≤ runF nx word k ∧ runF nx word k < (nx.length : Int)
  | 0 => by obtain ⟨h1, _⟩ := right_open h; unfold runF; omega
  | k + 1 => step_rng h h16 _ _ (run_rng h h16 word k).2
theorem run_dead {nx : List (List Int)} {word : List Int} {k : Nat} (h : runF nx word k < 0) : ∀ m, runF nx word (k + m + 1) = -1
  | 0 => by show stepF nx (runF nx word k) _ = -1; unfold stepF; rw [if_neg (by omega)]
  | m + 1 => by
    have := run_dead h m
    show stepF nx (runF nx word (k + m + 1)) _ = -1
    unfold stepF; rw [if_neg (by omega)]
theorem run_dead' {nx : List (List Int)} {word : List Int} {k m : Nat} (h : runF nx word k = -1) (hm : k ≤ m) : runF nx word m = -1 := by
  by_cases e : m = k
  · subst e; exact h
  · have := run_dead (word := word) (k := k) (nx := nx) (by omega) (m - k - 1)
    rw [show k + (m - k - 1) + 1 = m by omega] at this
    exact this
theorem lg_dead {nx : List (List Int)} {ru word : List Int} {f : Int} {k : Nat} (h : runF nx word k = -1) : ∀ m, k ≤ m + 1 → ∀ j, lgF nx ru word f (m + j) = lgF nx ru word f m
  | m, hm, 0 => rfl
  | m, hm, j + 1 => by
    show (if 0 ≤ runF nx word (m + j + 1) ∧ _ then _ else lgF nx ru word f (m + j)) = _
    rw [if_neg (fun e => by have := run_dead' (nx := nx) (word := word) h (show k ≤ m + j + 1 by omega); omega), lg_dead h m hm j]
theorem step_out {nx : List (List Int)} {a c : Int} (h : ¬ (0 ≤ c ∧ c < 16)) : stepF nx a c = -1 := by
  unfold stepF; rw [if_neg (fun e => h e.2)]
theorem dstep_in {nx : List (List Int)} {i j : Nat} {row : List Int} {z : Int} (hr : nx[i]? = some row) (hz : row[j]? = some z) (hj : j < 16) : stepF nx i j = z := by
  unfold stepF
  rw [if_pos ⟨by omega, by omega, by omega⟩, show ((i : Nat) : Int).toNat = i by omega, show ((j : Nat) : Int).toNat = j by omega, List.getD_eq_getElem?_getD, List.getD_eq_getElem?_getD, hr, Option.getD_some, hz, Option.getD_some]

theorem dtwo_new (w : World) (x y : Value) : (w.alloc (.cells #[x, y] 28)).cell? ⟨w.heap.size, 0, none⟩ = some x ∧ (w.alloc (.cells #[x, y] 28)).cell? ⟨w.heap.size, 1, none⟩ = some y := by
  have h := d_cells (heap_alloc_last w (.cells #[x, y] 28))
  exact ⟨h.1, h.2.1⟩
theorem dr_cell {w : World} {a : Option Addr} {nx : List (List Int)} (h : Dr w a nx) {i j : Nat} {row : List Int} {z : Int} (hr : nx[i]? = some row) (hz : row[j]? = some z) : ∃ b off, a = some ⟨b, off, none⟩ ∧ w.cell? ⟨b, off + i * 16 + j, none⟩ = some (.int .i64 z) := by
  obtain ⟨_, b, off, e, h2⟩ := h i row hr
  exact ⟨b, off, e, h2 j _ (by simp [cI, hz])⟩

set_option maxRecDepth 100000 in
set_option maxHeartbeats 1600000 in
theorem dstep_any (a0 : Option Addr) (n0 c0 : Nat) (x1 : Value) (nx : List (List Int)) (st : Nat) (c : Int) (w : World) (hn : nx.length = n0) (hD : Dr w a0 nx) (hs : st < n0) :
    Calls Tryz.prog 31 #[.agg #[.slice a0 n0 c0, x1], .int .i64 st, .int .i64 c] w fun e w' => e = .returned (.int .i64 (stepF nx st c)) ∧ Below w.heap.size w w' := by
  obtain ⟨p0, p1⟩ := dtwo_new w (.slice a0 n0 c0) x1
  have hb0 := (Below.refl w.heap.size w).alloc (Nat.le_refl _) (.cells #[.slice a0 n0 c0, x1] 28)
  have HB0 := hide hb0
  have HD := hide (dr_below hb0 hD)
  have HN := hide hn
  clear hb0 hD hn
  by_cases cc : ¬ (0 ≤ c ∧ c < 16)
  · have HE := hide (step_out (nx := nx) (a := st) cc)
    by_cases c0' : c < 0
    · have y0 : decide (c < 0) = true := by simp [c0']
      go_enter Tryz.func31, Tryz.ntmps31
      go_wp2
      go_ret
      exact ⟨by rw [HE.out]; rfl, HB0.out⟩
    · have y0 : decide (c < 0) = false := by simp; omega
      have y1 : decide (16 ≤ c) = true := by simp; omega
      go_enter Tryz.func31, Tryz.ntmps31
      go_wp2
      go_ret
      exact ⟨by rw [HE.out]; rfl, HB0.out⟩
  obtain ⟨j, rfl⟩ : ∃ j : Nat, c = j := ⟨c.toNat, by omega⟩
  have hj : j < 16 := by omega
  have y0 : decide ((j : Int) < 0) = false := decide_eq_false (by omega)
  have y1 : decide ((16 : Int) ≤ (j : Int)) = false := decide_eq_false (by omega)
  obtain ⟨row, hr⟩ : ∃ row, nx[st]? = some row := ⟨_, List.getElem?_eq_getElem (by rw [HN.out]; exact hs)⟩
  have hl := (HD.out st row hr).1
  obtain ⟨z, hz⟩ : ∃ z, row[j]? = some z := ⟨_, List.getElem?_eq_getElem (by omega)⟩
  obtain ⟨b, off, rfl, k0⟩ := dr_cell HD.out hr hz
  have HE := hide (dstep_in hr hz hj)
  have i3 : (0 : Int) ≤ (st : Int) := by omega
  have i4 : (st : Int) < (n0 : Int) := by omega
  have i5 : (0 : Int) ≤ (j : Int) := by omega
  have i6 : (j : Int) < 16 := by omega
  clear cc hr hz hl
  go_enter Tryz.func31, Tryz.ntmps31
  go_wp2
  go_ret
  exact ⟨by rw [HE.out]; rfl, HB0.out⟩
end Go.Proofs.YtccaknabpnpjaaaGreatDoor.A
