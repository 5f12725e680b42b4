/- The document's Blocks: what its rounds do. -/
import Derived.Test.YtooiomfcemceiaaMc
namespace Go.Proofs.Ytooiomfcemceiaa.A
open Go.RowKit Go.Maps

def cellsI (l : List (List Int)) : List Value := l.flatMap cI
theorem cellsI_app (a b : List (List Int)) : cellsI (a ++ b) = cellsI a ++ cellsI b := by simp [cellsI]
theorem cellsI_at : ∀ (l : List (List Int)) (_ : ∀ x ∈ l, x.length = 128) (i j : Nat) (_ : i < l.length) (u : Value), (cI (l.getD i []))[j]? = some u → (cellsI l)[i * 128 + j]? = some u
  | [], _, i, j, hi, _, _ => by simp at hi
  | x :: r, h, i, j, hi, u, hu => by
    have hx := h x (by simp)
    have e : cellsI (x :: r) = cI x ++ cellsI r := by simp [cellsI]
    have hj : j < 128 := by
      have hl : ((x :: r).getD i []).length = 128 := by
        rw [List.getD_eq_getElem?_getD, List.getElem?_eq_getElem hi]
        exact h _ (List.getElem_mem hi)
      have := (List.getElem?_eq_some_iff.1 hu).1
      rw [cI_len, hl] at this
      exact this
    rw [e]
    cases i with
    | zero =>
      rw [List.getElem?_append_left (by rw [cI_len]; omega)]
      simpa using hu
    | succ i =>
      rw [List.getElem?_append_right (by rw [cI_len]; omega)]
      rw [show (i + 1) * 128 + j - (cI x).length = i * 128 + j by rw [cI_len, hx]; omega]
      exact cellsI_at r (fun y hy => h y (by simp [hy])) i j (by simpa using hi) u (by simpa [List.getD_eq_getElem?_getD] using hu)
/-- The document's rounds: its unlike blocks that are not of one value, and the values of those that are. -/
def Bk (h : Int → Int) (w1 wr : World) (PB n c : Nat) (v : Value) : Prop :=
  c = (oddk h n).length ∧ wr.ownsRow (PB + 1) 69 128 v c (cellsI (oddk h n)) ∧ Mk wr PB 256 (plk h n) ∧ Below PB w1 wr ∧ PB + 1 ≤ wr.heap.size
theorem bk_below {h : Int → Int} {w1 wr w' : World} {PB n c : Nat} {v : Value} (d : Bk h w1 wr PB n c v) (hb : Below wr.heap.size wr w') : Bk h w1 w' PB n c v := by
  obtain ⟨d1, d2, d3, d4, d5⟩ := d
  exact ⟨d1, own_below d2 hb, heap_below d3 hb, d4.trans (hb.mono (by omega)), Nat.le_trans d5 hb.size⟩
theorem bk_grown {h : Int → Int} {w1 wr w' : World} {PB n c : Nat} {v : Value} {q : Nat} (d : Bk h w1 wr PB n c v) (hg : wr.grownBy w' (some q)) (hq : PB < q) (hv : v.ownBlock = none ∨ v.ownBlock ≠ some q) : Bk h w1 w' PB n c v := by
  obtain ⟨d1, d2, d3, d4, d5⟩ := d
  exact ⟨d1, d2.kept hg hv, heap_grown d3 hg (by simp; omega), d4.grown hg (by omega) (fun k e => by cases e; omega), Nat.le_trans d5 hg.size⟩
theorem bk_plain {h : Int → Int} {w1 wr : World} {PB n c : Nat} {v : Value} {m : Nat} (d : Bk h w1 wr PB n c v) (hc : isC (bl h n) = true) (hm : h ((n : Int) * 128) = (m : Int)) (hm2 : m < 256) : Bk h w1 (wr.setCell ⟨PB, m, none⟩ (.bool true)) PB (n + 1) c v := by
  obtain ⟨d1, d2, d3, d4, d5⟩ := d
  refine ⟨by rw [odd_const hc]; exact d1, ?_, mk_congr (mk_set d3 hm2 true) (fun j _ => ?_), d4.setCell (Nat.le_refl _) _, by simpa using d5⟩
  · rw [odd_const hc]; exact ownsRow_setCell_below d2 (by simp) _
  · show _ = (plk h n j || (isC (bl h n) && decide (h ((n : Int) * 128) = (j : Int))))
    rw [hc, hm]
    by_cases e : j = m
    · subst e; simp
    · have : ¬ ((m : Int) = (j : Int)) := by omega
      simp [e, this]
theorem plk_odd {h : Int → Int} {n : Nat} (hc : isC (bl h n) = false) (j : Nat) : plk h n j = plk h (n + 1) j := by
  show _ = (plk h n j || (isC (bl h n) && decide (h ((n : Int) * 128) = (j : Int))))
  rw [hc]; simp
theorem bk_there {h : Int → Int} {w1 wr : World} {PB n c : Nat} {v : Value} (d : Bk h w1 wr PB n c v) (hc : isC (bl h n) = false) (hm : bl h n ∈ oddk h n) : Bk h w1 wr PB (n + 1) c v := by
  obtain ⟨d1, d2, d3, d4, d5⟩ := d
  exact ⟨by rw [odd_old hc hm]; exact d1, by rw [odd_old hc hm]; exact d2, mk_congr d3 (fun j _ => plk_odd hc j), d4, d5⟩
theorem bk_new {h : Int → Int} {w1 wr w' : World} {PB n c : Nat} {v : Value} {v' : Value} {c' : Nat} {cs : List Value} (d : Bk h w1 wr PB n c v) (hc : isC (bl h n) = false) (hm : ¬ bl h n ∈ oddk h n) (hg : wr.grownBy w' v.ownBlock) (hown : w'.ownsRow (PB + 1) 69 128 v' c' cs) (hc' : c' = c + 1) (hcs : cs = cellsI (oddk h n) ++ cI (bl h n)) :
    Bk h w1 w' PB (n + 1) c' v' := by
  obtain ⟨d1, d2, d3, d4, d5⟩ := d
  have hlo : ∀ g, v.ownBlock = some g → PB + 1 ≤ g := fun g e => (d2.lt g e).1
  subst hcs
  refine ⟨by rw [odd_new hc hm, List.length_append, ← d1]; exact hc', ?_, mk_congr (heap_grown d3 hg (fun e => by have := hlo _ e.symm; omega)) (fun j _ => plk_odd hc j), d4.grown hg (by omega) (fun g e => by have := hlo g e; omega), Nat.le_trans d5 hg.size⟩
  rw [odd_new hc hm, cellsI_app]
  simpa [cellsI] using hown
/-- Is all of a block like its first, so far? -/
def samB (h : Int → Int) (n : Nat) : Nat → Bool | 0 => true | k + 1 => samB h n k && decide (h ((n : Int) * 128 + (k : Int)) = h ((n : Int) * 128))
theorem samB_iff (h : Int → Int) (n : Nat) : ∀ k, samB h n k = true ↔ ∀ j : Nat, j < k → h ((n : Int) * 128 + (j : Int)) = h ((n : Int) * 128)
  | 0 => ⟨fun _ j hj => by omega, fun _ => rfl⟩
  | k + 1 => by
    simp only [samB, Bool.and_eq_true, decide_eq_true_eq, samB_iff h n k]
    constructor
    · rintro ⟨a, b⟩ j hj
      by_cases e : j = k
      · subst e; exact b
      · exact a j (by omega)
    · intro a
      exact ⟨fun j hj => a j (by omega), a k (by omega)⟩
theorem samB_isC (h : Int → Int) (n : Nat) : samB h n 128 = isC (bl h n) := by
  rw [Bool.eq_iff_iff, samB_iff, isC_iff]; rfl
/-- The array that is filled. -/
def fillG (h : Int → Int) (n k : Nat) (j : Nat) : Int := if j < k then h ((n : Int) * 128 + (j : Int)) else 0
theorem fillG_next (h : Int → Int) (n k : Nat) (j : Nat) : (if j = k then h ((n : Int) * 128 + (k : Int)) else fillG h n k j) = fillG h n (k + 1) j := by
  unfold fillG
  by_cases e : j = k
  · subst e; rw [if_pos rfl, if_pos (by omega)]
  · rw [if_neg e]
    by_cases q : j < k
    · rw [if_pos q, if_pos (by omega)]
    · rw [if_neg q, if_neg (by omega)]
theorem fillG_end (h : Int → Int) (n : Nat) : rowK .i64 128 (fillG h n 128) = (cI (bl h n)).toArray := by
  apply Array.ext_getElem?
  intro i
  by_cases hi : i < 128
  · rw [rowK_at _ _ hi]
    simp [cI, bl_at _ _ _ hi, fillG, hi]
  · rw [Array.getElem?_eq_none (by rw [rowK_size]; omega), Array.getElem?_eq_none (by simp [cI_len, bl_len]; omega)]
/-- An array of numbers of its own. -/
def Ar (w : World) (q : Nat) (g : Nat → Int) : Prop := w.heap[q]? = some (.cells (rowK .i64 128 g) 69 (0, 0))
theorem ar_cell {w : World} {q : Nat} {g : Nat → Int} (d : Ar w q g) {j : Nat} (hj : j < 128) : w.cell? ⟨q, j, none⟩ = some (.int .i64 (g j)) ∧ w.frozen? ⟨q, j, none⟩ = false := by
  unfold Ar at d
  constructor
  · rw [cell_of_row _ _ j _ _ _ d, rowK_at _ _ hj]
  · simp [World.frozen?, d]
theorem ar_set {w : World} {q : Nat} {g g' : Nat → Int} (d : Ar w q g) {j : Nat} (hj : j < 128) (v : Int) (e : ∀ i, i < 128 → (if i = j then v else g i) = g' i) : Ar (w.setCell ⟨q, j, none⟩ (.int .i64 v)) q g' := by
  unfold Ar at *
  rw [setCell_eq_setRow _ _ _ _ _ _ _ d, setRow_heap _ _ _ _ _ _ d, rowK_set _ _ _ hj, rowK_congr e]
theorem info69 : (Try.prog.info? 69).map (fun i => (i.zero, i.size, i.bytes)) = some (some (.agg (Array.replicate 128 (.int .i64 0))), 128, 1024) := by kernel_rfl
theorem zero69 : (Try.prog.info? 69).map (fun i => (i.zero, i.size)) = some (some (.agg (Array.replicate 128 (.int .i64 0))), 128) := by kernel_rfl
theorem rowI_zero : Array.replicate 128 (.int .i64 0) = rowK .i64 128 (fun _ => 0) := by
  apply Array.ext_getElem?
  intro i
  by_cases hi : i < 128
  · rw [rowK_at _ _ hi]; simp [hi]
  · rw [Array.getElem?_eq_none (by simp; omega), Array.getElem?_eq_none (by simp [rowK_size]; omega)]
theorem bl_fit {h : Int → Int} (hb : ∀ c, 0 ≤ h c ∧ h c ≤ 255) (n : Nat) : Fit128 (bl h n) := ⟨bl_len h n, fun v hv => by
  simp only [bl, List.mem_map] at hv
  obtain ⟨j, _, rfl⟩ := hv
  exact hb _⟩
theorem odd_fit {h : Int → Int} (hb : ∀ c, 0 ≤ h c ∧ h c ≤ 255) (n i : Nat) (hi : i < (oddk h n).length) : Fit128 ((oddk h n).getD i []) := by
  rw [List.getD_eq_getElem?_getD, List.getElem?_eq_getElem hi]
  obtain ⟨k, _, e⟩ := (kept_mem h _ n).1 (List.mem_filter.1 (List.getElem_mem hi)).1
  show Fit128 (oddk h n)[i]
  rw [show (oddk h n)[i] = bl h k from e]
  exact bl_fit hb k
/-- Was it among the first i? -/
def thB (h : Int → Int) (n i : Nat) : Bool := decide (bl h n ∈ (oddk h n).take i)
theorem thB_zero (h : Int → Int) (n : Nat) : thB h n 0 = false := by simp [thB]
theorem thB_next {h : Int → Int} {n i : Nat} (hi : i < (oddk h n).length) : thB h n (i + 1) = (thB h n i || decide ((oddk h n).getD i [] = bl h n)) := by
  unfold thB
  rw [List.take_succ_eq_append_getElem hi, List.getD_eq_getElem?_getD, List.getElem?_eq_getElem hi]
  rw [Bool.eq_iff_iff, decide_eq_true_iff, Bool.or_eq_true, decide_eq_true_iff, decide_eq_true_iff, List.mem_append, List.mem_singleton]
  exact ⟨fun q => q.imp id Eq.symm, fun q => q.imp id Eq.symm⟩
theorem thB_end {h : Int → Int} {n c : Nat} (hc : c = (oddk h n).length) : thB h n c = decide (bl h n ∈ oddk h n) := by
  unfold thB; rw [hc, List.take_length]
/-- A block of numbers as a slice of one. -/
theorem build68 (c : Array Value) (hc : c.size = 128) (w : World) : (Instr.buildSlice 68 1 #[(0, .agg c)]).run Try.prog w = .ok (.slice (some ⟨w.heap.size, 0, none⟩) 1 1) (w.alloc (.cells c 69)) := by
  obtain ⟨hv69, hi69⟩ := zero_of_info zero69
  have hs : ∀ w, (sizeOf 69).run Try.prog w = .ok 128 w := by
    intro w
    cases hq : Try.prog.info? 69 with
    | none => simp [hq] at hi69
    | some i => simp [hq] at hi69; simp [sizeOf, typeInfo, hq, hi69]
  have e := fold_all c ((Array.range (1 * 128)).map (fun x => (Array.replicate 128 (Value.int IntKind.i64 0))[x % (Array.replicate 128 (Value.int IntKind.i64 0)).size]!)) (by simp [hc])
  simp only [Instr.buildSlice, Sem.run_bind, run_underlying Try.underlying68, Result.andThen_ok, hs, Value.cells]
  rw [if_neg (by omega), if_neg (by omega)]
  simp only [Sem.run_bind, Sem.run_pure, hv69, Result.andThen_ok, Value.cells, Instr.fill, Nat.zero_mul, e, hc]
  rw [if_neg (by simp)]
  simp [newRow]
theorem wp_build68 (o : Oper) (d : Tmp) (x : Operand) (hop : o.op = Op.buildSlice 68 1 #[(0, x)]) (hd : o.dst = some d) (a : Act) (w : World) (K : Act → World → Prop) (Q : Exit → Act → World → Prop) (hc : isBlk (a.eval x) = true) :
    Oper.wp Try.prog o a w K Q = K (a.put (some d) (.slice (some ⟨w.heap.size, 0, none⟩) 1 1)) (w.alloc (.cells (a.eval x).cells 69)) := by
  cases hx : a.eval x <;> rw [hx] at hc <;> simp [isBlk] at hc
  unfold Oper.wp execOp
  simp only [hop, hx, List.map_toArray, List.map_cons, List.map_nil, Sem.run_bind, build68 _ hc, Result.andThen_ok, Sem.run_pure, Value.cells]
  rw [Oper.upon_value, hd]
theorem wpList_build68 {ops : Array Oper} {rest : List Oper} {o : Oper} {a : Act} {w : World} {Q : Exit → Act → World → Prop} (hgd : o.guard = none) (d : Tmp) (x : Operand) (hop : o.op = Op.buildSlice 68 1 #[(0, x)]) (hd : o.dst = some d) (c : Array Value) (hx : a.eval x = .agg c) (hc : c.size = 128)
    (h : wpList Try.prog ops Q rest (a.put o.dst (.slice (some ⟨w.heap.size, 0, none⟩) 1 1)) (w.alloc (.cells c 69))) : wpList Try.prog ops Q (o :: rest) a w :=
  wpList_plain hgd fun K hK => by
    rw [wp_build68 o d x hop hd a w K Q (by rw [hx]; simp [isBlk, hc]), hx]
    rw [hd] at h
    exact hK _ _ h
end Go.Proofs.Ytooiomfcemceiaa.A
