/- Ranges as cells of a row of one's own. -/
import Derived.Test.YtooiomfcemceiaaC
import Derived.Laws.OwnMore
import Derived.Deep.AppendSrc
namespace Go.Proofs.Ytooiomfcemceiaa.A
open Go.RowKit

def cells1 (r : Rg) : List Value := [.int .i32 r.f, .int .i32 r.t, .int .i64 r.v]
def cellsR : List Rg → List Value | [] => [] | r :: l => cells1 r ++ cellsR l
theorem cellsR_app (a b : List Rg) : cellsR (a ++ b) = cellsR a ++ cellsR b := by
  induction a with
  | nil => rfl
  | cons r a ih => simp [cellsR, ih]
theorem cellsR_one (r : Rg) : cellsR [r] = cells1 r := by simp [cellsR]
theorem cellsR_len : ∀ l : List Rg, (cellsR l).length = l.length * 3
  | [] => rfl
  | r :: l => by simp [cellsR, cells1, cellsR_len l]; omega
theorem at_cons (r : Rg) (l : List Rg) (i : Nat) : at' (r :: l) (i + 1) = at' l i := by simp [at', List.getD_eq_getElem?_getD]
theorem cellsR_at : ∀ (l : List Rg) (i : Nat), i < l.length → (cellsR l)[i * 3]? = some (.int .i32 (at' l i).f) ∧ (cellsR l)[i * 3 + 1]? = some (.int .i32 (at' l i).t) ∧ (cellsR l)[i * 3 + 2]? = some (.int .i64 (at' l i).v)
  | [], i, h => by simp at h
  | r :: l, 0, _ => by simp [cellsR, cells1, at', List.getD_eq_getElem?_getD]
  | r :: l, i + 1, h => by
    have ih := cellsR_at l i (by simpa using h)
    rw [at_cons]
    refine ⟨?_, ?_, ?_⟩
    · rw [← ih.1]; show (Value.int .i32 r.f :: .int .i32 r.t :: .int .i64 r.v :: cellsR l)[(i + 1) * 3]? = _; rw [show (i + 1) * 3 = i * 3 + 1 + 1 + 1 by omega]; simp
    · rw [← ih.2.1]; show (Value.int .i32 r.f :: .int .i32 r.t :: .int .i64 r.v :: cellsR l)[(i + 1) * 3 + 1]? = _; rw [show (i + 1) * 3 + 1 = i * 3 + 1 + 1 + 1 + 1 by omega]; simp
    · rw [← ih.2.2]; show (Value.int .i32 r.f :: .int .i32 r.t :: .int .i64 r.v :: cellsR l)[(i + 1) * 3 + 2]? = _; rw [show (i + 1) * 3 + 2 = i * 3 + 2 + 1 + 1 + 1 by omega]; simp
theorem cellsR_set : ∀ (l : List Rg) (i : Nat) (t : Int), i < l.length → (cellsR l).set (i * 3 + 1) (.int .i32 t) = cellsR (l.set i ⟨(at' l i).f, t, (at' l i).v⟩)
  | [], i, _, h => by simp at h
  | r :: l, 0, t, _ => by simp [cellsR, cells1, at', List.getD_eq_getElem?_getD]
  | r :: l, i + 1, t, h => by
    have ih := cellsR_set l i t (by simpa using h)
    rw [at_cons, List.set_cons_succ]
    show (Value.int .i32 r.f :: .int .i32 r.t :: .int .i64 r.v :: cellsR l).set ((i + 1) * 3 + 1) _ = Value.int .i32 r.f :: .int .i32 r.t :: .int .i64 r.v :: cellsR _
    rw [← ih, show (i + 1) * 3 + 1 = i * 3 + 1 + 1 + 1 + 1 by omega]
    simp
theorem cellsR_one' (l : List Rg) : ∀ u ∈ cellsR l, u.oneCell' = true := by
  induction l with
  | nil => intro u h; cases h
  | cons r l ih =>
    intro u h
    simp only [cellsR, cells1, List.cons_append, List.nil_append, List.mem_cons] at h
    rcases h with rfl | rfl | rfl | h
    · rfl
    · rfl
    · rfl
    · exact ih u h

/-- A row of one's own holds ranges. -/
theorem seg_own {w : World} {base n : Nat} {v : Value} {l : List Rg} (h : w.ownsRow base 32 3 v n (cellsR l)) : ∃ x cap, v = .slice x n cap ∧ n = l.length ∧ n ≤ cap ∧ cap ≤ maxLen ∧ SegR w x n l := by
  have hl : n = l.length := by have := h.1; rw [cellsR_len] at this; omega
  rcases h.2 with ⟨rfl, h0⟩ | ⟨g, cap, cur, rfl, _, _, hnc, hcm, _, _⟩
  · exact ⟨none, 0, by rw [h0], hl, by omega, by unfold maxLen; omega, hl.symm, .inl h0⟩
  · refine ⟨_, cap, rfl, hl, hnc, hcm, hl.symm, .inr ⟨g, 0, rfl, fun i hi => ?_⟩⟩
    obtain ⟨a, b, c⟩ := cellsR_at l i (by omega)
    rw [Nat.zero_add]
    exact ⟨(h.cellAt _ (by omega)).trans a, (h.cellAt _ (by omega)).trans b, (h.cellAt _ (by omega)).trans c⟩

theorem own_below {w w' : World} {base n size : Nat} {e : TypeId} {v : Value} {xs : List Value} (h : w.ownsRow base e size v n xs) (hb : Below w.heap.size w w') : w'.ownsRow base e size v n xs := by
  refine ⟨h.1, ?_⟩
  rcases h.2 with h0 | ⟨g, cap, cur, hv, hg, hcur, h1, h2, h3, h4⟩
  · exact .inl h0
  · have hlt : g < w.heap.size := (h.lt g (by rw [hv]; rfl)).2
    exact .inr ⟨g, cap, cur, hv, hg, (hb.block g hlt).trans hcur, h1, h2, h3, h4⟩
theorem own_mono {w : World} {base base' n size : Nat} {e : TypeId} {v : Value} {xs : List Value} (h : w.ownsRow base e size v n xs) (hb : base' ≤ base) : w.ownsRow base' e size v n xs := by
  refine ⟨h.1, ?_⟩
  rcases h.2 with h0 | ⟨g, cap, cur, hv, hg, r⟩
  · exact .inl h0
  · exact .inr ⟨g, cap, cur, hv, Nat.le_trans hb hg, r⟩
theorem box3 (w : World) (u0 u1 u2 : Value) (t : TypeId) : (w.alloc (.cells #[u0, u1, u2] t)).cell? ⟨w.heap.size, 0, none⟩ = some u0 ∧ (w.alloc (.cells #[u0, u1, u2] t)).cell? ⟨w.heap.size, 1, none⟩ = some u1 ∧ (w.alloc (.cells #[u0, u1, u2] t)).cell? ⟨w.heap.size, 2, none⟩ = some u2 := by
  refine ⟨?_, ?_, ?_⟩ <;> simp

theorem one_new3 (w : World) (x : Rg) (t : TypeId) : ∀ j u, (cells1 x)[j]? = some u → (w.alloc (.cells #[.int .i32 x.f, .int .i32 x.t, .int .i64 x.v] t)).cell? ((⟨w.heap.size, 0, none⟩ : Addr).add j) = some u := by
  intro j u hj
  match j with
  | 0 => simp [cells1] at hj; subst hj; simp [Addr.add]
  | 1 => simp [cells1] at hj; subst hj; simp [Addr.add]
  | 2 => simp [cells1] at hj; subst hj; simp [Addr.add]
  | j + 3 => simp [cells1] at hj
theorem cells1_one' (x : Rg) : ∀ u ∈ cells1 x, u.oneCell' = true := by
  have := cellsR_one' [x]
  rw [cellsR_one] at this
  exact this
theorem push_stays' {o : List Rg} {x : Rg} {n : Nat} (hn : n + 1 = o.length) (h : goesB (at' o n) x = false) : push o x = o ++ [x] := by
  refine push_stays ?_
  rw [show o.length - 1 = n by omega]
  rintro ⟨_, h1, h2⟩
  unfold goesB at h
  rw [decide_eq_false_iff_not] at h
  exact h ⟨h1, h2⟩
theorem push_goes' {o : List Rg} {x : Rg} {n : Nat} (hn : n + 1 = o.length) (h : goesB (at' o n) x = true) : push o x = o.set n ⟨(at' o n).f, x.t, (at' o n).v⟩ := by
  unfold goesB at h
  rw [decide_eq_true_iff] at h
  have en : o.length - 1 = n := by omega
  have := push_goes (o := o) (x := x) (by omega) (by rw [en]; exact h.1) (by rw [en]; exact h.2)
  rw [en] at this
  exact this
theorem push_empty {o : List Rg} {x : Rg} (hn : 0 = o.length) : push o x = o ++ [x] := by
  refine push_stays ?_
  rintro ⟨h0, _⟩
  omega

theorem info32 : (Try.prog.info? 32).map (fun i => (i.zero, i.size, i.bytes)) = some (some (.agg #[.int .i32 0, .int .i32 0, .int .i64 0]), 3, 16) := by kernel_rfl
end Go.Proofs.Ytooiomfcemceiaa.A
