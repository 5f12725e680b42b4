/- Parse: lines, and a list of rules that is being made. -/
import Derived.Test.YtgjjmcgmdlfdaaaDoorTd
import Derived.Lib.SplitLaws
namespace Go.Proofs.YtgjjmcgmdlfdaaaDoor.A
open Go.RowKit
set_option linter.unusedVariables false

def cellsP (p : Rl × Nd) : List Value := [.string p.1.nm, .int .u8 p.2.k, .int .u16 p.2.s, .slice p.2.a p.2.l p.2.c, .bool p.1.br]
def cellsQ : List (Rl × Nd) → List Value | [] => [] | p :: l => cellsP p ++ cellsQ l
theorem cellsQ_app (a b : List (Rl × Nd)) : cellsQ (a ++ b) = cellsQ a ++ cellsQ b := by
  induction a with
  | nil => rfl
  | cons r a ih => simp [cellsQ, ih]
theorem cellsQ_one (p : Rl × Nd) : cellsQ [p] = cellsP p := by simp [cellsQ]
theorem cellsQ_len : ∀ l : List (Rl × Nd), (cellsQ l).length = l.length * 5
  | [] => rfl
  | r :: l => by simp [cellsQ, cellsP, cellsQ_len l]; omega
theorem cellsQ_at : ∀ (l : List (Rl × Nd)) (i : Nat) (p : Rl × Nd), l[i]? = some p → ∀ j, j < 5 → (cellsQ l)[i * 5 + j]? = (cellsP p)[j]?
  | [], i, p, h, _, _ => by simp at h
  | r :: l, 0, p, h, j, hj => by
    simp at h
    subst h
    show (cellsP r ++ cellsQ l)[0 * 5 + j]? = _
    rw [List.getElem?_append_left (by simp [cellsP]; omega)]
    congr 1
    omega
  | r :: l, i + 1, p, h, j, hj => by
    have ih := cellsQ_at l i p (by simpa using h) j hj
    show (cellsP r ++ cellsQ l)[(i + 1) * 5 + j]? = _
    rw [List.getElem?_append_right (by simp [cellsP]; omega), ← ih]
    congr 1
    simp [cellsP]
    omega
theorem cellsP_one' (p : Rl × Nd) : ∀ u ∈ cellsP p, u.oneCell' = true := by
  intro u h
  simp only [cellsP, List.mem_cons, List.not_mem_nil, or_false] at h
  rcases h with rfl | rfl | rfl | rfl | rfl <;> rfl
/-- A list of rules that is being made. -/
def Mkr (base : Nat) (w : World) (ps : List (Rl × Nd)) (v : Value) : Prop :=
  w.ownsRow base 42 5 v ps.length (cellsQ ps) ∧ ∀ p ∈ ps, p.1.nm.size ≤ 2000 ∧ ∃ S, Tr w p.1.n p.1.t p.2 S ∧ ∀ b ∈ S, base ≤ b ∧ b < w.heap.size ∧ v.ownBlock ≠ some b
theorem mkr_nil (base : Nat) (w : World) : Mkr base w [] (.slice none 0 0) := ⟨World.ownsRow_nil _ _ _ _, fun p h => by cases h⟩
theorem own_kept {base n size : Nat} {w w' : World} {e : TypeId} {v : Value} {xs : List Value} (h1 : w.ownsRow base e size v n xs) (hk : Keep base w w') : w'.ownsRow base e size v n xs := by
  have hlt := h1.lt
  refine ⟨h1.1, ?_⟩
  rcases h1.2 with h0 | ⟨g, cap, cur, hv, hg, hcur, q1, q2, q3, q4⟩
  · exact .inl h0
  · exact .inr ⟨g, cap, cur, hv, hg, (hk.2 g hg (hlt g (by rw [hv]; rfl)).2).trans hcur, q1, q2, q3, q4⟩
theorem mkr_kept {base : Nat} {w w' : World} {ps : List (Rl × Nd)} {v : Value} (h : Mkr base w ps v) (hk : Keep base w w') : Mkr base w' ps v := by
  refine ⟨own_kept h.1 hk, fun p hp => ?_⟩
  obtain ⟨h2, S, hT, hS⟩ := h.2 p hp
  exact ⟨h2, S, tr_keep _ _ _ _ (fun b hb => hk.2 b (hS b hb).1 (hS b hb).2.1) hT, fun b hb => ⟨(hS b hb).1, Nat.lt_of_lt_of_le (hS b hb).2.1 hk.1, (hS b hb).2.2⟩⟩
theorem mkr_app {base : Nat} {w w3 : World} {ps : List (Rl × Nd)} {v : Value} (h : Mkr base w ps v) {x : Rl} {y : Nd} {S : List Nat} (hn : x.nm.size ≤ 2000) (hT : Tr w x.n x.t y S) (hS : ∀ b ∈ S, base ≤ b ∧ v.ownBlock ≠ some b) {g cap : Nat}
    (hown : w3.ownsRow base 42 5 (.slice (some ⟨g, 0, none⟩) (ps.length + 1) cap) (ps.length + 1) (cellsQ ps ++ cellsP (x, y))) (hgrow : w.grownBy w3 v.ownBlock) (hat : v.ownBlock = some g ∨ g = w.heap.size) :
    Mkr base w3 (ps ++ [(x, y)]) (.slice (some ⟨g, 0, none⟩) (ps.length + 1) cap) := by
  refine ⟨by rw [cellsQ_app, cellsQ_one, List.length_append]; exact hown, ?_⟩
  have hnew : ∀ (n : Nat) (t : Ex n) (y : Nd) (S : List Nat), Tr w n t y S → (∀ b ∈ S, base ≤ b ∧ v.ownBlock ≠ some b) → Tr w3 n t y S ∧ ∀ b ∈ S, base ≤ b ∧ b < w3.heap.size ∧ (Value.slice (some ⟨g, 0, none⟩) (ps.length + 1) cap).ownBlock ≠ some b := by
    intro n t y S hT hS
    have hlt := tr_lt n t y S hT
    refine ⟨tr_keep n t y S (fun b hb => hgrow.block b (hlt b hb) (fun e => (hS b hb).2 e.symm)) hT, fun b hb => ⟨(hS b hb).1, Nat.lt_of_lt_of_le (hlt b hb) hgrow.size, fun e => ?_⟩⟩
    have e' : g = b := by simpa [Value.ownBlock] using e
    subst e'
    rcases hat with hat | hat
    · exact (hS g hb).2 hat
    · have := hlt g hb; omega
  intro p hp
  rcases List.mem_append.1 hp with hp | hp
  · obtain ⟨h2, S', hT', hS'⟩ := h.2 p hp
    obtain ⟨a1, a2⟩ := hnew _ _ _ _ hT' (fun b hb => ⟨(hS' b hb).1, (hS' b hb).2.2⟩)
    exact ⟨h2, S', a1, a2⟩
  · have e : p = (x, y) := by simpa using hp
    subst e
    obtain ⟨a1, a2⟩ := hnew _ _ _ _ hT hS
    exact ⟨hn, S, a1, a2⟩
theorem mkr_rs {base : Nat} {w : World} {ps : List (Rl × Nd)} {v : Value} (h : Mkr base w ps v) : ∃ a cap, v = .slice a ps.length cap ∧ ps.length ≤ cap ∧ cap ≤ maxLen ∧ Rs w a ps.length (ps.map (·.1)) := by
  rcases h.1.2 with ⟨rfl, h0⟩ | ⟨g, cap, cur, rfl, hg, hcur, q1, q2, q3, q4⟩
  · rw [h0]
    exact ⟨none, 0, rfl, Nat.le_refl _, by unfold maxLen; omega, by simpa using h0, .inl rfl⟩
  · refine ⟨_, cap, rfl, q1, q2, by simp, ?_⟩
    by_cases hz : ps.length = 0
    · exact .inl hz
    · refine .inr ⟨g, 0, rfl, fun i x hx => ?_⟩
      rw [List.getElem?_map] at hx
      obtain ⟨p, hp, rfl⟩ := Option.map_eq_some_iff.1 hx
      have hi : i < ps.length := (List.getElem?_eq_some_iff.1 hp).1
      have hc : ∀ j, j < 5 → ∀ u, (cellsP p)[j]? = some u → w.cell? ⟨g, 0 + i * 5 + j, none⟩ = some u := fun j hj u hu => by
        rw [← cellsQ_at ps i p hp j hj, ← q4] at hu
        rw [cell_of_row w g (0 + i * 5 + j) cur 42 (0, 0) hcur]
        rw [List.getElem?_take_of_lt (by omega)] at hu
        rw [← hu]
        simp
      obtain ⟨h2, S, hT, hS⟩ := h.2 p (List.mem_of_getElem? hp)
      exact ⟨p.2.k, p.2.s, p.2.a, p.2.l, p.2.c, hc 0 (by omega) _ rfl, hc 1 (by omega) _ rfl, hc 2 (by omega) _ rfl, hc 3 (by omega) _ rfl, hc 4 (by omega) _ rfl, by unfold maxLen; omega, tr_rx _ _ _ _ hT⟩

/-- The rules of lines; the line of a fault. -/
def readL : List Rl → Nat → List ByteArray → Option (List Rl) × Nat
  | acc, _, [] => (some acc, 0)
  | acc, i, L :: r => match ruleF L with
    | none => (none, i + 1)
    | some x => if mayB acc x = true then readL (acc ++ [x]) (i + 1) r else (none, i + 1)
theorem readL_good : ∀ (ls : List ByteArray) (acc : List Rl) (i n : Nat) (l : List Rl), readL acc i ls = (some l, n) → n = 0 ∧ ∃ r, l = acc ++ r ∧ r.length = ls.length ∧ goodL acc r = true
  | [], acc, i, n, l, h => by
    cases h
    exact ⟨rfl, [], by simp, rfl, rfl⟩
  | L :: ls, acc, i, n, l, h => by
    have h' : (match ruleF L with
      | none => (none, i + 1)
      | some x => if mayB acc x = true then readL (acc ++ [x]) (i + 1) ls else (none, i + 1)) = (some l, n) := h
    cases hR : ruleF L with
    | none => rw [hR] at h'; cases h'
    | some x =>
      rw [hR] at h'
      have h2 : (if mayB acc x = true then readL (acc ++ [x]) (i + 1) ls else (none, i + 1)) = (some l, n) := h'
      by_cases hm : mayB acc x = true
      · rw [if_pos hm] at h2
        obtain ⟨e1, r, e2, e3, e4⟩ := readL_good ls _ _ _ _ h2
        exact ⟨e1, x :: r, by rw [e2]; simp, by simp [e3], by show (mayB acc x && goodL (acc ++ [x]) r) = true; rw [hm, e4]; rfl⟩
      · rw [if_neg hm] at h2; cases h2
theorem split_le (sep : ByteArray) : ∀ (k : Nat) (s : ByteArray), ∀ x ∈ Lib.splitB sep 0 k s, x.size ≤ s.size
  | 0, s, x, h => by
    have e : x = s := by simpa [Lib.splitB] using h
    rw [e]
    exact Nat.le_refl _
  | k + 1, s, x, h => by
    unfold Lib.splitB at h
    split at h
    · have e : x = s := by simpa using h
      rw [e]
      exact Nat.le_refl _
    · rcases List.mem_cons.1 h with rfl | h
      · simp; omega
      · have := split_le sep k _ x h
        simp at this
        omega
def nlB : ByteArray := { data := #[10] }
def linesB (s : ByteArray) : List ByteArray := Lib.splitB nlB 0 (Lib.countB s nlB) s
theorem lines_len (s : ByteArray) : (linesB s).length = Lib.countB s nlB + 1 := Lib.splitB_all nlB (by decide) 0 _ s rfl
theorem count_nl (s : ByteArray) : Lib.countByte s.data.toList 10 = Lib.countB s nlB := (Lib.count_one 10 s.data.toList).symm
/-- What Parse tells of a text that isn't too long. -/
def parseF (s : ByteArray) : Option (List Rl) × Nat × Nat := if 16 ≤ Lib.countB s nlB then (none, 0, 1) else match readL [] 0 (linesB s) with
  | (none, n) => (none, n, 6)
  | (some l, _) => (some l, 0, 0)
/-- What Parse answers. -/
def OutP (w : World) (R : Option (List Rl) × Nat × Nat) (e : Ending) (w' : World) : Prop := match R with
  | (none, n, f) => e = .returned (.tuple #[.slice none 0 0, .int .i64 n, .int .i64 f]) ∧ Below w.heap.size w w'
  | (some l, n, f) => ∃ a len cap, e = .returned (.tuple #[.slice a len cap, .int .i64 n, .int .i64 f]) ∧ len ≤ cap ∧ cap ≤ maxLen ∧ Rs w' a len l ∧ Below w.heap.size w w'
end Go.Proofs.YtgjjmcgmdlfdaaaDoor.A
