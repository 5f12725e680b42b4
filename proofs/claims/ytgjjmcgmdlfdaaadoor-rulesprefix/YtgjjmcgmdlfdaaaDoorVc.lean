/- The first rules of a right grammar; the same rule twice. -/
import Derived.Test.YtgjjmcgmdlfdaaaDoorVb
namespace Go.Proofs.YtgjjmcgmdlfdaaaDoor.A
open Go.RowKit
set_option linter.unusedVariables false

theorem good_app : ∀ (a b acc : List Rl), goodL acc (a ++ b) = (goodL acc a && goodL (acc ++ a) b)
  | [], b, acc => by simp [goodL]
  | x :: a, b, acc => by
    show (mayB acc x && goodL (acc ++ [x]) (a ++ b)) = ((mayB acc x && goodL (acc ++ [x]) a) && goodL (acc ++ x :: a) b)
    rw [good_app a b (acc ++ [x]), Bool.and_assoc, List.append_assoc]
    rfl
theorem right_take {l : List Rl} (h : rightG l = true) {k : Nat} (h1 : 1 ≤ k) (h2 : k ≤ l.length) : rightG (l.take k) = true := by
  unfold rightG at h ⊢
  simp only [Bool.and_eq_true, decide_eq_true_eq] at h ⊢
  have e : goodL [] (l.take k ++ l.drop k) = true := by rw [List.take_append_drop]; exact h.2
  rw [good_app, Bool.and_eq_true] at e
  refine ⟨⟨?_, ?_⟩, e.1⟩
  · rw [List.length_take]; omega
  · rw [List.length_take]; omega
theorem right_twice {l : List Rl} {x : Rl} {k : Nat} (h1 : 1 ≤ k) (hx : l[0]? = some x) : rightG (l.take k ++ [x]) = false := by
  unfold rightG
  have hm : mayB (l.take k) x = false := by
    unfold mayB
    have hin : x ∈ l.take k := by
      refine List.mem_of_getElem? (i := 0) ?_
      rw [List.getElem?_take, if_pos (show 0 < k from h1)]
      exact hx
    rw [List.any_eq_true.2 ⟨x, hin, by simp [sameN]⟩]
    simp
  have hg : goodL [] (l.take k ++ [x]) = false := by
    rw [good_app, List.nil_append]
    show (_ && (mayB (l.take k) x && true)) = false
    rw [hm]
    simp
  rw [hg]
  simp
/-- The cells of rules at a slice. -/
theorem rs_cells {w : World} {b off len : Nat} {l : List Rl} (h : Rs w (some ⟨b, off, none⟩) len l) : ∃ ps : List (Rl × Nd), ps.map (·.1) = l ∧ (∀ j u, (cellsQ ps)[j]? = some u → w.cell? ⟨b, off + j, none⟩ = some u) ∧ ∀ p ∈ ps, p.1.nm.size ≤ maxLen ∧ Rx w p.1.n p.1.t p.2.val := by
  have each : ∀ i, i < len → ∃ y : Nd, ∃ x : Rl, l[i]? = some x ∧ w.cell? ⟨b, off + i * 5, none⟩ = some (.string x.nm) ∧ w.cell? ⟨b, off + i * 5 + 1, none⟩ = some (.int .u8 y.k) ∧ w.cell? ⟨b, off + i * 5 + 2, none⟩ = some (.int .u16 y.s) ∧ w.cell? ⟨b, off + i * 5 + 3, none⟩ = some (.slice y.a y.l y.c) ∧ w.cell? ⟨b, off + i * 5 + 4, none⟩ = some (.bool x.br) ∧ x.nm.size ≤ maxLen ∧ Rx w x.n x.t y.val := by
    intro i hi
    obtain ⟨x, b', off', k, s, a', l', c, e, hx, p0, p1, p2, p3, p4, p5, p6⟩ := rs_open h hi
    simp only [Option.some.injEq, Addr.mk.injEq, and_true] at e
    obtain ⟨rfl, rfl⟩ := e
    exact ⟨⟨k, s, a', l', c⟩, x, hx, p0, p1, p2, p3, p4, p5, p6⟩
  obtain ⟨g, hg⟩ := @Go.Deep.choose_lt Nd ⟨⟨0, 0, none, 0, 0⟩⟩ len _ each
  have hlen := h.1
  have hat : ∀ i, i < len → ((List.range len).map fun i => (l.getD i ⟨{ data := #[] }, 0, (), false⟩, g i))[i]? = some (l.getD i ⟨{ data := #[] }, 0, (), false⟩, g i) := fun i hi => by
    rw [List.getElem?_map, List.getElem?_range hi]; rfl
  have hgd : ∀ i x, l[i]? = some x → l.getD i ⟨{ data := #[] }, 0, (), false⟩ = x := fun i x hx => by rw [List.getD_eq_getElem?_getD, hx]; rfl
  refine ⟨(List.range len).map fun i => (l.getD i ⟨{ data := #[] }, 0, (), false⟩, g i), ?_, ?_, ?_⟩
  · apply List.ext_getElem?
    intro i
    by_cases hi : i < len
    · obtain ⟨x, hx, _⟩ := hg i hi
      rw [List.map_map, List.getElem?_map, List.getElem?_range hi, hx]
      show some (l.getD i _) = some x
      rw [hgd i x hx]
    · rw [List.getElem?_eq_none (by simp; omega), List.getElem?_eq_none (by omega)]
  · intro j u hj
    have hjl : j < len * 5 := by
      have := (List.getElem?_eq_some_iff.1 hj).1
      rw [cellsQ_len] at this
      simpa using this
    have hi : j / 5 < len := by omega
    have hm : j % 5 < 5 := by omega
    obtain ⟨x, hx, q0, q1, q2, q3, q4, _, _⟩ := hg (j / 5) hi
    have e := cellsQ_at _ (j / 5) _ (hat (j / 5) hi) (j % 5) hm
    rw [show j / 5 * 5 + j % 5 = j by omega] at e
    rw [e, hgd _ x hx] at hj
    rcases (show j % 5 = 0 ∨ j % 5 = 1 ∨ j % 5 = 2 ∨ j % 5 = 3 ∨ j % 5 = 4 by omega) with h5 | h5 | h5 | h5 | h5
    all_goals
      rw [h5] at hj
      simp only [cellsP, List.getElem?_cons_zero, List.getElem?_cons_succ, Option.some.injEq] at hj
      subst hj
    · rw [show off + j = off + j / 5 * 5 by omega]; exact q0
    · rw [show off + j = off + j / 5 * 5 + 1 by omega]; exact q1
    · rw [show off + j = off + j / 5 * 5 + 2 by omega]; exact q2
    · rw [show off + j = off + j / 5 * 5 + 3 by omega]; exact q3
    · rw [show off + j = off + j / 5 * 5 + 4 by omega]; exact q4
  · intro p hp
    simp only [List.mem_map, List.mem_range] at hp
    obtain ⟨i, hi, rfl⟩ := hp
    obtain ⟨x, hx, _, _, _, _, _, h5, h6⟩ := hg i hi
    rw [hgd i x hx]
    exact ⟨h5, h6⟩
theorem cellsQ_one' (ps : List (Rl × Nd)) : ∀ u ∈ cellsQ ps, u.oneCell' = true := by
  induction ps with
  | nil => intro u h; cases h
  | cons p l ih =>
    intro u h
    rcases List.mem_append.1 h with h | h
    · exact cellsP_one' p u h
    · exact ih u h
/-- A row of one's own whose cells are rules'. -/
theorem own_rs {base : Nat} {w : World} {ps : List (Rl × Nd)} {v : Value} (h : w.ownsRow base 42 5 v ps.length (cellsQ ps)) (hr : ∀ p ∈ ps, p.1.nm.size ≤ maxLen ∧ Rx w p.1.n p.1.t p.2.val) : ∃ a cap, v = .slice a ps.length cap ∧ ps.length ≤ cap ∧ cap ≤ maxLen ∧ Rs w a ps.length (ps.map (·.1)) := by
  rcases h.2 with ⟨rfl, h0⟩ | ⟨g, cap, cur, rfl, hg, hcur, q1, q2, q3, q4⟩
  · rw [h0]
    exact ⟨none, 0, rfl, Nat.le_refl _, by unfold maxLen; omega, by simpa using h0, .inl rfl⟩
  · refine ⟨_, cap, rfl, q1, q2, by simp, ?_⟩
    by_cases hz : ps.length = 0
    · exact .inl hz
    · refine .inr ⟨g, 0, rfl, fun i x hx => ?_⟩
      rw [List.getElem?_map] at hx
      obtain ⟨p, hp, rfl⟩ := Option.map_eq_some_iff.1 hx
      have hi : i < ps.length := (List.getElem?_eq_some_iff.1 hp).1
      have hc : ∀ j, j < 5 → ∀ u, (cellsP p)[j]? = some u → w.cell? ⟨g, 0 + i * 5 + j, none⟩ = some u := fun j hj u hu => by
        rw [← cellsQ_at ps i p hp j hj, ← q4] at hu
        rw [cell_of_row w g (0 + i * 5 + j) cur 42 (0, 0) hcur]
        rw [List.getElem?_take_of_lt (by omega)] at hu
        rw [← hu]
        simp
      obtain ⟨h2, h3⟩ := hr p (List.mem_of_getElem? hp)
      exact ⟨p.2.k, p.2.s, p.2.a, p.2.l, p.2.c, hc 0 (by omega) _ rfl, hc 1 (by omega) _ rfl, hc 2 (by omega) _ rfl, hc 3 (by omega) _ rfl, hc 4 (by omega) _ rfl, h2, h3⟩
end Go.Proofs.YtgjjmcgmdlfdaaaDoor.A
