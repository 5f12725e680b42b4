/- Ahead of layer 6: a row of numbers at a value, and 'into' upon it. -/
import Derived.Test.YtldeofdjhpfdaaaNh
import Derived.Deep.Heap
namespace Go.Proofs.Ytldeofdjhpfdaaa.A
open Go.RowKit

/-- Numbers at a slice, nil or not. -/
def Row (w : World) (base : Nat) (v : Value) (l : List Int) : Prop := (v = .slice none 0 0 ∧ l = []) ∨ ∃ b off cap, base ≤ b ∧ v = .slice (some ⟨b, off, none⟩) l.length cap ∧ l.length ≤ cap ∧ Wd w (some ⟨b, off, none⟩) l
theorem row_below {w w' : World} {base : Nat} {v : Value} {l : List Int} (hb : Below w.heap.size w w') (h : Row w base v l) : Row w' base v l := by
  rcases h with h | ⟨b, off, cap, h0, h1, h2, h3⟩
  · exact .inl h
  · exact .inr ⟨b, off, cap, h0, h1, h2, wd_below hb h3⟩
theorem row_base {w : World} {base base' : Nat} {v : Value} {l : List Int} (hb : base' ≤ base) (h : Row w base v l) : Row w base' v l := by
  rcases h with h | ⟨b, off, cap, h0, h1, h2, h3⟩
  · exact .inl h
  · exact .inr ⟨b, off, cap, by omega, h1, h2, h3⟩
/-- What is written below its base leaves a row as it is. -/
theorem row_set {w : World} {base B i : Nat} {v u : Value} {l : List Int} (hB : B < base) (h : Row w base v l) : Row (w.setCell ⟨B, i, none⟩ u) base v l := by
  rcases h with h | ⟨b, off, cap, h0, h1, h2, h3⟩
  · exact .inl h
  · refine .inr ⟨b, off, cap, h0, h1, h2, fun j c hc => ?_⟩
    obtain ⟨b', off', e, k⟩ := h3 j c hc
    refine ⟨b', off', e, ?_⟩
    have hb' : b' = b := by simp only [Option.some.injEq, Addr.mk.injEq] at e; exact e.1.symm
    rw [← k]
    unfold World.cell?
    rw [Go.Deep.blk_setCell_other _ _ _ _ (show b' ≠ B by omega)]
theorem own_row {w : World} {base : Nat} {v : Value} {l : List Int} (h : w.ownsRow base 3 1 v l.length (l.map (Value.int .i64))) : Row w base v l := by
  obtain ⟨_, h | ⟨g, cap, cur, h1, h2, h3, h4, _, _, h7⟩⟩ := h
  · exact .inl ⟨h.1, List.eq_nil_of_length_eq_zero h.2⟩
  · refine .inr ⟨g, 0, cap, h2, h1, h4, fun i c hc => ⟨g, 0, rfl, ?_⟩⟩
    rw [cell_of_row _ _ (0 + i) _ _ _ h3, Nat.zero_add, ← Array.getElem?_toList]
    have hlt := (List.getElem?_eq_some_iff.1 hc).1
    have e : (cur.toList.take (l.length * 1))[i]? = (l.map (Value.int .i64))[i]? := by rw [h7]
    rw [List.getElem?_take_of_lt (by omega), List.getElem?_map, hc] at e
    exact e
theorem into_row (base : Nat) (v : Value) (l : List Int) (x : Int) (w : World) (hl : l.length ≤ 10000) (h : Row w base v l) :
    Calls Try.prog 34 #[v, .int .i64 x] w fun e w' => ∃ v', e = .returned v' ∧ Row w' w.heap.size v' (intoL l x) ∧ Below w.heap.size w w' := by
  rcases h with ⟨rfl, rfl⟩ | ⟨b, off, cap, _, rfl, h2, h3⟩
  · refine (into_nil x w).mono ?_
    rintro e w' ⟨v', rfl, ho, hb⟩
    exact ⟨v', rfl, own_row (l := [x]) ho, hb⟩
  · refine (into_some b off l.length cap l x w rfl hl h2 h3).mono ?_
    rintro e w' ⟨v', rfl, ho, hb⟩
    exact ⟨v', rfl, own_row ho, hb⟩

end Go.Proofs.Ytldeofdjhpfdaaa.A
