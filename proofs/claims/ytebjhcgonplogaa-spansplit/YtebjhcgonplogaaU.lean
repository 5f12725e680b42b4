/- Cells of pieces of a slice of ranges. -/
import Derived.Test.YtebjhcgonplogaaI
import Derived.Test.YtebjhcgonplogaaS
namespace Go.Proofs.Ytebjhcgonplogaa.A
open Go.RowKit

theorem seg_cells {w : World} {b off : Nat} {l : List Rg} (h : ∀ i, i < l.length → w.cell? ⟨b, off + i * 3, none⟩ = some (.int .i32 (at' l i).f) ∧ w.cell? ⟨b, off + i * 3 + 1, none⟩ = some (.int .i32 (at' l i).t) ∧ w.cell? ⟨b, off + i * 3 + 2, none⟩ = some (.int .i64 (at' l i).v)) :
    ∀ j u, (cellsR l)[j]? = some u → w.cell? ((⟨b, off, none⟩ : Addr).add j) = some u := by
  intro j u hj
  have hlt : j < (cellsR l).length := by
    rcases Nat.lt_or_ge j (cellsR l).length with h | h
    · exact h
    · rw [List.getElem?_eq_none h] at hj; cases hj
  rw [cellsR_len] at hlt
  have hq : j / 3 < l.length := by omega
  obtain ⟨a0, a1, a2⟩ := cellsR_at l (j / 3) hq
  obtain ⟨b0, b1, b2⟩ := h (j / 3) hq
  have ha : (⟨b, off, none⟩ : Addr).add j = ⟨b, off + j, none⟩ := by
    simp only [Addr.add]
    split
    · rename_i h0; rw [h0]; rfl
    · rfl
  rw [ha]
  have hr : j % 3 = 0 ∨ j % 3 = 1 ∨ j % 3 = 2 := by omega
  rcases hr with e | e | e
  · rw [show j / 3 * 3 = j by omega] at a0
    rw [show off + j / 3 * 3 = off + j by omega] at b0
    rw [b0, ← a0]; exact hj
  · rw [show j / 3 * 3 + 1 = j by omega] at a1
    rw [show off + j / 3 * 3 + 1 = off + j by omega] at b1
    rw [b1, ← a1]; exact hj
  · rw [show j / 3 * 3 + 2 = j by omega] at a2
    rw [show off + j / 3 * 3 + 2 = off + j by omega] at b2
    rw [b2, ← a2]; exact hj
theorem at_drop (l : List Rg) (k i : Nat) : at' (l.drop k) i = at' l (k + i) := by
  simp [at', List.getD_eq_getElem?_getD]
theorem cells_head {w : World} {b off len i : Nat} {l : List Rg} (hl : l.length = len) (hi : i ≤ len) (h : ∀ i, i < len → w.cell? ⟨b, off + i * 3, none⟩ = some (.int .i32 (at' l i).f) ∧ w.cell? ⟨b, off + i * 3 + 1, none⟩ = some (.int .i32 (at' l i).t) ∧ w.cell? ⟨b, off + i * 3 + 2, none⟩ = some (.int .i64 (at' l i).v)) :
    ∀ j u, (cellsR (l.take i))[j]? = some u → w.cell? ((⟨b, off, none⟩ : Addr).add j) = some u := by
  refine seg_cells fun j hj => ?_
  have hj' : j < i := by simp at hj; omega
  rw [at_take l i j hj']
  exact h j (by omega)
theorem cells_tail {w : World} {b off len i : Nat} {l : List Rg} (hl : l.length = len) (h : ∀ i, i < len → w.cell? ⟨b, off + i * 3, none⟩ = some (.int .i32 (at' l i).f) ∧ w.cell? ⟨b, off + i * 3 + 1, none⟩ = some (.int .i32 (at' l i).t) ∧ w.cell? ⟨b, off + i * 3 + 2, none⟩ = some (.int .i64 (at' l i).v)) :
    ∀ j u, (cellsR (l.drop i))[j]? = some u → w.cell? ((⟨b, off + i * 3, none⟩ : Addr).add j) = some u := by
  refine seg_cells fun j hj => ?_
  have hj' : i + j < len := by simp at hj; omega
  have := h (i + j) hj'
  rw [at_drop]
  rw [show off + i * 3 + j * 3 = off + (i + j) * 3 by omega]
  exact this
end Go.Proofs.Ytebjhcgonplogaa.A
