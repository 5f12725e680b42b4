/- A slice of bytes that came in, and what becomes of it behind a call. -/
import Derived.Test.YtpniapegamobmaaF
import Derived.OpenShut
namespace Go.Proofs.Ytpniapegamobmaa.A
open Go.RowKit

/-- What the walk is told of a slice of integers that came in: it is nil; or it leads to a row of 'cap' cells, the numbers 'zs' (the first 'len' are its elements, the rest its spare room), each fitting its kind. -/
def IsRow (k : IntKind) (w : World) (a : Option Addr) (len cap : Nat) (zs : List Int) : Prop :=
  (a = none ∧ len = 0 ∧ cap = 0 ∧ zs = []) ∨
  ∃ x, a = some x ∧ len ≤ cap ∧ cap ≤ maxLen ∧ zs.length = cap ∧ (∀ i, i < zs.length → w.cell? (x.add i) = some (.int k (zs.getD i 0))) ∧ ∀ n ∈ zs, (Lit.int k n).wf = true

theorem wf_u8 {n : Int} (h : (Lit.int .u8 n).wf = true) : 0 ≤ n ∧ n ≤ 255 := by
  have := bounds_u8 h
  omega

theorem byt_wf {l : List Int} (h : ∀ n ∈ l, (Lit.int .u8 n).wf = true) : Byt l := by
  intro i
  by_cases hi : i < l.length
  · have e : l.getD i 0 = l[i] := by simp [List.getD_eq_getElem?_getD, hi]
    rw [e]
    exact wf_u8 (h _ (List.getElem_mem hi))
  · simp [List.getD_eq_getElem?_getD, Nat.le_of_not_lt hi]

theorem seg_of_row {w : World} {a : Option Addr} {len cap : Nat} {z : List Int} (h : IsRow .u8 w a len cap z) :
    Seg w a len (z.take len) ∧ len ≤ cap ∧ cap ≤ maxLen := by
  rcases h with ⟨rfl, rfl, rfl, rfl⟩ | ⟨x, rfl, hl, hm, hz, hc, hw⟩
  · exact ⟨⟨rfl, byt_nil, .inl rfl⟩, Nat.le_refl _, by decide⟩
  · refine ⟨⟨by simp; omega, byt_wf fun n hn => hw n (List.mem_of_mem_take hn), ?_⟩, hl, hm⟩
    by_cases h0 : len = 0
    · exact .inl h0
    · obtain ⟨b, off, spot⟩ := x
      have hc0 := hc 0 (by omega)
      have hspot : spot = none := by simpa [Addr.add] using World.cell?_spot hc0
      subst hspot
      refine .inr ⟨b, off, rfl, fun i hi => ?_⟩
      have e := hc i (by omega)
      have e2 : (z.take len).getD i 0 = z.getD i 0 := by simp [List.getD_eq_getElem?_getD, hi]
      rw [e2, ← e]
      simp only [Addr.add]
      split
      · rename_i h; rw [h, Nat.add_zero]
      · rfl

theorem cell_lt {w : World} {a : Addr} {v : Value} (h : w.cell? a = some v) : a.block < w.heap.size := by
  rcases Nat.lt_or_ge a.block w.heap.size with h' | h'
  · exact h'
  · simp [World.cell?, Array.getElem?_eq_none h'] at h

theorem Seg.below {w w' : World} {x : Option Addr} {len : Nat} {zs : List Int} (h : Seg w x len zs) (hb : Below w.heap.size w w') : Seg w' x len zs := by
  obtain ⟨hz, hy, hx⟩ := h
  refine ⟨hz, hy, ?_⟩
  rcases hx with h | ⟨b, off, rfl, hc⟩
  · exact .inl h
  · exact .inr ⟨b, off, rfl, fun i hi => (hb.cell (p := ⟨b, off + i, none⟩) (cell_lt (hc i hi))).trans (hc i hi)⟩
end Go.Proofs.Ytpniapegamobmaa.A
