/- A slice of codes that came in. -/
import Derived.Test.YtooiomfcemceiaaI
import Derived.Test.YtooiomfcemceiaaH
namespace Go.Proofs.Ytooiomfcemceiaa.A
open Go.RowKit Go.ChangeShapes Go.WideShapes Go.Deep

/-- Codes that stand in memory at a slice. -/
def SegC (w : World) (x : Option Addr) (len : Nat) (cs : List Int) : Prop :=
  cs.length = len ∧ (len = 0 ∨ ∃ b off, x = some ⟨b, off, none⟩ ∧ ∀ i, i < len → w.cell? ⟨b, off + i, none⟩ = some (.int .i32 (cs.getD i 0)))
theorem SegC.leads {w : World} {x : Option Addr} {len : Nat} {cs : List Int} (h : SegC w x len cs) (h0 : len ≠ 0) : ∃ b off, x = some ⟨b, off, none⟩ ∧ ∀ i, i < len → w.cell? ⟨b, off + i, none⟩ = some (.int .i32 (cs.getD i 0)) := by
  rcases h.2 with h | h
  · exact absurd h h0
  · exact h
theorem SegC.below {w w' : World} {x : Option Addr} {len : Nat} {cs : List Int} (h : SegC w x len cs) (hb : Below w.heap.size w w') : SegC w' x len cs := by
  obtain ⟨hz, hx⟩ := h
  refine ⟨hz, ?_⟩
  rcases hx with h | ⟨b, off, rfl, hc⟩
  · exact .inl h
  · exact .inr ⟨b, off, rfl, fun i hi => (hb.cell (p := ⟨b, off + i, none⟩) (cell_lt (hc i hi))).trans (hc i hi)⟩

theorem open_codes {H : Type} {enc : TypeId × Value → H} {W : World} {sp : Nat → Bool} {fuel : Nat} {a : Option Addr} {len cap : Nat} {x : DataW H × List MemPlace} (h : DataW.trod enc Try.prog W 0 sp true fuel 23 [.slice a len cap] = some x) :
    ∃ zs, SegC W a len zs ∧ len ≤ cap ∧ cap ≤ maxLen := by
  rcases open_slice Try.underlying23 h with ⟨hcs, _⟩ | ⟨a', len', cap', m, n, D, Pl, hcs, _, hl, hm, hmm, _, hx⟩
  · simp at hcs
    obtain ⟨rfl, rfl, rfl⟩ := hcs
    exact ⟨[], ⟨rfl, .inl rfl⟩, Nat.le_refl _, by unfold maxLen; omega⟩
  · simp at hcs
    obtain ⟨rfl, rfl, rfl⟩ := hcs
    have hlm : len ≤ m := by rw [hmm]; split <;> omega
    have each : ∀ i, i < len → ∃ r : Int, W.cell? (a'.add i) = some (.int .i32 r) := by
      intro i hi
      obtain ⟨cs', h1, h2⟩ := hx i (by omega)
      rw [cells21] at h1
      obtain ⟨_, hlen, hcell⟩ := World.cells?_some h1
      match cs', hlen with
      | [v0], _ =>
        obtain ⟨s, e0, d0, _⟩ := DataW.trod_int Try.underlying21 h2
        simp only [List.cons.injEq, and_true] at e0
        subst e0
        have c0 := hcell 0 (by omega)
        rw [add_add] at c0
        exact ⟨s, by simpa using c0⟩
    obtain ⟨q, hq⟩ := choose_lt each
    refine ⟨(List.range len).map fun i => q i, ⟨by simp, ?_⟩, hl, hm⟩
    by_cases h0 : len = 0
    · exact .inl h0
    · obtain ⟨b, off, spot⟩ := a'
      have hspot : spot = none := by simpa [Addr.add] using World.cell?_spot (hq 0 (by omega))
      subst hspot
      refine .inr ⟨b, off, rfl, fun i hi => ?_⟩
      have e : ((List.range len).map fun i => q i).getD i 0 = q i := by simp [List.getD_eq_getElem?_getD, hi]
      rw [e, ← hq i hi]
      simp only [Addr.add]
      split
      · rename_i h; rw [h]; rfl
      · rfl
end Go.Proofs.Ytooiomfcemceiaa.A
