/- A slice of ranges that came in. -/
import Derived.Test.YtooiomfcemceiaaE
import Derived.OpenShut
import Derived.Deep.Slices
import Derived.Deep.Strs
namespace Go.Proofs.Ytooiomfcemceiaa.A
open Go.RowKit Go.ChangeShapes Go.WideShapes Go.Deep

theorem cells32 : Try.prog.cellsOf 32 = 3 := by kernel_rfl
theorem cells21 : Try.prog.cellsOf 21 = 1 := by kernel_rfl
theorem cells3 : Try.prog.cellsOf 3 = 1 := by kernel_rfl

theorem open_ranges {H : Type} {enc : TypeId × Value → H} {W : World} {sp : Nat → Bool} {fuel : Nat} {a : Option Addr} {len cap : Nat} {x : DataW H × List MemPlace} (h : DataW.trod enc Try.prog W 0 sp true fuel 22 [.slice a len cap] = some x) :
    ∃ zs, SegR W a len zs ∧ len ≤ cap ∧ cap ≤ maxLen := by
  rcases open_slice Try.underlying22 h with ⟨hcs, _⟩ | ⟨a', len', cap', m, n, D, Pl, hcs, _, hl, hm, hmm, _, hx⟩
  · simp at hcs
    obtain ⟨rfl, rfl, rfl⟩ := hcs
    exact ⟨[], ⟨rfl, .inl rfl⟩, Nat.le_refl _, by unfold maxLen; omega⟩
  · simp at hcs
    obtain ⟨rfl, rfl, rfl⟩ := hcs
    have hlm : len ≤ m := by rw [hmm]; split <;> omega
    have each : ∀ i, i < len → ∃ r : Int × Int × Int, W.cell? (a'.add (i * 3)) = some (.int .i32 r.1) ∧ W.cell? (a'.add (i * 3 + 1)) = some (.int .i32 r.2.1) ∧ W.cell? (a'.add (i * 3 + 2)) = some (.int .i64 r.2.2) := by
      intro i hi
      obtain ⟨cs', h1, h2⟩ := hx i (by omega)
      rw [cells32] at h1
      obtain ⟨_, hlen, hcell⟩ := World.cells?_some h1
      obtain ⟨y0, y1, y2, k, hxy, _, u0, u1, u2⟩ := trod_struct3 Try.underlying32 h2
      match cs', hlen with
      | [v0, v1, v2], _ =>
        simp only [cells21, cells3, List.drop, List.take] at u0 u1 u2
        obtain ⟨s, e0, d0, _⟩ := DataW.trod_int Try.underlying21 u0
        obtain ⟨q, e1, d1, _⟩ := DataW.trod_int Try.underlying21 u1
        obtain ⟨p, e2, d2, _⟩ := DataW.trod_int Try.underlying3 u2
        simp only [List.cons.injEq, and_true] at e0 e1 e2
        subst e0; subst e1; subst e2
        have c0 := hcell 0 (by omega)
        have c1 := hcell 1 (by omega)
        have c2 := hcell 2 (by omega)
        rw [add_add] at c0 c1 c2
        exact ⟨(s, q, p), by simpa using c0, by simpa using c1, by simpa using c2⟩
    obtain ⟨q, hq⟩ := choose_lt each
    refine ⟨(List.range len).map fun i => ⟨(q i).1, (q i).2.1, (q i).2.2⟩, ⟨by simp, ?_⟩, hl, hm⟩
    by_cases h0 : len = 0
    · exact .inl h0
    · obtain ⟨b, off, spot⟩ := a'
      have hspot : spot = none := by simpa [Addr.add] using World.cell?_spot (hq 0 (by omega)).1
      subst hspot
      refine .inr ⟨b, off, rfl, fun i hi => ?_⟩
      have e : at' ((List.range len).map fun i => (⟨(q i).1, (q i).2.1, (q i).2.2⟩ : Rg)) i = ⟨(q i).1, (q i).2.1, (q i).2.2⟩ := by simp [at', List.getD_eq_getElem?_getD, hi]
      rw [e]
      obtain ⟨c0, c1, c2⟩ := hq i hi
      refine ⟨?_, ?_, ?_⟩
      · rw [← c0]
        simp only [Addr.add]
        split
        · rename_i h; rw [h]; rfl
        · rfl
      · rw [← c1]
        simp only [Addr.add]
        split
        · rename_i h; omega
        · rfl
      · rw [← c2]
        simp only [Addr.add]
        split
        · rename_i h; omega
        · rfl
end Go.Proofs.Ytooiomfcemceiaa.A
