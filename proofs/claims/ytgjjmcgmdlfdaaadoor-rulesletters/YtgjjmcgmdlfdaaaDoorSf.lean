/- What comes in: expressions that are not too great, words. -/
import Derived.Test.YtgjjmcgmdlfdaaaDoorUb
import Derived.OpenShut
namespace Go.Proofs.YtgjjmcgmdlfdaaaDoor.A
open Go.RowKit Go.ChangeShapes Go.WideShapes Go.Deep

/-- An expression that is not too great has no more levels than were looked at. -/
theorem rx_trim {w : World} : ∀ (m n : Nat) (t : Ex n) (v : Value), Rx w n t v → greatE n t m = false → ∃ t' : Ex m, Rx w m t' v
  | _, 0, _, _, h, _ => h.elim
  | 0, n + 1, t, _, _, hg => by unfold greatE at hg; simp at hg
  | m + 1, n + 1, t, v, ⟨a, len, cap, h1, h2, h3, h4, h5, h6, h7⟩, hg => by
    have hk : ∀ x ∈ ks t, greatE n x m = false := fun x hx => by
      unfold greatE at hg
      simp only [Bool.or_eq_false_iff] at hg
      have := hg.2.2
      rw [Bool.eq_false_iff, ne_eq, List.any_eq_true] at this
      cases hq : greatE n x m with
      | false => rfl
      | true => exact (this ⟨x, hx, hq⟩).elim
    rcases h7 with h7 | ⟨b, off, e, h7⟩
    · exact ⟨(kd t, st t, []), a, len, cap, h1, h2, h3, h4, h5, h7.symm, .inl h7⟩
    · have each : ∀ i, i < len → ∃ y : Ex m, ∃ c0 c1 c2, w.cell? ⟨b, off + i * 3, none⟩ = some c0 ∧ w.cell? ⟨b, off + i * 3 + 1, none⟩ = some c1 ∧ w.cell? ⟨b, off + i * 3 + 2, none⟩ = some c2 ∧ Rx w m y (.agg #[c0, c1, c2]) := by
        intro i hi
        have hx : (ks t)[i]? = some ((ks t)[i]'(by omega)) := by simp
        obtain ⟨c0, c1, c2, p0, p1, p2, p3⟩ := h7 i _ hx
        obtain ⟨y, hy⟩ := rx_trim m n _ _ p3 (hk _ (List.mem_of_getElem? hx))
        exact ⟨y, c0, c1, c2, p0, p1, p2, hy⟩
      obtain ⟨g, hgf⟩ := @choose_lt (Ex m) ⟨exI m⟩ len _ each
      refine ⟨(kd t, st t, (List.range len).map g), a, len, cap, h1, h2, h3, h4, h5, ?_, .inr ⟨b, off, e, fun i y hy => ?_⟩⟩
      · show ((List.range len).map g).length = len
        simp
      · have hy' : ((List.range len).map g)[i]? = some y := hy
        have hi : i < len := by have := (List.getElem?_eq_some_iff.1 hy').1; simpa using this
        simp only [List.getElem?_map, List.getElem?_range hi, Option.map_some, Option.some.injEq] at hy'
        subst hy'
        exact hgf i hi

theorem cells3 : Tryd.prog.cellsOf 3 = 1 := by kernel_rfl
theorem open_words {H : Type} {enc : TypeId × Value → H} {W : World} {sp : Nat → Bool} {fuel : Nat} {a : Option Addr} {len cap : Nat} {x : DataW H × List MemPlace} (h : DataW.trod enc Tryd.prog W 0 sp true fuel 25 [.slice a len cap] = some x) :
    ∃ zs : List Int, Wd W a zs ∧ zs.length = len ∧ len ≤ cap ∧ cap ≤ maxLen := by
  rcases open_slice Tryd.underlying25 h with ⟨hcs, _⟩ | ⟨a', len', cap', m, n, D, Pl, hcs, _, hl, hm, hmm, _, hx⟩
  · simp at hcs
    obtain ⟨rfl, rfl, rfl⟩ := hcs
    exact ⟨[], fun i c hc => by simp at hc, rfl, Nat.le_refl _, by unfold maxLen; omega⟩
  · simp at hcs
    obtain ⟨rfl, rfl, rfl⟩ := hcs
    have hlm : len ≤ m := by rw [hmm]; split <;> omega
    have each : ∀ i, i < len → ∃ r : Int, W.cell? (a'.add i) = some (.int .i64 r) := by
      intro i hi
      obtain ⟨cs', h1, h2⟩ := hx i (by omega)
      rw [cells3] at h1
      obtain ⟨_, hlen, hcell⟩ := World.cells?_some h1
      match cs', hlen with
      | [v0], _ =>
        obtain ⟨s, e0, d0, _⟩ := DataW.trod_int Tryd.underlying3 h2
        simp only [List.cons.injEq, and_true] at e0
        subst e0
        have c0 := hcell 0 (by omega)
        rw [add_add] at c0
        exact ⟨s, by simpa using c0⟩
    obtain ⟨q, hq⟩ := choose_lt each
    refine ⟨(List.range len).map fun i => q i, fun i c hc => ?_, by simp, hl, hm⟩
    have hi : i < len := by have := (List.getElem?_eq_some_iff.1 hc).1; simpa using this
    simp only [List.getElem?_map, List.getElem?_range hi, Option.map_some, Option.some.injEq] at hc
    subst hc
    obtain ⟨b, off, spot⟩ := a'
    have hspot : spot = none := by simpa [Addr.add] using World.cell?_spot (hq 0 (by omega))
    subst hspot
    refine ⟨b, off, rfl, ?_⟩
    rw [← hq i hi]
    simp only [Addr.add]
    split
    · rename_i h; rw [h]; rfl
    · rfl
end Go.Proofs.YtgjjmcgmdlfdaaaDoor.A
