/- A machine without free steps that came in. -/
import Derived.Test.YtccaknabpnpjaaaDoorPk20
import Derived.OpenShut
import Derived.Lib.LaidTab
namespace Go.Proofs.YtccaknabpnpjaaaDoor.A
open Go.RowKit Go.ChangeShapes Go.WideShapes Go.Deep

theorem cells46 : Tryd.prog.cellsOf 46 = 16 := by kernel_rfl
theorem cells22 : Tryd.prog.cellsOf 22 = 1 := by kernel_rfl
theorem cells23 : Tryd.prog.cellsOf 23 = 1 := by kernel_rfl
theorem cells25 : Tryd.prog.cellsOf 25 = 2 := by kernel_rfl
theorem arr16 {H : Type} {enc : TypeId × Value → H} {W : World} {base : Nat} {sp : Nat → Bool} {held : Bool} {fuel : Nat} {cs : List Value} {x : DataW H × List MemPlace}
    (h : DataW.trod enc Tryd.prog W base sp held fuel 46 cs = some x) : cs.length = 16 ∧ ∀ i, i < 16 → ∃ z : Int, cs[i]? = some (.int .i64 z) := by
  cases fuel with
  | zero => simp [DataW.trod] at h
  | succ fuel =>
    simp only [DataW.trod, Tryd.underlying46, cells3, cells46, Nat.mul_one] at h
    split at h
    · rename_i hl
      obtain ⟨xs, hm, hx⟩ := Option.map_eq_some_iff.1 h
      refine ⟨hl, fun i hi => ?_⟩
      obtain ⟨b, hb, hf⟩ := Lib.mapM_at hm i i (by simp [hi])
      obtain ⟨z, hc, _, _⟩ := DataW.trod_int Tryd.underlying3 hf
      refine ⟨z, ?_⟩
      have := congrArg (·[0]?) hc
      simpa [List.getElem?_take, List.getElem?_drop] using this
    · cases h
theorem rows_of {W : World} {b off n : Nat} (h : ∀ i, i < n → ∀ j, j < 16 → ∃ z : Int, W.cell? ⟨b, off + i * 16 + j, none⟩ = some (.int .i64 z)) : ∃ nx : List (List Int), nx.length = n ∧ Dr W (some ⟨b, off, none⟩) nx := by
  obtain ⟨q, hq⟩ := choose_lt (p := fun i (g : Nat → Int) => ∀ j, j < 16 → W.cell? ⟨b, off + i * 16 + j, none⟩ = some (.int .i64 (g j))) (fun i hi => by
    obtain ⟨g, hg⟩ := choose_lt (h i hi)
    exact ⟨g, hg⟩)
  refine ⟨(List.range n).map fun i => (List.range 16).map fun j => q i j, by simp, fun i row hr => ?_⟩
  have hi : i < n := by have := (List.getElem?_eq_some_iff.1 hr).1; simpa using this
  simp only [List.getElem?_map, List.getElem?_range hi, Option.map_some, Option.some.injEq] at hr
  subst hr
  refine ⟨by simp, b, off, rfl, fun j v hj => ?_⟩
  have hj16 : j < 16 := by have := (List.getElem?_eq_some_iff.1 hj).1; simpa [cI] using this
  simp only [cI, List.getElem?_map, List.getElem?_range hj16, Option.map_some, Option.some.injEq] at hj
  subst hj
  exact hq i hi j hj16
theorem open_rows {H : Type} {enc : TypeId × Value → H} {W : World} {sp : Nat → Bool} {fuel : Nat} {v : Value} {x : DataW H × List MemPlace} (h : DataW.trod enc Tryd.prog W 0 sp true fuel 22 [v] = some x) :
    ∃ (a : Option Addr) (len cap : Nat) (nx : List (List Int)), v = .slice a len cap ∧ Dr W a nx ∧ nx.length = len ∧ len ≤ maxLen := by
  rcases open_slice Tryd.underlying22 h with ⟨hcs, _⟩ | ⟨a', len', cap', m, n, D, Pl, hcs, _, hl, hm, hmm, _, hx⟩
  · simp only [List.cons.injEq, and_true] at hcs
    subst hcs
    exact ⟨none, 0, 0, [], rfl, fun i c hc => by simp at hc, rfl, by unfold maxLen; omega⟩
  · simp only [List.cons.injEq, and_true] at hcs
    subst hcs
    have hlm : len' ≤ m := by rw [hmm]; split <;> omega
    rcases Nat.eq_zero_or_pos len' with h0 | h0
    · subst h0
      exact ⟨_, 0, cap', [], rfl, fun i c hc => by simp at hc, rfl, by omega⟩
    have each : ∀ i, i < len' → ∀ j, j < 16 → ∃ z : Int, W.cell? (a'.add (i * 16 + j)) = some (.int .i64 z) := by
      intro i hi j hj
      obtain ⟨cs', h1, h2⟩ := hx i (by omega)
      rw [cells46] at h1
      obtain ⟨_, hlen, hcell⟩ := World.cells?_some h1
      obtain ⟨z, hz⟩ := (arr16 h2).2 j hj
      have c0 := hcell j (by omega)
      rw [add_add, hz] at c0
      exact ⟨z, c0⟩
    obtain ⟨b, off, spot⟩ := a'
    have hspot : spot = none := by
      obtain ⟨z, hz⟩ := each 0 h0 0 (by omega)
      simpa [Addr.add] using World.cell?_spot hz
    subst hspot
    obtain ⟨nx, h1, h2⟩ := rows_of (W := W) (b := b) (off := off) (n := len') (fun i hi j hj => by
      have := each i hi j hj
      rw [add_at, ← Nat.add_assoc] at this
      exact this)
    exact ⟨_, len', cap', nx, rfl, h2, h1, by omega⟩
set_option maxRecDepth 100000 in
theorem okWide_dfa {W : World} {base : Nat} {v : Value} (h : Value.okWide Tryd.prog W .any base 25 v) : ∃ cs, v = .agg cs := by
  unfold Value.okWide at h
  rw [Tryd.underlying25] at h
  obtain ⟨cs, rfl, _⟩ := h
  exact ⟨cs, rfl⟩
set_option maxRecDepth 100000 in
theorem open_dfa {H : Type} {enc : TypeId × Value → H} {W : World} {sp : Nat → Bool} {fuel : Nat} {cs : Array Value} {x : DataW H × List MemPlace} (h : DataW.trod enc Tryd.prog W 0 sp true fuel 25 (Value.agg cs).cells.toList = some x) :
    ∃ (a0 a1 : Option Addr) (n0 n1 c0 c1 : Nat) (nx : List (List Int)) (ru : List Int), cs = #[.slice a0 n0 c0, .slice a1 n1 c1] ∧ Dm W a0 a1 n0 n1 nx ru := by
  have h' : DataW.trod enc Tryd.prog W 0 sp true fuel 25 cs.toList = some x := h
  obtain ⟨xs, n, hfuel, _, hlen, hxs, hf⟩ := DataW.trod_struct Tryd.underlying25 h'
  rw [cells25] at hlen
  obtain ⟨l⟩ := cs
  simp only at hlen hf
  match l, hlen with
  | [d0, d1], _ =>
    have u0 : DataW.trod enc Tryd.prog W 0 sp true n 22 [d0] = xs[0]? := by
      have this : DataW.trod enc Tryd.prog W 0 sp true n 22 (List.take (Tryd.prog.cellsOf 22) (List.drop 0 [d0, d1])) = xs[0]? := hf 0 _ rfl
      rw [cells22] at this
      exact this
    have u1 : DataW.trod enc Tryd.prog W 0 sp true n 23 [d1] = xs[1]? := by
      have this : DataW.trod enc Tryd.prog W 0 sp true n 23 (List.take (Tryd.prog.cellsOf 23) (List.drop 1 [d0, d1])) = xs[1]? := hf 1 _ rfl
      rw [cells23] at this
      exact this
    have hxs2 : xs.length = 2 := hxs
    match xs, hxs2 with
    | [y0, y1], _ =>
      simp only [List.getElem?_cons_zero, List.getElem?_cons_succ] at u0 u1
      obtain ⟨a0, l0, c0, nx, rfl, f1, f2, f3⟩ := open_rows u0
      obtain ⟨a1, l1, c1, ru, rfl, r1, r2, r3⟩ := open_ints' u1
      exact ⟨a0, a1, l0, l1, c0, c1, nx, ru, rfl, ⟨f2, r2, f1, r1, f3, r3⟩⟩
end Go.Proofs.YtccaknabpnpjaaaDoor.A
