/- An expression that came in. -/
import Derived.Test.YtldeofdjhpfdaaaD
import Derived.OpenShut
import Derived.Deep.Slices
import Derived.Deep.Strs
namespace Go.Proofs.Ytldeofdjhpfdaaa.A
open Go.RowKit Go.ChangeShapes Go.WideShapes Go.Deep

def exI : (n : Nat) → Ex n | 0 => () | _ + 1 => (0, 0, [])
/-- The same, with room for a level more. -/
def liftE : (n : Nat) → Ex n → Ex (n + 1)
  | 0, _ => (0, 0, [])
  | n + 1, t => (kd t, st t, (ks t).map (fun x => liftE n x))
theorem rx_lift {w : World} : ∀ (n : Nat) (t : Ex n) (v : Value), Rx w n t v → Rx w (n + 1) (liftE n t) v
  | 0, _, _, h => h.elim
  | n + 1, t, _, ⟨a, len, cap, h1, h2, h3, h4, h5, h6, h7⟩ => by
    refine ⟨a, len, cap, h1, h2, h3, h4, h5, ?_, ?_⟩
    · show ((ks t).map (fun x => liftE n x)).length = len
      rw [List.length_map]; exact h6
    · rcases h7 with h7 | ⟨b, off, e, h7⟩
      · exact .inl h7
      · refine .inr ⟨b, off, e, fun i y hy => ?_⟩
        have hy' : ((ks t).map (fun x => liftE n x))[i]? = some y := hy
        rw [List.getElem?_map] at hy'
        obtain ⟨x, hx, rfl⟩ := Option.map_eq_some_iff.1 hy'
        obtain ⟨c0, c1, c2, p0, p1, p2, p3⟩ := h7 i x hx
        exact ⟨c0, c1, c2, p0, p1, p2, rx_lift n x _ p3⟩
theorem cells51 : Try.prog.cellsOf 51 = 3 := by kernel_rfl
theorem cells5 : Try.prog.cellsOf 5 = 1 := by kernel_rfl
theorem cells36 : Try.prog.cellsOf 36 = 1 := by kernel_rfl
theorem cells22 : Try.prog.cellsOf 22 = 1 := by kernel_rfl
set_option maxRecDepth 100000 in
theorem open_ex {H : Type} {enc : TypeId × Value → H} {W : World} {sp : Nat → Bool} : ∀ (fuel : Nat) (cs : List Value) (x : DataW H × List MemPlace), DataW.trod enc Try.prog W 0 sp true fuel 51 cs = some x →
    ∃ c0 c1 c2, cs = [c0, c1, c2] ∧ ∃ t : Ex fuel, Rx W fuel t (.agg #[c0, c1, c2]) := by
  intro fuel
  induction fuel using Nat.strongRecOn with
  | _ fuel ih =>
    intro cs x h
    obtain ⟨xs, n, hfuel, _, hlen, hxs, hf⟩ := DataW.trod_struct Try.underlying51 h
    rw [cells51] at hlen
    match cs, hlen with
    | [c0, c1, c2], _ =>
      refine ⟨c0, c1, c2, rfl, ?_⟩
      have u0 : DataW.trod enc Try.prog W 0 sp true n 5 [c0] = xs[0]? := by
        have this : DataW.trod enc Try.prog W 0 sp true n 5 (List.take (Try.prog.cellsOf 5) (List.drop 0 [c0, c1, c2])) = xs[0]? := hf 0 _ rfl
        rw [cells5] at this
        exact this
      have u1 : DataW.trod enc Try.prog W 0 sp true n 36 [c1] = xs[1]? := by
        have this : DataW.trod enc Try.prog W 0 sp true n 36 (List.take (Try.prog.cellsOf 36) (List.drop 1 [c0, c1, c2])) = xs[1]? := hf 1 _ rfl
        rw [cells36] at this
        exact this
      have u2 : DataW.trod enc Try.prog W 0 sp true n 22 [c2] = xs[2]? := by
        have this : DataW.trod enc Try.prog W 0 sp true n 22 (List.take (Try.prog.cellsOf 22) (List.drop 2 [c0, c1, c2])) = xs[2]? := hf 2 _ rfl
        rw [cells22] at this
        exact this
      have hxs3 : xs.length = 3 := hxs
      match xs, hxs3 with
      | [y0, y1, y2], _ =>
        simp only [List.getElem?_cons_zero, List.getElem?_cons_succ] at u0 u1 u2
        obtain ⟨s0, e0, _, w0⟩ := DataW.trod_int Try.underlying5 u0
        obtain ⟨s1, e1, _, w1⟩ := DataW.trod_int Try.underlying36 u1
        simp only [List.cons.injEq, and_true] at e0 e1
        subst e0; subst e1; subst hfuel
        have b0 := bounds_u8 w0
        have b1 := bounds_u16 w1
        obtain ⟨k0, rfl⟩ : ∃ k : Nat, s0 = (k : Int) := ⟨s0.toNat, by omega⟩
        obtain ⟨k1, rfl⟩ : ∃ k : Nat, s1 = (k : Int) := ⟨s1.toNat, by omega⟩
        rcases DataW.trod_slice Try.underlying22 u2 with ⟨hcs, _⟩ | ⟨a, len, cap, elems, rest, f, rfl, hcs, _, _, hl, hm, hel, hx, _⟩
        · simp only [List.cons.injEq, and_true] at hcs
          subst hcs
          exact ⟨(k0, k1, []), none, 0, 0, rfl, by show k0 < 256; omega, by show k1 < 65536; omega, Nat.le_refl _, by unfold maxLen; omega, rfl, .inl rfl⟩
        · simp only [List.cons.injEq, and_true] at hcs
          subst hcs
          have each : ∀ i, i < len → ∃ y : Ex f, ∃ d0 d1 d2, W.cell? (a.add (i * 3)) = some d0 ∧ W.cell? (a.add (i * 3 + 1)) = some d1 ∧ W.cell? (a.add (i * 3 + 2)) = some d2 ∧ Rx W f y (.agg #[d0, d1, d2]) := by
            intro i hi
            have hxi := hx i hi
            rw [cells51, List.getElem?_eq_getElem (by omega)] at hxi
            obtain ⟨cs', h1, h2⟩ := Option.bind_eq_some_iff.1 hxi
            obtain ⟨d0, d1, d2, rfl, y, hy⟩ := ih f (by omega) cs' _ h2
            obtain ⟨_, _, hcell⟩ := World.cells?_some h1
            have q0 := hcell 0 (by omega)
            have q1 := hcell 1 (by omega)
            have q2 := hcell 2 (by omega)
            rw [add_add] at q0 q1 q2
            exact ⟨y, d0, d1, d2, by simpa using q0, by simpa using q1, by simpa using q2, hy⟩
          obtain ⟨g, hg⟩ := @choose_lt (Ex f) ⟨exI f⟩ len _ each
          refine ⟨(k0, k1, (List.range len).map fun i => liftE f (g i)), some a, len, cap, rfl, by show k0 < 256; omega, by show k1 < 65536; omega, hl, hm, ?_, ?_⟩
          · show ((List.range len).map _).length = len
            simp
          · by_cases h0 : len = 0
            · exact .inl h0
            · obtain ⟨b, off, spot⟩ := a
              obtain ⟨_, _, _, z0, _⟩ := hg 0 (by omega)
              have hspot : spot = none := by simpa [Addr.add] using World.cell?_spot z0
              subst hspot
              refine .inr ⟨b, off, rfl, fun i y hy => ?_⟩
              have hy' : ((List.range len).map fun i => liftE f (g i))[i]? = some y := hy
              have hi : i < len := by have := (List.getElem?_eq_some_iff.1 hy').1; simpa using this
              simp only [List.getElem?_map, List.getElem?_range hi, Option.map_some, Option.some.injEq] at hy'
              subst hy'
              obtain ⟨d0, d1, d2, q0, q1, q2, hy⟩ := hg i hi
              have ha : ∀ j, (⟨b, off, none⟩ : Addr).add j = ⟨b, off + j, none⟩ := fun j => by
                simp only [Addr.add]
                split
                · rename_i h; rw [h]; rfl
                · rfl
              rw [ha] at q0 q1 q2
              exact ⟨d0, d1, d2, q0, by rw [Nat.add_assoc]; exact q1, by rw [Nat.add_assoc]; exact q2, rx_lift f _ _ hy⟩
end Go.Proofs.Ytldeofdjhpfdaaa.A
