/- The document's to: where a state goes, dead ones left out. -/
import Derived.Test.YthkollnlmnbidaaBd
namespace Go.Proofs.Ythkollnlmnbidaa.A
open Go.RowKit
set_option linter.unusedVariables false

/-- Marks at a slice. -/
def Br (w : World) (a : Option Addr) (n : Nat) (h : Nat → Bool) : Prop := ∀ j, j < n → ∃ b off, a = some ⟨b, off, none⟩ ∧ w.cell? ⟨b, off + j, none⟩ = some (.bool (h j))
theorem br_below {w w' : World} {a : Option Addr} {n : Nat} {h : Nat → Bool} (hb : Below w.heap.size w w') (k : Br w a n h) : Br w' a n h := fun j hj => by
  obtain ⟨b, off, e, c⟩ := k j hj
  exact ⟨b, off, e, (hb.cell (p := ⟨b, off + j, none⟩) (cell_lt c)).trans c⟩
theorem own_br {w : World} {base n : Nat} {v : Value} {h : Nat → Bool} (o : w.ownsRow base 4 1 v n ((List.range n).map fun (j : Nat) => Value.bool (h j))) : ∃ a c, v = .slice a n c ∧ Br w a n h := by
  rcases o.2 with ⟨rfl, h0⟩ | ⟨g, cap, cur, rfl, _, hg, _, _, _, ht⟩
  · exact ⟨none, 0, by rw [h0], fun j hj => by omega⟩
  · refine ⟨_, _, rfl, fun j hj => ⟨g, 0, rfl, ?_⟩⟩
    have e : (cur.toList.take (n * 1))[j]? = ((List.range n).map fun (j : Nat) => Value.bool (h j))[j]? := by rw [ht]
    rw [List.getElem?_take_of_lt (by omega), List.getElem?_map, List.getElem?_range hj] at e
    rw [cell_of_row _ _ _ _ _ _ hg, Nat.zero_add]
    simpa using e
theorem br_congr {w : World} {a : Option Addr} {n : Nat} {h h' : Nat → Bool} (k : Br w a n h) (e : ∀ j, j < n → h j = h' j) : Br w a n h' := fun j hj => by rw [← e j hj]; exact k j hj

/-- Where a state goes by a category: n stands for nowhere. -/
def toF (nx : List (List Int)) (g : Nat → Bool) (n i c : Nat) : Nat := if i = n ∨ stepF nx i c < 0 ∨ g (stepF nx i c).toNat = false then n else (stepF nx i c).toNat
theorem toF_le {nx : List (List Int)} {ru : List Int} {g : Nat → Bool} {n i c : Nat} (h : Mx nx ru n) (hi : i ≤ n) : toF nx g n i c ≤ n := by
  unfold toF
  split
  · exact Nat.le_refl _
  · rename_i q
    have := step_in h i (by omega) c
    omega

set_option maxRecDepth 100000 in
set_option maxHeartbeats 1600000 in
theorem to_any (a0 a1 ad : Option Addr) (n c0 c1 cd : Nat) (nx : List (List Int)) (ru : List Int) (g : Nat → Bool) (i c : Nat) (w : World) (hx : Mx nx ru n) (hm : Dm w a0 a1 n n nx ru) (hd : Br w ad n (fun j => !g j)) (hi : i ≤ n) (hc : c < 16) :
    Calls Try.prog 25 #[.agg #[.slice a0 n c0, .slice a1 n c1], .slice ad n cd, .int .i64 (i : Int), .int .i64 (c : Int)] w fun e w' => e = .returned (.int .i64 ((toF nx g n i c : Nat) : Int)) ∧ Below w.heap.size w w' := by
  have HBX := hide (heap_alloc_last w (.cells #[.slice a0 n c0, .slice a1 n c1] 25))
  have hb0 := (Below.refl w.heap.size w).alloc (Nat.le_refl _) (.cells #[.slice a0 n c0, .slice a1 n c1] 25)
  have HB0 := hide hb0
  have HM := hide (dm_below' hb0 hm)
  have HD := hide (br_below hb0 hd)
  obtain ⟨p0, p1, -⟩ := d_cells HBX.out
  have i3 : (0 : Int) ≤ (c : Int) := by omega
  have i4 : (c : Int) < 16 := by omega
  have i1 : (0 : Int) ≤ (i : Int) := by omega
  clear hb0 hm hd
  by_cases hin : i = n
  · subst hin
    have HE := hide (show toF nx g i i c = i by unfold toF; rw [if_pos (.inl rfl)])
    have d0 : ((i : Int) == (i : Int)) = true := by simp
    go_enter Try.func25, Try.ntmps25
    go_wp2
    go_ret
    exact ⟨by rw [HE.out]; rfl, HB0.out⟩
  · have hlt : i < n := by omega
    have d0 : ((i : Int) == (n : Int)) = false := by simp; omega
    have i2 : (i : Int) < (n : Int) := by omega
    obtain ⟨row, z, hrow, hrl, hz, hz1, hz2, hst⟩ := mx_next hx hlt hc
    obtain ⟨b, off, rfl, k0⟩ := dr_cell HM.out.dr hrow hz
    clear hrow hrl hz
    by_cases hz0 : z < 0
    · have HE := hide (show toF nx g n i c = n by unfold toF; rw [hst, if_pos (.inr (.inl hz0))])
      have d1 : decide (z < 0) = true := by simp [hz0]
      go_enter Try.func25, Try.ntmps25
      go_wp2
      go_ret
      exact ⟨by rw [HE.out]; rfl, HB0.out⟩
    · obtain ⟨t, rfl⟩ : ∃ t : Nat, z = t := ⟨z.toNat, by omega⟩
      have htn : t < n := by omega
      have d1 : decide ((t : Int) < 0) = false := by simp
      obtain ⟨b', off', rfl, k1⟩ := HD.out t htn
      have i5 : (0 : Int) ≤ (t : Int) := by omega
      replace k1 : _ = some (Value.bool (!g t)) := k1
      cases hgt : g t
      · have HE := hide (show toF nx g n i c = n by unfold toF; rw [hst, if_pos (.inr (.inr (by rw [show ((t : Nat) : Int).toNat = t by omega]; exact hgt)))])
        rw [hgt] at k1
        go_enter Try.func25, Try.ntmps25
        go_wp2
        go_ret
        exact ⟨by rw [HE.out]; rfl, HB0.out⟩
      · have HE := hide (show toF nx g n i c = t by
          unfold toF
          rw [hst, if_neg]
          · omega
          · rintro (q | q | q)
            · omega
            · omega
            · rw [show ((t : Nat) : Int).toNat = t by omega, hgt] at q; cases q)
        rw [hgt] at k1
        go_enter Try.func25, Try.ntmps25
        go_wp2
        go_ret
        exact ⟨by rw [HE.out]; rfl, HB0.out⟩
end Go.Proofs.Ythkollnlmnbidaa.A
