/- Contracts of the document's answer: whether ranges are right, and what a code finds. -/
import Derived.Test.YtooiomfcemceiaaA
namespace Go.Proofs.Ytooiomfcemceiaa.A
open Go.RowKit

set_option maxHeartbeats 1600000 in
theorem rright_any (x : Option Addr) (len cap : Nat) (m : Int) (zs : List Rg) (w : World) (hl : len ≤ maxLen) (hs : SegR w x len zs) :
    Calls Try.prog 9 #[.slice x len cap, .int .i64 m] w fun e w' => e = .returned (.bool (rightB m zs len)) ∧ Below w.heap.size w w' := by
  unfold maxLen at hl
  by_cases h5 : len ≤ 5000
  · go_enter Try.func9, Try.ntmps9
    go_wp2
    go_loopw [5] (fun i wr => ∃ k : Nat, k ≤ len ∧ i = .int .i64 k ∧ Rt m zs k ∧ Below w.heap.size w wr) (fun i _ => len - (intOf i).toNat)
    case atStart => exact ⟨0, Nat.zero_le _, rfl, rt_zero _ _, Below.refl _ _⟩
    case round =>
      obtain ⟨k, hk, rfl, hrt, hbel⟩ := hrel
      by_cases hlt : k < len
      · obtain ⟨b, off, rfl, hc⟩ := hs.leads (by omega)
        obtain ⟨c0, c1, c2⟩ := seg_below hbel (hc k hlt)
        have HN := hide (@right_no m zs len k hlt)
        have HO := hide (@right_ok m zs k hrt)
        clear hs
        unfold okB at HN HO
        have hu : 0 < k → wr.cell? ⟨b, off + (k - 1) * 3 + 1, none⟩ = some (.int .i32 (lastT zs k)) := fun h0 => by
          have := (seg_below hbel (hc (k - 1) (by omega))).2.1
          unfold lastT
          rw [if_neg (by omega)]
          exact this
        have hu0 : k = 0 → lastT zs k = -1 := fun h0 => by unfold lastT; rw [if_pos h0]
        have hu1 : 0 < k → 0 ≤ lastT zs k := fun h0 => by
          unfold lastT
          rw [if_neg (by omega)]
          obtain ⟨_, _, _, _, _⟩ := hrt.1 (k - 1) (by omega); omega
        clear hc hrt
        generalize (at' zs k).f = f at *
        generalize (at' zs k).t = t at *
        generalize (at' zs k).v = v at *
        generalize lastT zs k = u at *
        have cs : (decide (f < 0) = true) ∨ (decide (f < 0) = false ∧ decide (t < f) = true) ∨ (decide (f < 0) = false ∧ decide (t < f) = false ∧ decide (1114111 < t) = true) ∨
            (decide (f < 0) = false ∧ decide (t < f) = false ∧ decide (1114111 < t) = false ∧ decide (v < 0) = true) ∨ (decide (f < 0) = false ∧ decide (t < f) = false ∧ decide (1114111 < t) = false ∧ decide (v < 0) = false ∧ decide (m < v) = true) ∨
            (decide (f < 0) = false ∧ decide (t < f) = false ∧ decide (1114111 < t) = false ∧ decide (v < 0) = false ∧ decide (m < v) = false) := by
          simp only [decide_eq_true_iff, decide_eq_false_iff_not]; omega
        rcases cs with d1 | ⟨d1, d2⟩ | ⟨d1, d2, d3⟩ | ⟨d1, d2, d3, d4⟩ | ⟨d1, d2, d3, d4, d5⟩ | ⟨d1, d2, d3, d4, d5⟩
        iterate 5
          · clear hu hu0 hu1
            go_wp2
            go_quiet (fail)
            go_wp2
            go_ret
            refine ⟨ret_bool (HN.out ?_).symm, below_drewN hbel _⟩
            simp only [decide_eq_true_iff, decide_eq_false_iff_not] at *
            omega
        · by_cases h0 : 0 < k
          · have hp := hu h0
            have hp1 := hu1 h0
            have e0 : decide (0 < k) = true := by simpa using h0
            have e1 : decide (0 < (k : Int)) = true := by simpa using h0
            clear hu hu0 hu1
            by_cases d6 : f ≤ u
            · have d7 : decide (f ≤ u) = true := by simpa using d6
              go_wp2
              go_quiet (fail)
              go_wp2
              go_ret
              refine ⟨ret_bool (HN.out ?_).symm, below_drewN hbel _⟩
              simp only [decide_eq_true_iff, decide_eq_false_iff_not] at *
              omega
            · have d7 : decide (f ≤ u) = false := by simpa using d6
              go_wp2
              go_quiet (fail)
              go_wp2
              go_roundw
              case rel => exact ⟨k + 1, by omega, by go_num, HO.out (by simp only [decide_eq_true_iff, decide_eq_false_iff_not] at *; omega), below_drewN hbel _⟩
              case measure => simp [intOf]; omega
          · have hp1 := hu0 (by omega)
            have e0 : decide (0 < k) = false := by simpa using h0
            have e1 : decide (0 < (k : Int)) = false := by simpa using h0
            have HU := hide hp1
            clear hu hu0 hu1 hp1
            go_wp2
            go_quiet (fail)
            go_wp2
            go_roundw
            case rel => exact ⟨k + 1, by omega, by go_num, HO.out (by have := HU.out; simp only [decide_eq_true_iff, decide_eq_false_iff_not] at *; omega), below_drewN hbel _⟩
            case measure => simp [intOf]; omega
      · have e : k = len := by omega
        subst e
        have E := hide (right_same hrt h5)
        go_wp2
        go_ret
        exact ⟨ret_bool E.out.symm, hbel⟩
  · have E := hide (right_far (m := m) (l := zs) h5)
    go_enter Try.func9, Try.ntmps9
    go_wp2
    go_ret
    exact ⟨ret_bool E.out.symm, Below.refl _ _⟩
end Go.Proofs.Ytooiomfcemceiaa.A
