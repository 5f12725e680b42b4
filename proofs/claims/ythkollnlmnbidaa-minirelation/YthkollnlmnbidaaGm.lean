/- slices.Equal of rows, of numbers. -/
import Derived.Test.YthkollnlmnbidaaGl
import Derived.Test.YthkollnlmnbidaaBl
namespace Go.Proofs.Ythkollnlmnbidaa.A
open Go.RowKit Go.Maps
set_option linter.unusedVariables false

set_option maxRecDepth 100000 in
set_option maxHeartbeats 1600000 in
theorem equalI_any (a1 b1 : Option Addr) (n1 m1 c1 d1 : Nat) (ru ru2 : List Int) (w : World) (h1 : ru.length = n1) (h3 : ru2.length = m1) (hl1 : n1 ≤ 10000) (hl3 : m1 ≤ 10000) (hB : Wd w a1 ru) (hD : Wd w b1 ru2) :
    Calls Try.prog 28 #[.slice a1 n1 c1, .slice b1 m1 d1] w fun e w' => e = .returned (.bool (decide (ru = ru2))) ∧ Below w.heap.size w w' := by
  have HB := hide hB
  have HD := hide hD
  have H1 := hide h1
  have H3 := hide h3
  clear hB hD h1 h3
  by_cases e1 : n1 = m1
  · subst e1
    have z1 : ((n1 : Int) != (n1 : Int)) = false := by simp
    go_enter Try.func28, Try.ntmps28
    go_wp2_with fail
    go_loopw [5, 13] (fun _ i wr => ∃ j : Nat, j ≤ n1 ∧ i = .int .i64 j ∧ (∀ q, q < j → ru[q]? = ru2[q]?) ∧ Below w.heap.size w wr) (fun _ i _ => n1 - (intOf i).toNat)
    case atStart => exact ⟨0, Nat.zero_le _, rfl, fun q hq => by omega, Below.refl _ _⟩
    case round =>
      obtain ⟨j, hj, rfl, hsr, hb2⟩ := hrel
      have HBV := hide hb2
      have HSR := hide hsr
      clear hb2 hsr
      by_cases hlt2 : j < n1
      · obtain ⟨z, hz⟩ : ∃ z, ru[j]? = some z := ⟨_, List.getElem?_eq_getElem (by rw [H1.out]; exact hlt2)⟩
        obtain ⟨z2, hz2⟩ : ∃ z, ru2[j]? = some z := ⟨_, List.getElem?_eq_getElem (by rw [H3.out]; exact hlt2)⟩
        obtain ⟨b, off, rfl, q0⟩ := wd_below HBV.out HB.out j z hz
        obtain ⟨b', off', rfl, q1⟩ := wd_below HBV.out HD.out j z2 hz2
        have i3 : (0 : Int) ≤ (j : Int) := by omega
        have i4 : (j : Int) < (n1 : Int) := by omega
        by_cases ce : z = z2
        · have HSN := hide (show ∀ q, q < j + 1 → ru[q]? = ru2[q]? from fun q hq => by
            by_cases e : q = j
            · subst e; rw [hz, hz2, ce]
            · exact HSR.out q (by omega))
          subst ce
          have hne : (z != z) = false := by simp
          have heq : (z == z) = true := by simp
          clear hz hz2
          go_wp2_with fail
          go_quiet (fail)
          go_wp2
          go_roundw
          case rel => exact ⟨j + 1, by omega, by go_num, HSN.out, below_drewN HBV.out _⟩
          case measure => simp [intOf]; omega
        · have HNE := hide (show decide (ru = ru2) = false from decide_eq_false fun q => by
            have h4 := hz
            rw [q, hz2] at h4
            exact ce (Option.some.inj h4).symm)
          have hne : (z != z2) = true := by simpa using ce
          have heq : (z == z2) = false := by simpa using ce
          clear hz hz2 ce
          go_wp2_with fail
          go_quiet (fail)
          go_wp2
          go_ret
          exact ⟨by rw [HNE.out]; rfl, below_drewN HBV.out _⟩
      · have e : j = n1 := by omega
        have HEQ := hide (show decide (ru = ru2) = true from decide_eq_true (List.ext_getElem? fun i => by
          by_cases c : i < j
          · exact HSR.out i c
          · rw [List.getElem?_eq_none (by rw [H1.out]; omega), List.getElem?_eq_none (by rw [H3.out]; omega)]))
        subst e
        go_wp2
        go_ret
        exact ⟨by rw [HEQ.out]; rfl, HBV.out⟩
  · have z1 : ((n1 : Int) != (m1 : Int)) = true := by simp; omega
    have z2 : ((n1 : Int) == (m1 : Int)) = false := by simp; omega
    have HNE := hide (show decide (ru = ru2) = false from decide_eq_false fun q => e1 (by rw [← H1.out, ← H3.out, q]))
    go_enter Try.func28, Try.ntmps28
    go_wp2
    go_ret
    exact ⟨by rw [HNE.out]; rfl, Below.refl _ _⟩

attribute [local go_sem ↓] wp_load63s
attribute [local go_sem] rowM_drew rowMok_drew
set_option maxRecDepth 100000 in
set_option maxHeartbeats 3200000 in
theorem equalR_any (a0 b0 : Option Addr) (n0 m0 c0 d0 : Nat) (nx nx2 : List (List Int)) (w : World) (h0 : nx.length = n0) (h2 : nx2.length = m0) (hl0 : n0 ≤ 10000) (hl2 : m0 ≤ 10000) (hA : Dr w a0 nx) (hC : Dr w b0 nx2) (hf : ∀ x ∈ nx, ∀ z ∈ x, -1 ≤ z ∧ z ≤ 10000) (hf2 : ∀ x ∈ nx2, ∀ z ∈ x, -1 ≤ z ∧ z ≤ 10000) :
    Calls Try.prog 27 #[.slice a0 n0 c0, .slice b0 m0 d0] w fun e w' => e = .returned (.bool (decide (nx = nx2))) ∧ Below w.heap.size w w' := by
  have HA := hide hA
  have HC := hide hC
  have H0 := hide h0
  have H2 := hide h2
  have HF := hide hf
  have HF2 := hide hf2
  clear hA hC h0 h2 hf hf2
  by_cases e0 : n0 = m0
  · subst e0
    have z0 : ((n0 : Int) != (n0 : Int)) = false := by simp
    go_enter Try.func27, Try.ntmps27
    go_wp2_with fail
    go_loopw [5, 13] (fun _ i wr => ∃ k : Nat, k ≤ n0 ∧ i = .int .i64 k ∧ (∀ j, j < k → nx[j]? = nx2[j]?) ∧ Below w.heap.size w wr) (fun _ i _ => n0 - (intOf i).toNat)
    case atStart => exact ⟨0, Nat.zero_le _, rfl, fun j hj => by omega, Below.refl _ _⟩
    case round =>
      obtain ⟨k, hk, rfl, hsm, hb⟩ := hrel
      have HBW := hide hb
      have HSM := hide hsm
      clear hb hsm
      by_cases hlt : k < n0
      · obtain ⟨row, hr⟩ : ∃ row, nx[k]? = some row := ⟨_, List.getElem?_eq_getElem (by rw [H0.out]; exact hlt)⟩
        obtain ⟨row2, hr2⟩ : ∃ row, nx2[k]? = some row := ⟨_, List.getElem?_eq_getElem (by rw [H2.out]; exact hlt)⟩
        obtain ⟨hrl, b, off, rfl, hrg⟩ := dr_below HBW.out HA.out k row hr
        obtain ⟨hrl2, b', off', rfl, hrg'⟩ := dr_below HBW.out HC.out k row2 hr2
        obtain ⟨r1, r2⟩ := rowM_at hrg (by rw [cI_len]; exact hrl)
        obtain ⟨r3, r4⟩ := rowM_at hrg' (by rw [cI_len]; exact hrl2)
        have hne := ne8 (x := row) (y := row2) ⟨hrl, fun z hz => HF.out row (List.mem_of_getElem? hr) z hz⟩ ⟨hrl2, fun z hz => HF2.out row2 (List.mem_of_getElem? hr2) z hz⟩
        have i3 : (0 : Int) ≤ (k : Int) := by omega
        have i4 : (k : Int) < (n0 : Int) := by omega
        have HR := hide hr
        have HR2 := hide hr2
        clear hr hr2 hrl hrl2 hrg hrg'
        by_cases ce : row = row2
        · rw [decide_eq_true ce] at hne
          have HSN := hide (show ∀ j, j < k + 1 → nx[j]? = nx2[j]? from fun j hj => by
            by_cases e : j = k
            · subst e; rw [HR.out, HR2.out, ce]
            · exact HSM.out j (by omega))
          subst ce
          generalize cI row = cs at *
          go_wp2_with fail
          go_region_law (fail)
          all_goals
            go_frame
            go_wp2
            go_roundw
            case rel => exact ⟨k + 1, by omega, by go_num, HSN.out, HBW.out.trans ((below_drew1 wr).mono HBW.out.size)⟩
            case measure => simp [intOf]; omega
        · rw [decide_eq_false ce] at hne
          have HNE := hide (show decide (nx = nx2) = false from decide_eq_false fun q => by
            have h4 := HR.out
            rw [q, HR2.out] at h4
            exact ce (Option.some.inj h4).symm)
          generalize cI row = cs at *
          generalize cI row2 = cs2 at *
          clear ce
          go_wp2_with fail
          go_region_law (fail)
          all_goals
            go_wp2
            go_ret
            exact ⟨by rw [HNE.out]; rfl, HBW.out.trans ((below_drew1 wr).mono HBW.out.size)⟩
      · have e : k = n0 := by omega
        have HEQ := hide (show decide (nx = nx2) = true from decide_eq_true (List.ext_getElem? fun i => by
          by_cases c : i < k
          · exact HSM.out i c
          · rw [List.getElem?_eq_none (by rw [H0.out]; omega), List.getElem?_eq_none (by rw [H2.out]; omega)]))
        subst e
        go_wp2
        go_ret
        exact ⟨by rw [HEQ.out]; rfl, HBW.out⟩
  · have z1 : ((n0 : Int) != (m0 : Int)) = true := by simp; omega
    have z2 : ((n0 : Int) == (m0 : Int)) = false := by simp; omega
    have HNE := hide (show decide (nx = nx2) = false from decide_eq_false fun q => e0 (by rw [← H0.out, ← H2.out, q]))
    go_enter Try.func27, Try.ntmps27
    go_wp2
    go_ret
    exact ⟨by rw [HNE.out]; rfl, Below.refl _ _⟩
end Go.Proofs.Ythkollnlmnbidaa.A
