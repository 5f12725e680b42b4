/- The document's Same of any two machines. -/
import Derived.Test.YthkollnlmnbidaaBb
namespace Go.Proofs.Ythkollnlmnbidaa.A
open Go.RowKit Go.Maps
set_option linter.unusedVariables false

theorem laid8 : laidOutB Try.prog = true := by kernel_rfl
theorem row8 : 41 < Try.prog.types.size := of_decide_eq_true (by kernel_rfl)
set_option maxRecDepth 100000 in
theorem law8 : Keyed Try.prog 41 := Keyed.of_law (deep_law_gate laid8 smallZ row8 keyT63 wide63)
def kI (P : Program) (x : List Int) : Lit := (keyOf P 41 (.agg (cI x).toArray)).getD (.bool false)
theorem key8 {x : List Int} (hx : Fit16 x) : keyOf Try.prog 41 (.agg (cI x).toArray) = some (kI Try.prog x) := by
  obtain ⟨l, e⟩ := key63 hx
  unfold kI
  rw [e]; rfl
theorem kI_inj {x y : List Int} (hx : Fit16 x) (hy : Fit16 y) (e : kI Try.prog x = kI Try.prog y) : x = y := by
  have h1 := key8 hx
  rw [e] at h1
  have h2 := law8.inj h1 (key8 hy)
  have h3 : cI x = cI y := by simpa using h2
  apply List.ext_getElem?
  intro i
  have h4 : (cI x)[i]? = (cI y)[i]? := by rw [h3]
  simp only [cI, List.getElem?_map] at h4
  cases hx' : x[i]? <;> cases hy' : y[i]? <;> rw [hx', hy'] at h4 <;> simp at h4 ⊢
  exact h4
set_option maxRecDepth 100000 in
theorem ne8 {x y : List Int} (hx : Fit16 x) (hy : Fit16 y) (w : World) : (binOp .neq 41 (.agg (cI x).toArray) (.agg (cI y).toArray)).run Try.prog w = .ok (.bool (!decide (x = y))) w := by
  obtain ⟨r, h1, h2⟩ := run_equal_deep (P := Try.prog) w (m := Try.prog.types.size + 1) (by have := smallZ; omega) keyT63 wide63 (key8 hx) (key8 hy)
  have h3 : r = decide (x = y) := by
    rw [Bool.eq_iff_iff, h2, decide_eq_true_iff]
    exact ⟨fun e => kI_inj hx hy e, fun e => by rw [e]⟩
  rw [← h3]
  simp only [binOp, Sem.run_bind, h1, Result.andThen_ok, Sem.run_pure]

attribute [local go_sem ↓] wp_load63s
attribute [local go_sem] rowM_drew rowMok_drew
set_option maxRecDepth 100000 in
set_option maxHeartbeats 3200000 in
theorem dsameG_any (a0 a1 b0 b1 : Option Addr) (n0 n1 m0 m1 c0 c1 d0 d1 : Nat) (nx nx2 : List (List Int)) (ru ru2 : List Int) (w : World) (h0 : nx.length = n0) (h1 : ru.length = n1) (h2 : nx2.length = m0) (h3 : ru2.length = m1) (hl0 : n0 ≤ 10000) (hl1 : n1 ≤ 10000) (hl2 : m0 ≤ 10000) (hl3 : m1 ≤ 10000) (hA : Dr w a0 nx) (hB : Wd w a1 ru) (hC : Dr w b0 nx2) (hD : Wd w b1 ru2) (hf : ∀ x ∈ nx, ∀ z ∈ x, -1 ≤ z ∧ z ≤ 10000) (hf2 : ∀ x ∈ nx2, ∀ z ∈ x, -1 ≤ z ∧ z ≤ 10000) :
    Calls Try.prog 16 #[.agg #[.slice a0 n0 c0, .slice a1 n1 c1], .agg #[.slice b0 m0 d0, .slice b1 m1 d1]] w fun e w' => e = .returned (.bool (decide (nx = nx2 ∧ ru = ru2))) ∧ Below w.heap.size w w' := by
  have hX := four28 w (.slice a0 n0 c0) (.slice a1 n1 c1) (.slice b0 m0 d0) (.slice b1 m1 d1)
  have hb0 := ((Below.refl w.heap.size w).alloc (Nat.le_refl _) (.cells #[.slice a0 n0 c0, .slice a1 n1 c1] 25)).alloc (by simp) (.cells #[.slice b0 m0 d0, .slice b1 m1 d1] 25)
  have HB0 := hide hb0
  have HA := hide (dr_below hb0 hA)
  have HB := hide (wd_below hb0 hB)
  have HC := hide (dr_below hb0 hC)
  have HD := hide (wd_below hb0 hD)
  have H0 := hide h0
  have H1 := hide h1
  have H2 := hide h2
  have H3 := hide h3
  have HF := hide hf
  have HF2 := hide hf2
  have HX := hide hX
  have HL := hide (show w.heap.size + 1 < ((w.alloc (.cells #[.slice a0 n0 c0, .slice a1 n1 c1] 25)).alloc (.cells #[.slice b0 m0 d0, .slice b1 m1 d1] 25)).heap.size by simp)
  obtain ⟨p0, p1, -⟩ := d_cells hX.1
  obtain ⟨p2, p3, -⟩ := d_cells hX.2
  clear hX hb0 hA hB hC hD h0 h1 h2 h3 hf hf2
  by_cases e0 : n0 = m0
  · by_cases e1 : n1 = m1
    · subst e0
      subst e1
      have z0 : ((n0 : Int) != (n0 : Int)) = false := by simp
      have z1 : ((n1 : Int) != (n1 : Int)) = false := by simp
      go_enter Try.func16, Try.ntmps16
      go_wp2_with fail
      generalize (w.alloc (.cells #[.slice a0 n0 c0, .slice a1 n1 c1] 25)).alloc (.cells #[.slice b0 n0 d0, .slice b1 n1 d1] 25) = W at *
      generalize hP : w.heap.size = P at *
      go_loopw [5] (fun i wr => ∃ k : Nat, k ≤ n0 ∧ i = .int .i64 k ∧ (∀ j, j < k → nx[j]? = nx2[j]?) ∧ Below W.heap.size W wr) (fun i _ => n0 - (intOf i).toNat)
      case atStart => exact ⟨0, Nat.zero_le _, rfl, fun j hj => by omega, Below.refl _ _⟩
      case round =>
        obtain ⟨k, hk, rfl, hsm, hb⟩ := hrel
        have HBW := hide hb
        have HSM := hide hsm
        clear p0 p1 p2 p3 hb hsm
        obtain ⟨p0, p1, -⟩ := d_cells ((HBW.out.block P (by have := HL.out; omega)).trans HX.out.1)
        obtain ⟨p2, p3, -⟩ := d_cells ((HBW.out.block (P + 1) HL.out).trans HX.out.2)
        by_cases hlt : k < n0
        · obtain ⟨row, hr⟩ : ∃ row, nx[k]? = some row := ⟨_, List.getElem?_eq_getElem (by rw [H0.out]; exact hlt)⟩
          obtain ⟨row2, hr2⟩ : ∃ row, nx2[k]? = some row := ⟨_, List.getElem?_eq_getElem (by rw [H2.out]; exact hlt)⟩
          obtain ⟨hrl, b, off, rfl, hrg⟩ := dr_below HBW.out HA.out k row hr
          obtain ⟨hrl2, b', off', rfl, hrg'⟩ := dr_below HBW.out HC.out k row2 hr2
          obtain ⟨r1, r2⟩ := rowM_at hrg (by rw [cI_len]; exact hrl)
          obtain ⟨r3, r4⟩ := rowM_at hrg' (by rw [cI_len]; exact hrl2)
          have hne := ne8 (x := row) (y := row2) ⟨hrl, fun z hz => HF.out row (List.mem_of_getElem? hr) z hz⟩ ⟨hrl2, fun z hz => HF2.out row2 (List.mem_of_getElem? hr2) z hz⟩
          have i3 : (0 : Int) ≤ (k : Int) := by omega
          have i4 : (k : Int) < (n0 : Int) := by omega
          have HR := hide hr
          have HR2 := hide hr2
          clear hr hr2 hrl hrl2 hrg hrg'
          by_cases ce : row = row2
          · rw [decide_eq_true ce] at hne
            have HSN := hide (show ∀ j, j < k + 1 → nx[j]? = nx2[j]? from fun j hj => by
              by_cases e : j = k
              · subst e; rw [HR.out, HR2.out, ce]
              · exact HSM.out j (by omega))
            subst ce
            generalize cI row = cs at *
            go_wp2_with fail
            go_region_law (fail)
            all_goals
              go_frame
              go_wp2
              go_roundw
              case rel => exact ⟨k + 1, by omega, by go_num, HSN.out, HBW.out.trans ((below_drew1 wr).mono HBW.out.size)⟩
              case measure => simp [intOf]; omega
          · rw [decide_eq_false ce] at hne
            have HNE := hide (show decide (nx = nx2 ∧ ru = ru2) = false from decide_eq_false fun q => by
              have h4 := HR.out
              rw [q.1, HR2.out] at h4
              exact ce (Option.some.inj h4).symm)
            generalize cI row = cs at *
            generalize cI row2 = cs2 at *
            clear ce
            go_wp2_with fail
            go_region_law (fail)
            all_goals
              go_wp2
              go_ret
              exact ⟨by rw [HNE.out]; rfl, by rw [hP]; exact HB0.out.trans ((HBW.out.trans ((below_drew1 wr).mono HBW.out.size)).mono (by have := HB0.out.size; omega))⟩
        · have e : k = n0 := by omega
          have HNX := hide (show nx = nx2 from List.ext_getElem? fun i => by
            by_cases c : i < k
            · exact HSM.out i c
            · rw [List.getElem?_eq_none (by rw [H0.out]; omega), List.getElem?_eq_none (by rw [H2.out]; omega)])
          subst e
          go_wp2_with fail
          go_loopw [6] (fun i wr2 => ∃ j : Nat, j ≤ n1 ∧ i = .int .i64 j ∧ (∀ q, q < j → ru[q]? = ru2[q]?) ∧ Below W.heap.size W wr2) (fun i _ => n1 - (intOf i).toNat)
          case atStart => exact ⟨0, Nat.zero_le _, rfl, fun q hq => by omega, HBW.out⟩
          case round =>
            obtain ⟨j, hj, rfl, hsr, hb2⟩ := hrel
            have HBV := hide hb2
            have HSR := hide hsr
            clear p0 p1 p2 p3 hb2 hsr
            obtain ⟨p0, p1, -⟩ := d_cells ((HBV.out.block P (by have := HL.out; omega)).trans HX.out.1)
            obtain ⟨p2, p3, -⟩ := d_cells ((HBV.out.block (P + 1) HL.out).trans HX.out.2)
            by_cases hlt2 : j < n1
            · obtain ⟨z, hz⟩ : ∃ z, ru[j]? = some z := ⟨_, List.getElem?_eq_getElem (by rw [H1.out]; exact hlt2)⟩
              obtain ⟨z2, hz2⟩ : ∃ z, ru2[j]? = some z := ⟨_, List.getElem?_eq_getElem (by rw [H3.out]; exact hlt2)⟩
              obtain ⟨b, off, rfl, q0⟩ := wd_below HBV.out HB.out j z hz
              obtain ⟨b', off', rfl, q1⟩ := wd_below HBV.out HD.out j z2 hz2
              have i3 : (0 : Int) ≤ (j : Int) := by omega
              have i4 : (j : Int) < (n1 : Int) := by omega
              by_cases ce : z = z2
              · have HSN := hide (show ∀ q, q < j + 1 → ru[q]? = ru2[q]? from fun q hq => by
                  by_cases e : q = j
                  · subst e; rw [hz, hz2, ce]
                  · exact HSR.out q (by omega))
                subst ce
                have hne : (z != z) = false := by simp
                have heq : (z == z) = true := by simp
                clear hz hz2
                go_wp2_with fail
                go_quiet (fail)
                go_wp2
                go_roundw
                case rel => exact ⟨j + 1, by omega, by go_num, HSN.out, below_drewN HBV.out _⟩
                case measure => simp [intOf]; omega
              · have HNE := hide (show decide (nx = nx2 ∧ ru = ru2) = false from decide_eq_false fun q => by
                  have h4 := hz
                  rw [q.2, hz2] at h4
                  exact ce (Option.some.inj h4).symm)
                have hne : (z != z2) = true := by simpa using ce
                have heq : (z == z2) = false := by simpa using ce
                clear hz hz2 ce
                go_wp2_with fail
                go_quiet (fail)
                go_wp2
                go_ret
                exact ⟨by rw [HNE.out]; rfl, by rw [hP]; exact HB0.out.trans ((below_drewN HBV.out _).mono (by have := HB0.out.size; omega))⟩
            · have e : j = n1 := by omega
              have HEQ := hide (show decide (nx = nx2 ∧ ru = ru2) = true from decide_eq_true ⟨HNX.out, List.ext_getElem? fun i => by
                by_cases c : i < j
                · exact HSR.out i c
                · rw [List.getElem?_eq_none (by rw [H1.out]; omega), List.getElem?_eq_none (by rw [H3.out]; omega)]⟩)
              subst e
              go_wp2
              go_ret
              exact ⟨by rw [HEQ.out]; rfl, by rw [hP]; exact HB0.out.trans (HBV.out.mono (by have := HB0.out.size; omega))⟩
    · subst e0
      have z0 : ((n0 : Int) != (n0 : Int)) = false := by simp
      have z1 : ((n1 : Int) != (m1 : Int)) = true := by simp; omega
      have z2 : ((n1 : Int) == (m1 : Int)) = false := by simp; omega
      have HNE := hide (show decide (nx = nx2 ∧ ru = ru2) = false from decide_eq_false fun q => e1 (by rw [← H1.out, ← H3.out, q.2]))
      go_enter Try.func16, Try.ntmps16
      go_wp2
      go_ret
      exact ⟨by rw [HNE.out]; rfl, HB0.out⟩
  · have z1 : ((n0 : Int) != (m0 : Int)) = true := by simp; omega
    have z2 : ((n0 : Int) == (m0 : Int)) = false := by simp; omega
    have HNE := hide (show decide (nx = nx2 ∧ ru = ru2) = false from decide_eq_false fun q => e0 (by rw [← H0.out, ← H2.out, q.1]))
    go_enter Try.func16, Try.ntmps16
    go_wp2
    go_ret
    exact ⟨by rw [HNE.out]; rfl, HB0.out⟩
end Go.Proofs.Ythkollnlmnbidaa.A
