/- The law on which states are alike, and which are dead, walked. -/
import Derived.Test.YthkollnlmnbidaaGr
import Derived.BigQuiet
namespace Go.Proofs.Ythkollnlmnbidaa.A
open Go.RowKit Go.Maps
set_option linter.unusedVariables false

set_option maxRecDepth 100000 in
set_option maxHeartbeats 3200000 in
theorem classes_law (hsame : SameYes) (M : Nat) (hM : M = 201) (a0 a1 : Option Addr) (n0 n1 c0 c1 : Nat) (nx : List (List Int)) (ru : List Int) (w : World) (hm : Dm w a0 a1 n0 n1 nx ru) :
    Calls Try.prog 3 #[.agg #[.slice a0 n0 c0, .slice a1 n1 c1]] w fun e w' => e = .returned (.bool true) ∧ Below w.heap.size w w' := by
  have HM0 := hide hm.m0
  have HM1 := hide hm.m1
  have hb0 := (Below.refl w.heap.size w).alloc (Nat.le_refl _) (.cells #[.slice a0 n0 c0, .slice a1 n1 c1] 25)
  have HS := hide (show (w.alloc (.cells #[.slice a0 n0 c0, .slice a1 n1 c1] 25)).heap.size = w.heap.size + 1 by simp)
  have HBX := hide (heap_alloc_last w (.cells #[.slice a0 n0 c0, .slice a1 n1 c1] 25))
  have HB0 := hide hb0
  have HDM := hide (dm_below' hb0 hm)
  have HAL := hide (alive_any hsame M hM (w.alloc (.cells #[.slice a0 n0 c0, .slice a1 n1 c1] 25)))
  clear hsame hM hm hb0
  go_enter Try.func3, Try.ntmps3
  go_upto_region 1 with fail
  generalize w.alloc (.cells #[.slice a0 n0 c0, .slice a1 n1 c1] 25) = W1 at *
  generalize hP : w.heap.size = P at *
  have HW := hide (show ∀ wr, Below W1.heap.size W1 wr → (wr.cell? ⟨P, 0, none⟩ = some (.slice a0 n0 c0) ∧ wr.cell? ⟨P, 1, none⟩ = some (.slice a1 n1 c1)) ∧ Dm wr a0 a1 n0 n1 nx ru ∧ Below P w wr from fun wr hb => by
    obtain ⟨q0, q1, -⟩ := d_cells ((hb.block P (by rw [HS.out]; omega)).trans HBX.out)
    exact ⟨⟨q0, q1⟩, dm_below' hb HDM.out, HB0.out.trans (hb.mono (by rw [HS.out]; omega))⟩)
  go_wp2_with fail
  refine HAL.out.mono ?_
  rintro e w1 ⟨rfl, hb1⟩
  have HB1 := hide hb1
  obtain ⟨⟨p0, p1⟩, -, -⟩ := HW.out w1 hb1
  clear hb1 HAL
  go_wp2_with fail
  refine (great8_any a0 a1 n0 n1 c0 c1 w1 HM0.out HM1.out).mono ?_
  rintro e w2 ⟨rfl, hb2⟩
  have HB2 := hide (HB1.out.trans (hb2.mono HB1.out.size))
  clear hb2 p0 p1
  obtain ⟨⟨p0, p1⟩, hdm, hbw⟩ := HW.out w2 HB2.out
  have HD2 := hide hdm
  have HBW := hide hbw
  have HB2D := hide (HB2.out.trans ((below_drew1 w2).mono HB2.out.size))
  clear hdm hbw
  cases hg : (decide (40 < n0) || decide (300 < n1))
  case true =>
    clear hg
    go_wp2
    go_ret
    exact ⟨rfl, by rw [hP]; exact HBW.out⟩
  case false =>
  clear hg
  cases hr : rightD nx ru
  · have HR := hide hr
    clear hr
    go_wp2_with fail
    go_region_held3 (fun w' => w'.cell? ⟨P, 0, none⟩ = some (.slice a0 n0 c0) ∧ w'.cell? ⟨P, 1, none⟩ = some (.slice a1 n1 c1)) (first | assumption | go_keep) ((first
      | (go_at_call 11; refine (mdead_no a0 a1 n0 n1 c0 c1 nx ru w3 (HW.out w3 HB3.out).2.1 HR.out).mono ?_; rintro e w4 ⟨rfl, hb4⟩; have HB4 := hide (HB3.out.trans (hb4.mono HB3.out.size)); have k9 := (HW.out w4 HB4.out).1; clear hb4)
      | (go_at_call 10; refine (malike_no a0 a1 n0 n1 c0 c1 nx ru w2.drew (HW.out _ HB2D.out).2.1 HR.out).mono ?_; rintro e w3 ⟨rfl, hb3⟩; have HB3 := hide (HB2D.out.trans (hb3.mono HB2D.out.size)); have k8 := (HW.out w3 HB3.out).1; clear hb3)))
    obtain ⟨⟨r0, r1⟩, hdm, -⟩ := HW.out _ HB4.out
    have HRR := hide (rright_any7 a0 a1 n0 n1 c0 c1 nx ru _ hdm)
    rw [HR.out] at HRR
    clear hdm
    go_wp2_with fail
    refine HRR.out.mono ?_
    rintro e w5 ⟨rfl, hb5⟩
    have HBF := hide (HW.out _ (HB4.out.trans (hb5.mono HB4.out.size))).2.2
    clear hb5 HRR
    go_wp2
    go_ret
    exact ⟨rfl, by rw [hP]; exact HBF.out⟩
  · obtain ⟨rfl, hx⟩ := mx_dm HD2.out hr
    have HR := hide hr
    have HX := hide hx
    have hnm := hx.most
    clear hr hx
    go_wp2_with fail
    go_region_held3 (fun w' => w'.cell? ⟨P, 0, none⟩ = some (.slice a0 n1 c0) ∧ w'.cell? ⟨P, 1, none⟩ = some (.slice a1 n1 c1)) (first | assumption | go_keep) ((first
      | (go_at_call 11; refine (mdead_yes a0 a1 n1 c0 c1 nx ru w3 (HW.out w3 HB3.out).2.1 HR.out HX.out).mono ?_; rintro e w4 ⟨g, hlv, B, hBs, rfl, hmk, hb4⟩; have HLV := hide hlv; have HMK := hide hmk; have HTM4 := hide (tm_below hb4 HTM.out); have HB4 := hide (HB3.out.trans (hb4.mono HB3.out.size)); have k9 := (HW.out w4 HB4.out).1; clear hb4 hlv hmk hBs)
      | (go_at_call 10; refine (malike_yes a0 a1 n1 c0 c1 nx ru w2.drew (HW.out _ HB2D.out).2.1 HR.out HX.out).mono ?_; rintro e w3 ⟨A, T, hal, rfl, htm, hTs, hb3⟩; have HA := hide hal; have HTM := hide htm; have HB3 := hide (HB2D.out.trans (hb3.mono HB2D.out.size)); have k8 := (HW.out w3 HB3.out).1; clear hb3 hal htm hTs)))
    clear p0 p1
    obtain ⟨⟨p0, p1⟩, hdm, -⟩ := HW.out w4 HB4.out
    have HRR := hide (rright_any7 a0 a1 n1 n1 c0 c1 nx ru w4 hdm)
    rw [HR.out] at HRR
    clear hdm
    go_wp2_with fail
    refine HRR.out.mono ?_
    rintro e w5 ⟨rfl, hb5⟩
    have HB5 := hide (HB4.out.trans (hb5.mono HB4.out.size))
    have HTM5 := hide (tm_below hb5 HTM4.out)
    have HMK5 := hide (mk_below (mk_lt HMK.out) hb5 HMK.out)
    clear hb5 HRR p0 p1
    obtain ⟨⟨p0, p1⟩, -, -⟩ := HW.out w5 HB5.out
    have HB5D := hide (HB5.out.trans ((below_drew1 w5).mono HB5.out.size))
    go_wp2_with fail
    go_region_held3 (fun w' => w'.cell? ⟨P, 0, none⟩ = some (.slice a0 n1 c0) ∧ w'.cell? ⟨P, 1, none⟩ = some (.slice a1 n1 c1)) (first | assumption | go_keep) ((first
      | (go_at_call 14; refine (dead_any a0 a1 n1 c0 c1 nx ru w6 HX.out (HW.out w6 HB6.out).2.1).mono ?_; rintro e w7 ⟨g7, v7, hlv7, rfl, ho7, hb7⟩; obtain ⟨ad, cd, rfl, hbr7⟩ := own_br ho7; have HLV7 := hide hlv7; have HBR7 := hide hbr7; have HRW7 := hide (rows1_below hb7 HRW6.out); have HTM7 := hide (tm_below hb7 HTM6.out); have HMK7 := hide (mk_below (mk_lt HMK6.out) hb7 HMK6.out); have HB7 := hide (HB6.out.trans (hb7.mono HB6.out.size)); have kb := (HW.out w7 HB7.out).1; clear hb7 hlv7 ho7 hbr7)
      | (go_at_call 13; refine (alike_any a0 a1 n1 c0 c1 nx ru w5.drew HX.out (HW.out _ HB5D.out).2.1).mono ?_; rintro e w6 ⟨A6, v6, vs6, hal6, rfl, hrw6, hb6⟩; obtain ⟨va, ca, rfl⟩ := own_form hrw6.1; have HA6 := hide hal6; have HRW6 := hide hrw6; have HTM6 := hide (tm_below ((below_drew1 w5).trans hb6) HTM5.out); have HMK6 := hide (mk_below (mk_lt HMK5.out) ((below_drew1 w5).trans hb6) HMK5.out); have HB6 := hide (HB5D.out.trans (hb6.mono HB5D.out.size)); have ka := (HW.out w6 HB6.out).1; clear hb6 hal6 hrw6)))
    have HAE := hide (fun i k (hi : i < n1) (hk : k < n1) => isAlk_one HA.out HA6.out i k hi hk)
    have HGE := hide (fun i (hi : i < n1) => isLive_one HLV.out HLV7.out i hi)
    clear ka kb k8 k9 p0 p1
    go_wp2_with fail
    go_loopw [7, 8] (fun s7 _ wr => ∃ k : Nat, k ≤ n1 ∧ s7 = .int .i64 k ∧ Below w7.heap.size w7 wr) (fun s7 _ _ => n1 - (intOf s7).toNat)
    case atStart => exact ⟨0, by omega, rfl, Below.refl _ _⟩
    case round =>
      obtain ⟨k, hk, rfl, hb⟩ := hrel
      have HBR := hide hb
      by_cases hlt : k < n1
      · have htm := tm_below hb HTM7.out
        have hmk := mk_below (mk_lt HMK7.out) hb HMK7.out
        have hrw := rows1_below hb HRW7.out
        obtain ⟨b, off, rfl, y0⟩ := br_below hb HBR7.out k hlt
        have b0 := (mk_cell hmk hlt).1
        have t0 := tm_row htm hlt hlt
        obtain ⟨u, hu⟩ : ∃ u, vs6[k]? = some u := ⟨_, List.getElem?_eq_getElem (by have := hrw.1.1; omega)⟩
        obtain ⟨F, rfl, hmF⟩ := hrw.2 k u hu
        obtain ⟨gx, cx, hvx, -, -⟩ := hrw.1.form (by omega)
        obtain ⟨rfl, -, rfl⟩ := Value.slice.inj hvx
        have x0 := hrw.1.cellAt k (by omega)
        rw [hu] at x0
        replace y0 : wr.cell? ⟨b, off + k, none⟩ = some (.bool (!g k)) := by rw [HGE.out k hlt]; exact y0
        replace b0 : wr.cell? ⟨B, k, none⟩ = some (.bool (!g k)) := b0
        have i3 : (0 : Int) ≤ (k : Int) := by omega
        have i4 : (k : Int) < (n1 : Int) := by omega
        have HF := hide hmF
        have HTMr := hide htm
        have HRWr := hide hrw
        have HU := hide hu
        clear htm hmk hrw hu hvx hmF hb
        have z0 : ((n1 : Int) != (n1 : Int)) = false := by simp
        obtain ⟨v, hv⟩ : ∃ v, (!g k) = v := ⟨_, rfl⟩
        rw [hv] at y0 b0
        clear hv
        have HVS := hide (show vs6[k]? = some (.slice (some ⟨F, 0, none⟩) n1 n1) from HU.out)
        cases v <;>
        · go_wp2_with fail
          go_quiet (fail)
          go_wp2_with fail
          go_loopw [8] (fun s8 wr2 => ∃ q : Nat, q ≤ n1 ∧ s8 = .int .i64 q ∧ Below w7.heap.size w7 wr2) (fun s8 _ => n1 - (intOf s8).toNat)
          case atStart => exact ⟨0, by omega, rfl, below_drewN HBR.out _⟩
          case round =>
            obtain ⟨q, hq, rfl, hb2⟩ := hrel
            have HBQ := hide hb2
            by_cases hlq : q < n1
            · have htm2 := tm_below hb2 HTM7.out
              have hrw2 := rows1_below hb2 HRW7.out
              have t2 := tm_row htm2 hlt hlt
              have m2 := (mk_cell (htm2.m k hlt) hlq).1
              have x2 := hrw2.1.cellAt k (by omega)
              rw [HVS.out] at x2
              obtain ⟨F', hF', hmF2⟩ := hrw2.2 k _ HVS.out
              obtain ⟨rfl⟩ : F = F' := by injection hF' with h1; injection h1 with h2; injection h2
              have f2 := (mk_cell hmF2 hlq).1
              rw [HAE.out k q hlt hlq] at m2
              obtain ⟨v2, hv2⟩ : ∃ v, A6 k q = v := ⟨_, rfl⟩
              rw [hv2] at m2 f2
              have i5 : (0 : Int) ≤ (q : Int) := by omega
              have i6 : (q : Int) < (n1 : Int) := by omega
              clear htm2 hrw2 hmF2 hF' hv2 hb2
              cases v2 <;>
              · go_wp2_with fail
                go_quiet (fail)
                go_wp2
                go_roundw
                case rel => exact ⟨q + 1, by omega, by go_num, below_drewN HBQ.out _⟩
                case measure => simp [intOf]; omega
            · obtain rfl : q = n1 := by omega
              clear hb2
              go_wp2
              go_roundw
              case rel => exact ⟨k + 1, by omega, by go_num, HBQ.out⟩
              case measure => simp [intOf]; omega
      · obtain rfl : k = n1 := by omega
        have HBF := hide (HW.out _ (HB7.out.trans (hb.mono HB7.out.size))).2.2
        clear hb
        go_wp2
        go_ret
        exact ⟨rfl, by rw [hP]; exact HBF.out⟩
end Go.Proofs.Ythkollnlmnbidaa.A
