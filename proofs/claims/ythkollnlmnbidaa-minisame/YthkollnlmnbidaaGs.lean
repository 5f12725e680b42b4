/- The law on machines that match the same, walked. -/
import Derived.Test.YthkollnlmnbidaaGr
namespace Go.Proofs.Ythkollnlmnbidaa.A
open Go.RowKit Go.Maps
set_option linter.unusedVariables false

set_option maxRecDepth 100000 in
set_option maxHeartbeats 3200000 in
theorem same_law (hsame : SameYes) (M : Nat) (hM : M = 201) (a0 a1 b0 b1 : Option Addr) (n0 n1 m0 m1 c0 c1 d0 d1 : Nat) (nx nx2 : List (List Int)) (ru ru2 : List Int) (w : World) (hm : Dm w a0 a1 n0 n1 nx ru) (hm2 : Dm w b0 b1 m0 m1 nx2 ru2) :
    Calls Try.prog 5 #[.agg #[.slice a0 n0 c0, .slice a1 n1 c1], .agg #[.slice b0 m0 d0, .slice b1 m1 d1]] w fun e w' => e = .returned (.bool true) ∧ Below w.heap.size w w' := by
  have HSM := hide hsame
  have HMM := hide hM
  have HN := hide (And.intro hm.m0 (And.intro hm.m1 (And.intro hm2.m0 hm2.m1)))
  have hX := four28 w (.slice a0 n0 c0) (.slice a1 n1 c1) (.slice b0 m0 d0) (.slice b1 m1 d1)
  have hb0 := ((Below.refl w.heap.size w).alloc (Nat.le_refl _) (.cells #[.slice a0 n0 c0, .slice a1 n1 c1] 25)).alloc (by simp) (.cells #[.slice b0 m0 d0, .slice b1 m1 d1] 25)
  have HB0 := hide hb0
  have HX := hide hX
  have HL := hide (show ((w.alloc (.cells #[.slice a0 n0 c0, .slice a1 n1 c1] 25)).alloc (.cells #[.slice b0 m0 d0, .slice b1 m1 d1] 25)).heap.size = w.heap.size + 2 by simp)
  have HMA := hide (dm_below' hb0 hm)
  have HMB := hide (dm_below' hb0 hm2)
  have HAL := hide (alive_any hsame M hM ((w.alloc (.cells #[.slice a0 n0 c0, .slice a1 n1 c1] 25)).alloc (.cells #[.slice b0 m0 d0, .slice b1 m1 d1] 25)))
  clear hX hb0 hm hm2 hsame hM
  go_enter Try.func5, Try.ntmps5
  go_upto_region 1 with fail
  generalize (w.alloc (.cells #[.slice a0 n0 c0, .slice a1 n1 c1] 25)).alloc (.cells #[.slice b0 m0 d0, .slice b1 m1 d1] 25) = W at *
  generalize hP : w.heap.size = P at *
  have HWW := hide (show ∀ wr, Below W.heap.size W wr → (wr.cell? ⟨P, 0, none⟩ = some (.slice a0 n0 c0) ∧ wr.cell? ⟨P, 1, none⟩ = some (.slice a1 n1 c1) ∧ wr.cell? ⟨P + 1, 0, none⟩ = some (.slice b0 m0 d0) ∧ wr.cell? ⟨P + 1, 1, none⟩ = some (.slice b1 m1 d1)) ∧ Dm wr a0 a1 n0 n1 nx ru ∧ Dm wr b0 b1 m0 m1 nx2 ru2 ∧ Below P w wr from fun wr hb => by
    have hl := HL.out
    obtain ⟨q0, q1, -⟩ := d_cells ((hb.block P (by omega)).trans HX.out.1)
    obtain ⟨q2, q3, -⟩ := d_cells ((hb.block (P + 1) (by omega)).trans HX.out.2)
    exact ⟨⟨q0, q1, q2, q3⟩, dm_below' hb HMA.out, dm_below' hb HMB.out, HB0.out.trans (hb.mono (by omega))⟩)
  go_wp2_with fail
  refine HAL.out.mono ?_
  rintro e w1 ⟨rfl, hb1⟩
  have HB1 := hide hb1
  obtain ⟨⟨p0, p1, p2, p3⟩, -⟩ := HWW.out w1 hb1
  clear hb1 HAL
  go_wp2_with fail
  refine (great8_any a0 a1 n0 n1 c0 c1 w1 HN.out.1 HN.out.2.1).mono ?_
  rintro e w2 ⟨rfl, hb2⟩
  have HB2 := hide (HB1.out.trans (hb2.mono HB1.out.size))
  clear hb2 p0 p1 p2 p3
  obtain ⟨⟨p0, p1, p2, p3⟩, -⟩ := HWW.out w2 HB2.out
  have HBW := hide (HWW.out w2 HB2.out).2.2.2
  cases hg : (decide (40 < n0) || decide (300 < n1))
  case true =>
    clear hg
    go_wp2
    go_ret
    exact ⟨rfl, by rw [hP]; exact HBW.out⟩
  case false =>
  clear hg
  go_wp2_with fail
  refine (great8_any b0 b1 m0 m1 d0 d1 w2 HN.out.2.2.1 HN.out.2.2.2).mono ?_
  rintro e w3 ⟨rfl, hb3⟩
  have HB3 := hide (HB2.out.trans (hb3.mono HB2.out.size))
  clear hb3 p0 p1 p2 p3 HBW
  obtain ⟨⟨p0, p1, p2, p3⟩, hdA, -, hbw⟩ := HWW.out w3 HB3.out
  have HBW := hide hbw
  have HRA := hide (rright_any7 a0 a1 n0 n1 c0 c1 nx ru w3 hdA)
  clear hdA hbw
  cases hg : (decide (40 < m0) || decide (300 < m1))
  case true =>
    clear hg
    go_wp2
    go_ret
    exact ⟨rfl, by rw [hP]; exact HBW.out⟩
  case false =>
  clear hg
  cases hrA : rightD nx ru
  · have HRF := hide (show rightD nx ru = false ∨ rightD nx2 ru2 = false from .inl hrA)
    rw [hrA] at HRA
    clear hrA
    go_wp2_with fail
    refine HRA.out.mono ?_
    rintro e w4 ⟨rfl, hb4⟩
    have HB4 := hide (HB3.out.trans (hb4.mono HB3.out.size))
    clear hb4 p0 p1 p2 p3 HRA
    obtain ⟨⟨p0, p1, p2, p3⟩, hdA, hdB, -⟩ := HWW.out w4 HB4.out
    have HNO := hide (msame_no a0 a1 b0 b1 n0 n1 m0 m1 c0 c1 d0 d1 nx nx2 ru ru2 w4 hdA hdB HRF.out)
    clear hdA hdB
    go_wp2_with fail
    refine HNO.out.mono ?_
    rintro e w5 ⟨rfl, hb5⟩
    have HBF := hide (HWW.out _ (HB4.out.trans (hb5.mono HB4.out.size))).2.2.2
    clear hb5 HNO p0 p1 p2 p3
    go_wp2
    go_ret
    exact ⟨rfl, by rw [hP]; exact HBF.out⟩
  · have HRA2 := hide hrA
    rw [hrA] at HRA
    clear hrA
    go_wp2_with fail
    refine HRA.out.mono ?_
    rintro e w4 ⟨rfl, hb4⟩
    have HB4 := hide (HB3.out.trans (hb4.mono HB3.out.size))
    clear hb4 p0 p1 p2 p3 HRA
    obtain ⟨⟨p0, p1, p2, p3⟩, -, hdB, -⟩ := HWW.out w4 HB4.out
    have HRB := hide (rright_any7 b0 b1 m0 m1 d0 d1 nx2 ru2 w4 hdB)
    clear hdB
    cases hrB : rightD nx2 ru2
    · have HRF := hide (show rightD nx ru = false ∨ rightD nx2 ru2 = false from .inr hrB)
      rw [hrB] at HRB
      clear hrB
      go_wp2_with fail
      refine HRB.out.mono ?_
      rintro e w5 ⟨rfl, hb5⟩
      have HB5 := hide (HB4.out.trans (hb5.mono HB4.out.size))
      clear hb5 p0 p1 p2 p3 HRB
      obtain ⟨⟨p0, p1, p2, p3⟩, hdA, hdB, -⟩ := HWW.out w5 HB5.out
      have HNO := hide (msame_no a0 a1 b0 b1 n0 n1 m0 m1 c0 c1 d0 d1 nx nx2 ru ru2 w5 hdA hdB HRF.out)
      clear hdA hdB
      go_wp2_with fail
      refine HNO.out.mono ?_
      rintro e w6 ⟨rfl, hb6⟩
      have HBF := hide (HWW.out _ (HB5.out.trans (hb6.mono HB5.out.size))).2.2.2
      clear hb6 HNO p0 p1 p2 p3
      go_wp2
      go_ret
      exact ⟨rfl, by rw [hP]; exact HBF.out⟩
    · have HRB2 := hide hrB
      rw [hrB] at HRB
      clear hrB
      go_wp2_with fail
      refine HRB.out.mono ?_
      rintro e w5 ⟨rfl, hb5⟩
      have HB5 := hide (HB4.out.trans (hb5.mono HB4.out.size))
      clear hb5 p0 p1 p2 p3 HRB
      obtain ⟨⟨p0, p1, p2, p3⟩, hdA, hdB, -⟩ := HWW.out w5 HB5.out
      obtain ⟨rfl, hxA⟩ := mx_dm hdA HRA2.out
      obtain ⟨rfl, hxB⟩ := mx_dm hdB HRB2.out
      have HXA := hide hxA
      have HXB := hide hxB
      clear hdA hdB hxA hxB
      go_wp2_with fail
      go_region_held3 (fun w' => w'.cell? ⟨P, 0, none⟩ = some (.slice a0 n1 c0) ∧ w'.cell? ⟨P, 1, none⟩ = some (.slice a1 n1 c1) ∧ w'.cell? ⟨P + 1, 0, none⟩ = some (.slice b0 m1 d0) ∧ w'.cell? ⟨P + 1, 1, none⟩ = some (.slice b1 m1 d1)) (first | assumption | go_keep) ((first
        | (go_at_call 16; refine (dsameG_any f0 f1 g0 g1 k1 k1 k2 k2 t0 t1 t2 t3 y y2 s s2 w8 HE8.out.l0 HE8.out.l1 HG8.out.l0 HG8.out.l1 (by omega) (by omega) (by omega) (by omega) HE8.out.dr HE8.out.wd HG8.out.dr HG8.out.wd (mx_fit HMY.out) (mx_fit HMZ.out)).mono ?_; rw [show decide (y = y2 ∧ s = s2) = v from by rw [← HV.out, (smM_one HS1.out HS3.out).1, (smM_one HS1.out HS3.out).2, (smM_one HS2.out HS4.out).1, (smM_one HS2.out HS4.out).2]]; rintro e w9 ⟨rfl, hb9⟩; have HB9 := hide (HB8.out.trans (hb9.mono HB8.out.size)); have kc := (HWW.out w9 HB9.out).1; clear hb9)
        | (go_at_call_of 17 d0; refine (rsmall_any b0 b1 m1 d0 d1 M nx2 ru2 w7 HMM.out (HWW.out w7 HB7.out).2.2.1 HXB.out).mono ?_; rintro e w8 ⟨y2, s2, k2, g0, g1, t2, t3, hs4, hmz, rfl, hd8, hk2, hb8⟩; have hn8 := hmz.most; have HB8 := hide (HB7.out.trans (hb8.mono HB7.out.size)); have HS4 := hide hs4; have HMZ := hide hmz; have HG8 := hide hd8; have HE8 := hide (dm_below' hb8 HE7.out); have kb := (HWW.out w8 HB8.out).1; clear hs4 hmz hd8 hb8)
        | (go_at_call_of 17 c0; refine (rsmall_any a0 a1 n1 c0 c1 M nx ru w6 HMM.out (HWW.out w6 HB6.out).2.1 HXA.out).mono ?_; rintro e w7 ⟨y, s, k1, f0, f1, t0, t1, hs3, hmy, rfl, hd7, hk1, hb7⟩; have hn7 := hmy.most; have HB7 := hide (HB6.out.trans (hb7.mono HB6.out.size)); have HS3 := hide hs3; have HMY := hide hmy; have HE7 := hide hd7; have ka := (HWW.out w7 HB7.out).1; clear hs3 hmy hd7 hb7)
        | (go_at_call 18; refine (HSM.out a0 a1 b0 b1 n1 m1 c0 c1 d0 d1 M nx nx2 ru ru2 w5.drew HMM.out (HWW.out _ (HB5.out.trans ((below_drew1 w5).mono HB5.out.size))).2.1 (HWW.out _ (HB5.out.trans ((below_drew1 w5).mono HB5.out.size))).2.2.1 HRA2.out HRB2.out HXA.out HXB.out).mono ?_; rintro e w6 ⟨x, x2, r, r2, hs1, hs2, rfl, hb6⟩; have HB6 := hide ((HB5.out.trans ((below_drew1 w5).mono HB5.out.size)).trans (hb6.mono HB5.out.size)); have HS1 := hide hs1; have HS2 := hide hs2; obtain ⟨v, hv⟩ : ∃ v, decide (x = x2 ∧ r = r2) = v := ⟨_, rfl⟩; rw [hv]; have HV := hide hv; have k7 := (HWW.out w6 HB6.out).1; clear hs1 hs2 hb6 hv)))
      have HBF := hide (HWW.out _ HB9.out).2.2.2
      go_wp2
      go_ret
      exact ⟨by simp, by rw [hP]; exact HBF.out⟩
end Go.Proofs.Ythkollnlmnbidaa.A
