/- The law on what the smallest machine matches, walked. -/
import Derived.Test.YthkollnlmnbidaaGr
import Derived.Deep.RegionHeld3
namespace Go.Proofs.Ythkollnlmnbidaa.A
open Go.RowKit Go.Maps
set_option linter.unusedVariables false

theorem smM_right {nx : List (List Int)} {ru : List Int} {n M : Nat} (hM : M = 201) {x : List (List Int)} {r : List Int} (h : SmM nx ru n M x r) : rightD x r = true := by
  obtain ⟨A, g, hc, rfl, rfl⟩ := h
  exact sm_right hc M hM
theorem smM_eqo {nx : List (List Int)} {ru : List Int} {n M : Nat} (hM : M = 201) {x : List (List Int)} {r : List Int} (h : SmM nx ru n M x r) : Eqo nx ru x r 0 0 := by
  obtain ⟨A, g, hc, rfl, rfl⟩ := h
  exact sm_eqo hc M hM
theorem smM_again {nx : List (List Int)} {ru : List Int} {n k M : Nat} (hM : M = 201) {x y : List (List Int)} {r s : List Int} (h : SmM nx ru n M x r) (h' : SmM x r k M y s) : x = y ∧ r = s := by
  obtain ⟨A, g, hc, rfl, rfl⟩ := h
  obtain ⟨A', g', hc', rfl, rfl⟩ := h'
  have e := sm_again hc M hM hc'
  exact ⟨by rw [e], by rw [e]⟩

set_option maxRecDepth 100000 in
set_option maxHeartbeats 6400000 in
theorem matches_law (hsame : SameYes) (M : Nat) (hM : M = 201) (a0 a1 : Option Addr) (n0 n1 c0 c1 : Nat) (nx : List (List Int)) (ru : List Int) (a : Option Addr) (len cap : Nat) (word : List Int) (w : World) (hm : Dm w a0 a1 n0 n1 nx ru) (hW : Wd w a word) (hz : word.length = len) (hl : len ≤ cap) (hc : cap ≤ maxLen) :
    Calls Try.prog 6 #[.agg #[.slice a0 n0 c0, .slice a1 n1 c1], .slice a len cap] w fun e w' => e = .returned (.bool true) ∧ Below w.heap.size w w' := by
  have HSM := hide hsame
  have HMM := hide hM
  have HM0 := hide hm.m0
  have HM1 := hide hm.m1
  have HZ := hide (And.intro hz (And.intro hl hc))
  have hlm : len ≤ maxLen := Nat.le_trans hl hc
  have HLM := hide hlm
  unfold maxLen at hlm
  have hb0 := (Below.refl w.heap.size w).alloc (Nat.le_refl _) (.cells #[.slice a0 n0 c0, .slice a1 n1 c1] 25)
  have HS := hide (show (w.alloc (.cells #[.slice a0 n0 c0, .slice a1 n1 c1] 25)).heap.size = w.heap.size + 1 by simp)
  have HBX := hide (heap_alloc_last w (.cells #[.slice a0 n0 c0, .slice a1 n1 c1] 25))
  have HB0 := hide hb0
  have HDM := hide (dm_below' hb0 hm)
  have HWD := hide (wd_below hb0 hW)
  have HAL := hide (alive_any hsame M hM (w.alloc (.cells #[.slice a0 n0 c0, .slice a1 n1 c1] 25)))
  clear hsame hM hm hb0 hW hz hl hc
  go_enter Try.func6, Try.ntmps6
  go_upto_region 1 with fail
  generalize w.alloc (.cells #[.slice a0 n0 c0, .slice a1 n1 c1] 25) = W1 at *
  generalize hP : w.heap.size = P at *
  have HW := hide (show ∀ wr, Below W1.heap.size W1 wr → (wr.cell? ⟨P, 0, none⟩ = some (.slice a0 n0 c0) ∧ wr.cell? ⟨P, 1, none⟩ = some (.slice a1 n1 c1)) ∧ Dm wr a0 a1 n0 n1 nx ru ∧ Wd wr a word ∧ Below P w wr from fun wr hb => by
    obtain ⟨q0, q1, -⟩ := d_cells ((hb.block P (by rw [HS.out]; omega)).trans HBX.out)
    exact ⟨⟨q0, q1⟩, dm_below' hb HDM.out, wd_below hb HWD.out, HB0.out.trans (hb.mono (by rw [HS.out]; omega))⟩)
  go_wp2_with fail
  refine HAL.out.mono ?_
  rintro e w1 ⟨rfl, hb1⟩
  have HB1 := hide hb1
  obtain ⟨⟨p0, p1⟩, -⟩ := HW.out w1 hb1
  clear hb1 HAL
  go_wp2_with fail
  refine (great8_any a0 a1 n0 n1 c0 c1 w1 HM0.out HM1.out).mono ?_
  rintro e w2 ⟨rfl, hb2⟩
  have HB2 := hide (HB1.out.trans (hb2.mono HB1.out.size))
  clear hb2 p0 p1
  obtain ⟨⟨p0, p1⟩, hdm, -, hbw⟩ := HW.out w2 HB2.out
  have HD2 := hide hdm
  have HBW := hide hbw
  have HRI := hide (dright_any a0 a1 n0 n1 c0 c1 nx ru w2 hdm.l0 hdm.l1 hdm.dr hdm.wd hdm.m0 hdm.m1)
  clear hdm hbw
  cases hg : (decide (40 < n0) || decide (300 < n1))
  case true =>
    clear hg
    go_wp2
    go_ret
    exact ⟨rfl, by rw [hP]; exact HBW.out⟩
  case false =>
  clear hg
  by_cases hl60 : 60 < len
  · have z0 : decide ((60 : Int) < (len : Int)) = true := by simp; omega
    go_wp2
    go_ret
    exact ⟨rfl, by rw [hP]; exact HBW.out⟩
  have z0 : decide ((60 : Int) < (len : Int)) = false := by simp; omega
  cases hr : rightD nx ru
  · rw [hr] at HRI
    clear hr
    go_wp2_with fail
    refine HRI.out.mono ?_
    rintro e w3 ⟨rfl, hb3⟩
    have HBF := hide (HW.out _ (HB2.out.trans (hb3.mono HB2.out.size))).2.2.2
    clear hb3 HRI
    go_wp2
    go_ret
    exact ⟨rfl, by rw [hP]; exact HBF.out⟩
  · obtain ⟨rfl, hx⟩ := mx_dm HD2.out hr
    have HR := hide hr
    have HX := hide hx
    have hnm := hx.most
    have hnp := hx.pos
    rw [hr] at HRI
    clear hr hx
    go_wp2_with fail
    refine HRI.out.mono ?_
    rintro e w3 ⟨rfl, hb3⟩
    have HB3 := hide (HB2.out.trans (hb3.mono HB2.out.size))
    clear hb3 HRI p0 p1 HBW HD2
    obtain ⟨⟨p0, p1⟩, hdm, -⟩ := HW.out w3 HB3.out
    have HDM3 := hide hdm
    clear hdm
    go_wp2_with fail
    refine (msmall_any a0 a1 n1 c0 c1 M nx ru w3 HMM.out HDM3.out HR.out HX.out).mono ?_
    rintro e w4 ⟨x, r, k, x0, x1, u0, u1, hs, hmx, rfl, hd4, hk, hb4⟩
    have HS1 := hide hs
    have HMX1 := hide hmx
    have hkm := hmx.most
    have HBX4 := hide (heap_alloc_last w4 (.cells #[.slice x0 k u0, .slice x1 k u1] 25))
    have HB4 := hide (HB3.out.trans ((hb4.alloc hb4.size (.cells #[.slice x0 k u0, .slice x1 k u1] 25)).mono HB3.out.size))
    have HD4 := hide (dm_below' (al1' w4 (.cells #[.slice x0 k u0, .slice x1 k u1] 25)) hd4)
    clear hs hmx hd4 hb4 HDM3 p0 p1
    go_wp2_with fail
    generalize hW5 : w4.alloc (.cells #[.slice x0 k u0, .slice x1 k u1] 25) = W5 at *
    have hlt5 : w4.heap.size < W5.heap.size := by rw [← hW5]; simp
    generalize w4.heap.size = B5 at *
    have HRX := hide (smM_right HMM.out HS1.out)
    have HW5 := hide (show ∀ wr, Below W5.heap.size W5 wr → ((wr.cell? ⟨P, 0, none⟩ = some (.slice a0 n1 c0) ∧ wr.cell? ⟨P, 1, none⟩ = some (.slice a1 n1 c1)) ∧ (wr.cell? ⟨B5, 0, none⟩ = some (.slice x0 k u0) ∧ wr.cell? ⟨B5, 1, none⟩ = some (.slice x1 k u1))) ∧ Dm wr a0 a1 n1 n1 nx ru ∧ Dm wr x0 x1 k k x r ∧ Wd wr a word ∧ Below P w wr from fun wr hb => by
      obtain ⟨h1, h2, h3, h4⟩ := HW.out wr (HB4.out.trans (hb.mono HB4.out.size))
      obtain ⟨q0, q1, -⟩ := d_cells ((hb.block B5 hlt5).trans HBX4.out)
      exact ⟨⟨h1, q0, q1⟩, h2, dm_below' hb HD4.out, h3, h4⟩)
    obtain ⟨⟨⟨p0, p1⟩, p2, p3⟩, -⟩ := HW5.out W5 (Below.refl _ _)
    clear hW5 HBX4 HBX
    refine (msmall_any x0 x1 k u0 u1 M x r W5 HMM.out HD4.out HRX.out HMX1.out).mono ?_
    rintro e w6 ⟨y, s, k2, y0, y1, v0, v1, hs2, hmx2, rfl, hd6, hk2, hb6⟩
    obtain ⟨rfl, rfl⟩ := smM_again HMM.out HS1.out hs2
    obtain rfl : k2 = k := by rw [← hmx2.ln, HMX1.out.ln]
    have HS2 := hide hs2
    have HBX6 := hide (heap_alloc_last w6 (.cells #[.slice y0 k2 v0, .slice y1 k2 v1] 25))
    have HB6 := hide (hb6.alloc hb6.size (.cells #[.slice y0 k2 v0, .slice y1 k2 v1] 25))
    have HD6 := hide (dm_below' (al1' w6 (.cells #[.slice y0 k2 v0, .slice y1 k2 v1] 25)) hd6)
    clear hs2 hmx2 hd6 hb6 p0 p1 p2 p3
    obtain ⟨⟨⟨p0, p1⟩, p2, p3⟩, -⟩ := HW5.out _ HB6.out
    go_wp2_with fail
    generalize hW7 : w6.alloc (.cells #[.slice y0 k2 v0, .slice y1 k2 v1] 25) = W7 at *
    have hlt7 : w6.heap.size < W7.heap.size := by rw [← hW7]; simp
    generalize w6.heap.size = B7 at *
    have HW7 := hide (show ∀ wr, Below W7.heap.size W7 wr → ((wr.cell? ⟨P, 0, none⟩ = some (.slice a0 n1 c0) ∧ wr.cell? ⟨P, 1, none⟩ = some (.slice a1 n1 c1)) ∧ (wr.cell? ⟨B5, 0, none⟩ = some (.slice x0 k2 u0) ∧ wr.cell? ⟨B5, 1, none⟩ = some (.slice x1 k2 u1)) ∧ (wr.cell? ⟨B7, 0, none⟩ = some (.slice y0 k2 v0) ∧ wr.cell? ⟨B7, 1, none⟩ = some (.slice y1 k2 v1))) ∧ Dm wr a0 a1 n1 n1 nx ru ∧ Dm wr x0 x1 k2 k2 x r ∧ Dm wr y0 y1 k2 k2 x r ∧ Wd wr a word ∧ Below P w wr from fun wr hb => by
      obtain ⟨⟨h1, h2⟩, h3, h4, h5, h6⟩ := HW5.out wr (HB6.out.trans (hb.mono HB6.out.size))
      obtain ⟨q0, q1, -⟩ := d_cells ((hb.block B7 hlt7).trans HBX6.out)
      exact ⟨⟨h1, h2, q0, q1⟩, h3, h4, dm_below' hb HD6.out, h5, h6⟩)
    clear p0 p1 p2 p3
    obtain ⟨⟨⟨p0, p1⟩, ⟨p2, p3⟩, p4, p5⟩, hda, -, -, hwa, -⟩ := HW7.out W7 (Below.refl _ _)
    have HDA := hide hda
    have HWA := hide hwa
    clear hW7 HBX6 hda hwa
    refine (dlong_any a0 a1 n1 n1 c0 c1 nx ru a len cap word 0 W7 HDA.out HZ.out.1 HZ.out.2.1 HZ.out.2.2 HWA.out).mono ?_
    rintro e w8 ⟨rfl, hb8⟩
    have HB8 := hide hb8
    clear hb8 p0 p1 p2 p3 p4 p5 HDA HWA
    obtain ⟨⟨⟨p0, p1⟩, ⟨p2, p3⟩, p4, p5⟩, -, hda, -, hwa, -⟩ := HW7.out w8 HB8.out
    have HDA := hide hda
    have HWA := hide hwa
    clear hda hwa
    go_wp2_with fail
    refine (dlong_any x0 x1 k2 k2 u0 u1 x r a len cap word 0 w8 HDA.out HZ.out.1 HZ.out.2.1 HZ.out.2.2 HWA.out).mono ?_
    rintro e w9 ⟨rfl, hb9⟩
    have HB9 := hide (HB8.out.trans (hb9.mono HB8.out.size))
    clear hb9 p0 p1 p2 p3 p4 p5 HDA HWA
    have HEQ := hide (smM_eqo HMM.out HS1.out)
    rw [← eqo_long HX.out HMX1.out HR.out HRX.out HEQ.out word 0]
    generalize longR nx ru word 0 = lg
    obtain ⟨⟨⟨p0, p1⟩, ⟨p2, p3⟩, p4, p5⟩, -⟩ := HW7.out w9 HB9.out
    have HMT := hide (eqo_mat HX.out HMX1.out HR.out HRX.out HEQ.out word)
    have z1 : decide ((k2 : Int) ≤ (n1 : Int)) = true := by simp; omega
    go_wp2_with fail
    go_region_held3 (fun w' => w'.cell? ⟨P, 0, none⟩ = some (.slice a0 n1 c0) ∧ w'.cell? ⟨P, 1, none⟩ = some (.slice a1 n1 c1) ∧ w'.cell? ⟨B5, 0, none⟩ = some (.slice x0 k2 u0) ∧ w'.cell? ⟨B5, 1, none⟩ = some (.slice x1 k2 u1) ∧ w'.cell? ⟨B7, 0, none⟩ = some (.slice y0 k2 v0) ∧ w'.cell? ⟨B7, 1, none⟩ = some (.slice y1 k2 v1)) (first | assumption | go_keep) ((first
      | (go_at_call 18; refine (HSM.out a0 a1 x0 x1 n1 k2 c0 c1 u0 u1 M nx x ru r w12 HMM.out (HW7.out w12 HB12.out).2.1 (HW7.out w12 HB12.out).2.2.1 HR.out HRX.out HX.out HMX1.out).mono ?_; rintro e w13 ⟨x2, x3, r2, r3, hs3, hs4, rfl, hb13⟩; have HB13 := hide (HB12.out.trans (hb13.mono HB12.out.size)); rw [show decide (x2 = x3 ∧ r2 = r3) = true from decide_eq_true ⟨(smM_one hs3 HS1.out).1.trans (smM_again HMM.out HS1.out hs4).1, (smM_one hs3 HS1.out).2.trans (smM_again HMM.out HS1.out hs4).2⟩]; obtain ⟨⟨⟨s0, s1⟩, ⟨s2, s3⟩, s4, s5⟩, -⟩ := HW7.out w13 HB13.out; clear hs3 hs4 hb13)
      | (go_at_call 16; refine (dsameG_any x0 x1 y0 y1 k2 k2 k2 k2 u0 u1 v0 v1 x x r r w11 (HW7.out w11 HB11.out).2.2.1.l0 (HW7.out w11 HB11.out).2.2.1.l1 (HW7.out w11 HB11.out).2.2.2.1.l0 (HW7.out w11 HB11.out).2.2.2.1.l1 (by omega) (by omega) (by omega) (by omega) (HW7.out w11 HB11.out).2.2.1.dr (HW7.out w11 HB11.out).2.2.1.wd (HW7.out w11 HB11.out).2.2.2.1.dr (HW7.out w11 HB11.out).2.2.2.1.wd (mx_fit HMX1.out) (mx_fit HMX1.out)).mono ?_; rw [show decide (x = x ∧ r = r) = true from decide_eq_true ⟨rfl, rfl⟩]; rintro e w12 ⟨rfl, hb12⟩; have HB12 := hide (HB11.out.trans (hb12.mono HB11.out.size)); obtain ⟨⟨⟨r0, r1⟩, ⟨r2, r3⟩, r4, r5⟩, -⟩ := HW7.out w12 HB12.out; clear hb12)
      | (go_at_call_of 21 u0; refine (dmatch_any x0 x1 k2 k2 u0 u1 x r a len cap word w10 (HW7.out w10 HB10.out).2.2.1 HZ.out.1 HLM.out (HW7.out w10 HB10.out).2.2.2.2.1).mono ?_; rw [← HMT.out]; rintro e w11 ⟨rfl, hb11⟩; have HB11 := hide (HB10.out.trans (hb11.mono HB10.out.size)); obtain ⟨⟨⟨q0, q1⟩, ⟨q2, q3⟩, q4, q5⟩, -⟩ := HW7.out w11 HB11.out; clear hb11)
      | (go_at_call_of 21 c0; refine (dmatch_any a0 a1 n1 n1 c0 c1 nx ru a len cap word _ (HW7.out _ (HB9.out.trans ((below_drew1 w9).mono HB9.out.size))).2.1 HZ.out.1 HLM.out (HW7.out _ (HB9.out.trans ((below_drew1 w9).mono HB9.out.size))).2.2.2.2.1).mono ?_; rintro e w10 ⟨rfl, hb10⟩; have HB10 := hide ((HB9.out.trans ((below_drew1 w9).mono HB9.out.size)).trans (hb10.mono HB9.out.size)); obtain ⟨⟨⟨o0, o1⟩, ⟨o2, o3⟩, o4, o5⟩, -⟩ := HW7.out w10 HB10.out; clear hb10)))
    have HBF := hide (HW7.out _ HB13.out).2.2.2.2.2
    go_wp2
    go_ret
    exact ⟨by simp, by rw [hP]; exact HBF.out⟩
end Go.Proofs.Ythkollnlmnbidaa.A
