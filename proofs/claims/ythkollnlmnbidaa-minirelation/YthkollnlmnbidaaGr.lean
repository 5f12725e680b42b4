/- The law on smallest machines, walked; the document's Small, by what it is. -/
import Derived.Test.YthkollnlmnbidaaGq
namespace Go.Proofs.Ythkollnlmnbidaa.A
open Go.RowKit Go.Maps
set_option linter.unusedVariables false

theorem rsmall_any (a0 a1 : Option Addr) (n c0 c1 M : Nat) (nx : List (List Int)) (ru : List Int) (w : World) (hM : M = 201) (hm : Dm w a0 a1 n n nx ru) (hx : Mx nx ru n) :
    Calls Try.prog 17 #[.agg #[.slice a0 n c0, .slice a1 n c1]] w fun e w' => ∃ (nx' : List (List Int)) (ru' : List Int) (k : Nat) (b0 b1 : Option Addr) (d0 d1 : Nat), SmM nx ru n M nx' ru' ∧ Mx nx' ru' k ∧ e = .returned (.agg #[.slice b0 k d0, .slice b1 k d1]) ∧ Dm w' b0 b1 k k nx' ru' ∧ k ≤ n ∧ Below w.heap.size w w' := by
  refine (small_any a0 a1 n c0 c1 nx ru w hx hm).mono ?_
  rintro e w' ⟨A, g, hal, hlv, b0, b1, d0, d1, rfl, h0, h1, hb⟩
  have hc : Cl nx ru n A g := ⟨hx, hal, hlv⟩
  have hmx := sm_mx hc M hM
  have hle := sm_len hc M
  have htb := (sm_tb' hc M hM).ln
  unfold smF at hmx hle htb
  rw [← hM] at h0 h1 ⊢
  refine ⟨_, _, (stF (trM nx A g n) (lsM ru) (clsM A n 0) M).2.1.length, b0, b1, d0, d1, ⟨A, g, hc, rfl, rfl⟩, hmx, by rw [hmx.lr], ⟨rfl, hmx.lr, h0, h1, ?_, ?_⟩, by omega, hb⟩
  · have := hmx.most; unfold maxLen; omega
  · have := hmx.most; unfold maxLen; omega

set_option maxRecDepth 100000 in
set_option maxHeartbeats 1600000 in
theorem small_law (hsame : SameYes) (M : Nat) (hM : M = 201) (a0 a1 : Option Addr) (n0 n1 c0 c1 : Nat) (nx : List (List Int)) (ru : List Int) (w : World) (hm : Dm w a0 a1 n0 n1 nx ru) :
    Calls Try.prog 4 #[.agg #[.slice a0 n0 c0, .slice a1 n1 c1]] w fun e w' => e = .returned (.bool true) ∧ Below w.heap.size w w' := by
  have HSM := hide hsame
  have HMM := hide hM
  have HM0 := hide hm.m0
  have HM1 := hide hm.m1
  have hb0 := (Below.refl w.heap.size w).alloc (Nat.le_refl _) (.cells #[.slice a0 n0 c0, .slice a1 n1 c1] 25)
  have HS := hide (show (w.alloc (.cells #[.slice a0 n0 c0, .slice a1 n1 c1] 25)).heap.size = w.heap.size + 1 by simp)
  have HBX := hide (heap_alloc_last w (.cells #[.slice a0 n0 c0, .slice a1 n1 c1] 25))
  have HB0 := hide hb0
  have HDM := hide (dm_below' hb0 hm)
  have HAL := hide (alive_any hsame M hM (w.alloc (.cells #[.slice a0 n0 c0, .slice a1 n1 c1] 25)))
  clear hsame hM hm hb0
  go_enter Try.func4, Try.ntmps4
  go_upto_region 1 with fail
  generalize w.alloc (.cells #[.slice a0 n0 c0, .slice a1 n1 c1] 25) = W1 at *
  generalize hP : w.heap.size = P at *
  have HW := hide (show ∀ wr, Below W1.heap.size W1 wr → (wr.cell? ⟨P, 0, none⟩ = some (.slice a0 n0 c0) ∧ wr.cell? ⟨P, 1, none⟩ = some (.slice a1 n1 c1)) ∧ Dm wr a0 a1 n0 n1 nx ru ∧ Below P w wr from fun wr hb => by
    obtain ⟨q0, q1, -⟩ := d_cells ((hb.block P (by rw [HS.out]; omega)).trans HBX.out)
    exact ⟨⟨q0, q1⟩, dm_below' hb HDM.out, HB0.out.trans (hb.mono (by rw [HS.out]; omega))⟩)
  go_wp2_with fail
  refine HAL.out.mono ?_
  rintro e w1 ⟨rfl, hb1⟩
  have HB1 := hide hb1
  obtain ⟨⟨p0, p1⟩, -, -⟩ := HW.out w1 hb1
  clear hb1 HAL
  go_wp2_with fail
  refine (great8_any a0 a1 n0 n1 c0 c1 w1 HM0.out HM1.out).mono ?_
  rintro e w2 ⟨rfl, hb2⟩
  have HB2 := hide (HB1.out.trans (hb2.mono HB1.out.size))
  clear hb2 p0 p1
  obtain ⟨⟨p0, p1⟩, hdm, hbw⟩ := HW.out w2 HB2.out
  have HD2 := hide hdm
  have HBW := hide hbw
  clear hdm hbw
  cases hg : (decide (40 < n0) || decide (300 < n1))
  case true =>
    clear hg
    go_wp2
    go_ret
    exact ⟨rfl, by rw [hP]; exact HBW.out⟩
  case false =>
    clear hg
    cases hr : rightD nx ru
    · have HR := hide hr
      have HNO := hide (msmall_no a0 a1 n0 n1 c0 c1 nx ru w2 HD2.out hr)
      clear hr
      go_wp2_with fail
      refine HNO.out.mono ?_
      rintro e w3 ⟨rfl, hb3⟩
      have HB3 := hide (HB2.out.trans (hb3.mono HB2.out.size))
      have HB4 := hide (HB3.out.alloc HB3.out.size (.cells #[.slice none 0 0, .slice none 0 0] 25))
      clear p0 p1 hb3 HNO
      obtain ⟨⟨p0, p1⟩, hdm, -⟩ := HW.out _ HB4.out
      have HRR := hide (rright_any7 a0 a1 n0 n1 c0 c1 nx ru _ hdm)
      rw [HR.out] at HRR
      have HN4 := hide (nil2 w3)
      clear hdm
      go_wp2_with fail
      refine HRR.out.mono ?_
      rintro e w5 ⟨rfl, hb5⟩
      obtain ⟨e0, e1, -⟩ := d_cells ((hb5.block w3.heap.size (by simp)).trans HN4.out)
      have HB5 := hide (HB4.out.trans (hb5.mono HB4.out.size))
      have HBF := hide (HW.out _ HB5.out).2.2
      clear hb5 HRR p0 p1
      go_wp2
      go_ret
      exact ⟨rfl, by rw [hP]; exact HBF.out⟩
    · obtain ⟨rfl, hx⟩ := mx_dm HD2.out hr
      have HR := hide hr
      have HX := hide hx
      clear hr hx
      go_wp2_with fail
      refine (msmall_any a0 a1 n1 c0 c1 M nx ru w2 HMM.out HD2.out HR.out HX.out).mono ?_
      rintro e w3 ⟨x, r, k, x0, x1, u0, u1, hs, hmx, rfl, hd3, hk, hb3⟩
      have hn3 := hmx.most
      have HSS := hide hs
      have HMX := hide hmx
      have HB3 := hide (HB2.out.trans (hb3.mono HB2.out.size))
      have HD3 := hide (dm_below' ((Below.refl _ _).alloc (Nat.le_refl _) (.cells #[.slice x0 k u0, .slice x1 k u1] 25)) hd3)
      have HB4 := hide (HB3.out.alloc HB3.out.size (.cells #[.slice x0 k u0, .slice x1 k u1] 25))
      have HN4 := hide (heap_alloc_last w3 (.cells #[.slice x0 k u0, .slice x1 k u1] 25))
      clear p0 p1 hs hmx hd3 hb3
      obtain ⟨⟨p0, p1⟩, hdm, -⟩ := HW.out _ HB4.out
      have HRR := hide (rright_any7 a0 a1 n1 n1 c0 c1 nx ru _ hdm)
      rw [HR.out] at HRR
      clear hdm
      go_wp2_with fail
      have hs4 : w3.heap.size < (w3.alloc (.cells #[.slice x0 k u0, .slice x1 k u1] 25)).heap.size := by simp
      generalize w3.alloc (.cells #[.slice x0 k u0, .slice x1 k u1] 25) = W4 at *
      generalize w3.heap.size = g4 at *
      refine HRR.out.mono ?_
      rintro e w5 ⟨rfl, hb5⟩
      have HWW := hide (show ∀ wr, Below w5.heap.size w5 wr → (wr.cell? ⟨P, 0, none⟩ = some (.slice a0 n1 c0) ∧ wr.cell? ⟨P, 1, none⟩ = some (.slice a1 n1 c1) ∧ wr.cell? ⟨g4, 0, none⟩ = some (.slice x0 k u0) ∧ wr.cell? ⟨g4, 1, none⟩ = some (.slice x1 k u1)) ∧ Dm wr a0 a1 n1 n1 nx ru ∧ Dm wr x0 x1 k k x r ∧ Below P w wr from fun wr hb => by
        have hbb := hb5.trans (hb.mono hb5.size)
        obtain ⟨e0, e1, -⟩ := d_cells ((hbb.block g4 hs4).trans HN4.out)
        obtain ⟨⟨q0, q1⟩, hd, hbw⟩ := HW.out wr (HB4.out.trans (hbb.mono HB4.out.size))
        exact ⟨⟨q0, q1, e0, e1⟩, hd, dm_below' hbb HD3.out, hbw⟩)
      obtain ⟨⟨q0, q1, q2, q3⟩, -⟩ := HWW.out w5 (Below.refl _ _)
      clear hb5 HRR p0 p1
      go_wp2_with fail
      go_region_held3 (fun w' => w'.cell? ⟨P, 0, none⟩ = some (.slice a0 n1 c0) ∧ w'.cell? ⟨P, 1, none⟩ = some (.slice a1 n1 c1) ∧ w'.cell? ⟨g4, 0, none⟩ = some (.slice x0 k u0) ∧ w'.cell? ⟨g4, 1, none⟩ = some (.slice x1 k u1)) (first | assumption | go_keep) ((first
        | (go_at_call 16; refine (dsameG_any x0 x1 y0 y1 k k k2 k2 u0 u1 z0 z1 x y r s w6 HD6.out.l0 HD6.out.l1 HE6.out.l0 HE6.out.l1 (by omega) (by omega) (by omega) (by omega) HD6.out.dr HD6.out.wd HE6.out.dr HE6.out.wd (mx_fit HMX.out) (mx_fit HMY.out)).mono ?_; rw [show decide (x = y ∧ r = s) = true from decide_eq_true (smM_one HSS.out HS2.out)]; rintro e w7 ⟨rfl, hb7⟩; have HB7 := hide (HB6.out.trans (hb7.mono HB6.out.size)); have k9 := (HWW.out w7 HB7.out).1; clear hb7)
        | (go_at_call 17; refine (rsmall_any a0 a1 n1 c0 c1 M nx ru w5.drew HMM.out (HWW.out _ (below_drew1 w5)).2.1 HX.out).mono ?_; rintro e w6 ⟨y, s, k2, y0, y1, z0, z1, hs2, hmy, rfl, hd6, hk2, hb6⟩; have hn6 := hmy.most; have HB6 := hide ((below_drew1 w5).trans hb6); have HS2 := hide hs2; have HMY := hide hmy; have HE6 := hide hd6; have HD6 := hide (HWW.out w6 HB6.out).2.2.1; have k8 := (HWW.out w6 HB6.out).1; clear hs2 hmy hd6 hb6)))
      have HBF := hide (HWW.out _ HB7.out).2.2.2
      go_wp2
      go_ret
      exact ⟨rfl, by rw [hP]; exact HBF.out⟩
end Go.Proofs.Ythkollnlmnbidaa.A
