/-
  Whether every machine may be, all its states by free steps and by one category, and the least rule that matches, are as the document says.
  Conditions: none.
-/
import Derived.Test.YtldeofdjhpfdaaaV5
import Derived.OpenShut
import Derived.ShutString
import Derived.ChangeOld
import Derived.Below
import Derived.Deep.RegionHeld3
namespace Go.Proofs.Ytldeofdjhpfdaaa.nfaWalks
open Go.ChangeShapes Go.WideShapes Go.ChangeAt Go.RowKit
open Go.ChangeMaps (open_string shut_string)
set_option linter.unusedVariables false

theorem own : ownKnob Try.prog.godebug = none := by kernel_rfl
theorem laidOut : laidOutB Try.prog = true := by kernel_rfl

set_option maxRecDepth 100000 in
set_option maxHeartbeats 25600000 in
theorem walk (v0 : Value) (f0 : List (List Int)) (s0 : List Nat) (t0 r0 : List Int) (a1 : Option Addr) (len1 cap1 : Nat) (z1 : List Int) (a2 : Int) (a3 : Option Addr) (len3 cap3 : Nat) (z3 : List Int) (w : World) (w0 : A.Nv w v0 f0 s0 t0 r0) (w1 : A.Wd w a1 z1) (e1 : z1.length = len1) (l1 : len1 ≤ cap1) (m1 : cap1 ≤ maxLen) (w2 : (Lit.int .i64 a2).wf = true) (w3 : A.Wd w a3 z3) (e3 : z3.length = len3) (l3 : len3 ≤ cap3) (m3 : cap3 ≤ maxLen) :
    Calls Try.prog 4 #[v0, .slice a1 len1 cap1, .int .i64 a2, .slice a3 len3 cap3] w fun e w' => e = .returned (.bool true) ∧ Below w.heap.size w w' := by
  obtain ⟨b0, b1, b2, b3, c0, c1, c2, c3, rfl, hnm, q0, q1, q2, q3⟩ := w0
  obtain ⟨n0, h0⟩ : ∃ n, f0.length = n := ⟨_, rfl⟩
  obtain ⟨n1, h1⟩ : ∃ n, s0.length = n := ⟨_, rfl⟩
  obtain ⟨n2, h2⟩ : ∃ n, t0.length = n := ⟨_, rfl⟩
  obtain ⟨n3, h3⟩ : ∃ n, r0.length = n := ⟨_, rfl⟩
  rw [h0] at q0
  rw [h1] at q1
  rw [h2] at q2
  rw [h3] at q3
  rw [h0, h1, h2, h3]
  have H0 := A.hide h0
  have H1 := A.hide h1
  have H2 := A.hide h2
  have H3 := A.hide h3
  have hl1 : len1 ≤ maxLen := Nat.le_trans l1 m1
  have hl3 : len3 ≤ maxLen := Nat.le_trans l3 m3
  unfold maxLen at hl1 hl3 q0 q1 q2 q3
  have hb0 := (Below.refl w.heap.size w).alloc (Nat.le_refl _) (.cells #[.slice b0 n0 c0, .slice b1 n1 c1, .slice b2 n2 c2, .slice b3 n3 c3] 29)
  have HNM := A.hide (A.nm_below hb0 hnm)
  have HX := A.hide (A.bx_new w (.slice b0 n0 c0) (.slice b1 n1 c1) (.slice b2 n2 c2) (.slice b3 n3 c3))
  have HB0 := A.hide hb0
  have HZ := A.hide (show w.heap.size < (w.alloc (.cells #[.slice b0 n0 c0, .slice b1 n1 c1, .slice b2 n2 c2, .slice b3 n3 c3] 29)).heap.size by simp)
  have HW1 := A.hide (A.wd_below hb0 w1)
  have HW3 := A.hide (A.wd_below hb0 w3)
  have HE1 := A.hide e1
  have HE3 := A.hide e3
  clear hb0 hnm w1 w3 e1 e3 l1 m1 l3 m3 h0 h1 h2 h3
  go_enter Try.func4, Try.ntmps4
  go_wp2_with fail
  generalize w.alloc (.cells #[.slice b0 n0 c0, .slice b1 n1 c1, .slice b2 n2 c2, .slice b3 n3 c3] 29) = W at *
  generalize hP : w.heap.size = P at *
  have HPW := A.hide (show P ≤ W.heap.size from by rw [← hP]; exact HB0.out.size)
  have HEND := A.hide (show ∀ w', Below W.heap.size W w' → Below w.heap.size w w' from fun w' h => by rw [hP]; exact HB0.out.trans (h.mono HPW.out))
  refine (A.alive_any W).mono ?_
  rintro e X1 ⟨rfl, hb1⟩
  have HB1 := A.hide hb1
  obtain ⟨p0, p1, p2, p3⟩ := A.bx_of (A.bx_below hb1 HZ.out HX.out)
  clear hb1
  by_cases g0 : 200 < n0
  · have d0 : decide ((200 : Int) < (n0 : Int)) = true := by simp; omega
    go_wp2
    go_ret
    exact ⟨rfl, HEND.out _ HB1.out⟩
  have d0 : decide ((200 : Int) < (n0 : Int)) = false := by simp; omega
  by_cases g1 : 200 < n1
  · have d1 : decide ((200 : Int) < (n1 : Int)) = true := by simp; omega
    go_wp2
    go_ret
    exact ⟨rfl, HEND.out _ HB1.out⟩
  have d1 : decide ((200 : Int) < (n1 : Int)) = false := by simp; omega
  by_cases g2 : 200 < len1
  · have d2 : decide ((200 : Int) < (len1 : Int)) = true := by simp; omega
    go_wp2
    go_ret
    exact ⟨rfl, HEND.out _ HB1.out⟩
  have d2 : decide ((200 : Int) < (len1 : Int)) = false := by simp; omega
  by_cases g3 : 30 < len3
  · have d3 : decide ((30 : Int) < (len3 : Int)) = true := by simp; omega
    go_wp2
    go_ret
    exact ⟨rfl, HEND.out _ HB1.out⟩
  have d3 : decide ((30 : Int) < (len3 : Int)) = false := by simp; omega
  go_wp2_with fail
  go_loopw [9] (fun i wr => ∃ (k : Nat), k ≤ n0 ∧ i = .int .i64 k ∧ Below W.heap.size W wr) (fun i _ => n0 - (intOf i).toNat)
  case atStart => exact ⟨0, Nat.zero_le _, rfl, HB1.out⟩
  case round =>
    obtain ⟨k, hk, rfl, hb⟩ := hrel
    have HBW := A.hide hb
    obtain ⟨p0, p1, p2, p3⟩ := A.bx_of (A.bx_below hb HZ.out HX.out)
    clear hb
    by_cases hlt : k < n0
    · obtain ⟨l, hl⟩ : ∃ l, f0[k]? = some l := ⟨_, List.getElem?_eq_getElem (by rw [H0.out]; exact hlt)⟩
      obtain ⟨bf, of_, af, cf, rfl, kf, -⟩ := (A.nm_below HBW.out HNM.out).free k l hl
      have hll := HNM.out.len k l hl
      unfold maxLen at hll
      have i3 : (0 : Int) ≤ (k : Int) := by omega
      have i4 : (k : Int) < (n0 : Int) := by omega
      clear hl
      generalize l.length = ll at *
      by_cases g4 : 50 < ll
      · have d4 : decide ((50 : Int) < (ll : Int)) = true := by simp; omega
        go_wp2
        go_ret
        exact ⟨rfl, HEND.out _ HBW.out⟩
      · have d4 : decide ((50 : Int) < (ll : Int)) = false := by simp; omega
        go_wp2
        go_roundw
        case rel => exact ⟨k + 1, by omega, by go_num, HBW.out⟩
        case measure => simp [intOf]; omega
    · have e : k = n0 := by omega
      subst e
      go_wp2_with fail
      refine (A.nright_any b0 b1 b2 b3 k n1 n2 n3 c0 c1 c2 c3 f0 s0 t0 r0 wr H0.out H1.out H2.out H3.out HNM.out.len (A.nm_below HBW.out HNM.out).free (A.nm_below HBW.out HNM.out).set (A.nm_below HBW.out HNM.out).to (A.nm_below HBW.out HNM.out).rule).mono ?_
      rintro e X2 ⟨rfl, hb2⟩
      have HB2 := A.hide (HBW.out.trans (hb2.mono HBW.out.size))
      have HN2 := A.hide (A.nm_below HB2.out HNM.out)
      obtain ⟨p0, p1, p2, p3⟩ := A.bx_of (A.bx_below HB2.out HZ.out HX.out)
      clear hb2
      cases hr : A.rightN f0 s0 t0 r0
      · have HR := A.hide hr
        clear hr
        go_wp2_with fail
        refine (A.pright_any b0 b1 b2 b3 k n1 n2 n3 c0 c1 c2 c3 f0 s0 t0 r0 X2 H0.out H1.out H2.out H3.out HNM.out.len HN2.out.free HN2.out.set HN2.out.to HN2.out.rule).mono ?_
        rintro e X3 ⟨rfl, hb3⟩
        rw [HR.out]
        have HB3 := A.hide (HB2.out.trans (hb3.mono HB2.out.size))
        obtain ⟨p0, p1, p2, p3⟩ := A.bx_of (A.bx_below HB3.out HZ.out HX.out)
        clear hb3
        go_wp2_with fail
        refine (A.pclose_no b0 b1 b2 b3 k n1 n2 n3 c0 c1 c2 c3 f0 s0 t0 r0 _ X3 H0.out H1.out H2.out H3.out (A.nm_below HB3.out HNM.out) HR.out).mono ?_
        rintro e X4 ⟨rfl, hb4⟩
        have HB4 := A.hide (HB3.out.trans (hb4.mono HB3.out.size))
        obtain ⟨p0, p1, p2, p3⟩ := A.bx_of (A.bx_below HB4.out HZ.out HX.out)
        clear hb4
        go_wp2_with fail
        refine (A.pstep_no b0 b1 b2 b3 k n1 n2 n3 c0 c1 c2 c3 f0 s0 t0 r0 _ _ X4 H0.out H1.out H2.out H3.out (A.nm_below HB4.out HNM.out) HR.out).mono ?_
        rintro e X5 ⟨rfl, hb5⟩
        have HB5 := A.hide (HB4.out.trans (hb5.mono HB4.out.size))
        obtain ⟨p0, p1, p2, p3⟩ := A.bx_of (A.bx_below HB5.out HZ.out HX.out)
        clear hb5
        go_wp2_with fail
        refine (A.pmatch_no b0 b1 b2 b3 k n1 n2 n3 c0 c1 c2 c3 f0 s0 t0 r0 _ X5 H0.out H1.out H2.out H3.out (A.nm_below HB5.out HNM.out) HR.out).mono ?_
        rintro e X6 ⟨rfl, hb6⟩
        have HB6 := A.hide (HB5.out.trans (hb6.mono HB5.out.size))
        clear hb6
        go_wp2
        go_ret
        exact ⟨rfl, HEND.out _ HB6.out⟩
      · have hM := A.right_mach hr
        rw [H0.out] at hM
        obtain rfl : n1 = k := H1.out.symm.trans hM.ls
        obtain rfl : n2 = n1 := H2.out.symm.trans hM.lt
        obtain rfl : n3 = n2 := H3.out.symm.trans hM.lr
        have HM := A.hide hM
        have HSL := A.hide (fun (g : Nat → Bool) => show (A.lstL g n3).length ≤ 100000 from by have := A.lstL_le g n3; omega)
        have HW12 := A.hide (A.wd_below HB2.out HW1.out)
        clear hr hM
        go_wp2_with fail
        refine (A.table_any a1 len1 cap1 n3 z1 X2 HE1.out (by omega) (by omega) HW12.out).mono ?_
        rintro e X3 ⟨B, hBl, rfl, hmk, hb3⟩
        have HB3 := A.hide (HB2.out.trans (hb3.mono HB2.out.size))
        have HMK := A.hide hmk
        obtain ⟨p0, p1, p2, p3⟩ := A.bx_of (A.bx_below HB3.out HZ.out HX.out)
        have HB3D := A.hide (HB3.out.drew)
        have HN3 := A.hide (A.nm_below HB3D.out HNM.out)
        have HBX3 := A.hide (A.mk_lt hmk)
        clear hb3 hmk hBl
        go_wp2_with fail
        go_region_held3 (fun w' => w'.cell? ⟨P, 0, none⟩ = some (.slice b0 n3 c0) ∧ w'.cell? ⟨P, 1, none⟩ = some (.slice b1 n3 c1) ∧ w'.cell? ⟨P, 2, none⟩ = some (.slice b2 n3 c2) ∧ w'.cell? ⟨P, 3, none⟩ = some (.slice b3 n3 c3)) (first | assumption | go_keep) ((first
          | (go_at_call 11; refine (A.ints_any a9 a11 _ _ c9 c11 (A.lstL (A.stpB s0 t0 a2 (A.tblB z1 len1) n3) n3) (A.lstL (A.stpB s0 t0 a2 (A.tblB z1 len1) n3) n3) Y8 (HSL.out _) (HSL.out _) rfl rfl HW9.out HW11.out).mono ?_; rintro e Y9 ⟨rfl, hy9⟩; rw [decide_eq_true (Eq.refl _)]; have HY9 := A.hide (HY8.out.trans (hy9.mono HY8.out.size)); have k9 := A.bx_below HY9.out HZ.out HX.out)
          | (go_at_call 19; refine (A.list_any B10 n3 _ Y7 (by omega) HMK10.out).mono ?_; rintro e Y8 ⟨v11, rfl, ho11, hy8⟩; obtain ⟨a11, c11, rfl, hW11⟩ := A.own_slice ho11; have HW11 := A.hide hW11; have HY8 := A.hide (HY7.out.trans (hy8.mono HY7.out.size)); have HW9 := A.hide (A.wd_below (HY79.out.trans (hy8.mono HY79.out.size)) HW9a.out); have k9 := A.bx_below HY8.out HZ.out HX.out)
          | (go_at_call 21; refine (A.step_any _ _ b1 b2 n3 c1 c2 B s0 t0 a2 (A.tblB z1 len1) Y6 (by omega) HM.out.ls HM.out.lt (A.nm_below HY6.out HNM.out).set (A.nm_below HY6.out HNM.out).to HM.out.to (A.mk_below HBX3.out HY63.out HMK.out)).mono ?_; rintro e Y7 ⟨B10, hB10, rfl, hmk10, hy7⟩; have HMK10 := A.hide hmk10; have HY7 := A.hide (HY6.out.trans (hy7.mono HY6.out.size)); have HY79 := A.hide hy7; have k9 := A.bx_below HY7.out HZ.out HX.out)
          | (go_at_call 12; refine (A.pstep_yes b0 b1 b2 b3 n3 c0 c1 c2 c3 f0 s0 t0 r0 a1 len1 cap1 z1 a2 Y5 HM.out (A.nm_below HY5.out HNM.out) HE1.out (by unfold maxLen; omega) (A.wd_below HY5.out HW1.out)).mono ?_; rintro e Y6 ⟨v9, rfl, ho9, hy6⟩; obtain ⟨a9, c9, rfl, hW9a⟩ := A.own_slice ho9; have HW9a := A.hide hW9a; have HY6 := A.hide (HY5.out.trans (hy6.mono HY5.out.size)); have HY63 := A.hide (HY53.out.trans (hy6.mono HY53.out.size)); have k9 := A.bx_below HY6.out HZ.out HX.out)
          | (go_at_call 11; refine (A.ints_any a5 a7 _ _ c5 c7 (A.lstL g5 n3) (A.lstL g5 n3) Y4 (HSL.out g5) (HSL.out g5) rfl rfl HW5.out HW7.out).mono ?_; rintro e Y5 ⟨rfl, hy5⟩; rw [decide_eq_true (Eq.refl _)]; have HY5 := A.hide (HY4.out.trans (hy5.mono HY4.out.size)); have HY53 := A.hide (HY43.out.trans (hy5.mono HY43.out.size)); have k9 := A.bx_below HY5.out HZ.out HX.out)
          | (go_at_call 19; refine (A.list_any B6 n3 _ Y3 (by omega) HMK6.out).mono ?_; rintro e Y4 ⟨v7, rfl, ho7, hy4⟩; rw [HEQ.out] at ho7; obtain ⟨a7, c7, rfl, hW7⟩ := A.own_slice ho7; have HW7 := A.hide hW7; have HY4 := A.hide (HY3.out.trans (hy4.mono HY3.out.size)); have HY43 := A.hide (HY33.out.trans (hy4.mono HY33.out.size)); have HW5 := A.hide (A.wd_below (HY35.out.trans (hy4.mono HY35.out.size)) HW5a.out); have k9 := A.bx_below HY4.out HZ.out HX.out)
          | (go_at_call 20; refine (A.close_any _ _ _ b0 n3 c0 B f0 (A.tblB z1 len1) Y2 (by omega) HM.out.lf HNM.out.len (A.nm_below HY2.out HNM.out).free HM.out.free (A.mk_below HBX3.out HY23.out HMK.out)).mono ?_; rintro e Y3 ⟨g6, hcl6, B6, hB6, rfl, hmk6, hy3⟩; have HEQ := A.hide (A.lst_congr (A.isCl_one hcl6 HCL5.out)); have HMK6 := A.hide hmk6; have HY3 := A.hide (HY2.out.trans (hy3.mono HY2.out.size)); have HY33 := A.hide (HY23.out.trans (hy3.mono HY23.out.size)); have HY35 := A.hide hy3; have k9 := A.bx_below HY3.out HZ.out HX.out)
          | (go_at_call 16; refine (A.pclose_yes b0 b1 b2 b3 n3 c0 c1 c2 c3 f0 s0 t0 r0 a1 len1 cap1 z1 Y1 HM.out (A.nm_below HY1.out HNM.out) HE1.out (by unfold maxLen; omega) (A.wd_below HY1.out HW1.out)).mono ?_; rintro e Y2 ⟨g5, v5, hcl5, rfl, ho5, hy2⟩; obtain ⟨a5, c5, rfl, hW5a⟩ := A.own_slice ho5; have HW5a := A.hide hW5a; have HCL5 := A.hide hcl5; have HY2 := A.hide (HY1.out.trans (hy2.mono HY1.out.size)); have HY23 := A.hide (HY13.out.trans (hy2.mono HY13.out.size)); have k9 := A.bx_below HY2.out HZ.out HX.out)
          | (go_at_call 15; refine (A.pright_any b0 b1 b2 b3 n3 n3 n3 n3 c0 c1 c2 c3 f0 s0 t0 r0 X3.drew HM.out.lf HM.out.ls HM.out.lt HM.out.lr HNM.out.len HN3.out.free HN3.out.set HN3.out.to HN3.out.rule).mono ?_; rintro e Y1 ⟨rfl, hy1⟩; rw [A.mach_right HM.out]; have HY1 := A.hide (HB3D.out.trans (hy1.mono HB3D.out.size)); have HY13 := A.hide ((A.below_drew1 X3).trans hy1); have k9 := A.bx_below HY1.out HZ.out HX.out)))
        clear hy1 hy2 hy3 hy4 hy5 hy6 hy7 hy8 hy9 k9 ho5 hcl5 hcl6 hmk6 hB6 hW5a ho7 hW7 ho9 hW9a hmk10 hB10 ho11 hW11 p0 p1 p2 p3
        go_wp2_with fail
        obtain ⟨p0, p1, p2, p3⟩ := A.bx_of (A.bx_below HY9.out HZ.out HX.out)
        have HV0 := A.hide (HY9.out.drew)
        have HV1 := A.hide (HV0.out.alloc HV0.out.size (.cells #[.int .i64 0] 3))
        have HWZ := A.hide (A.wd_one Y9.drew 0)
        go_region_held3 (fun w' => w'.cell? ⟨P, 0, none⟩ = some (.slice b0 n3 c0) ∧ w'.cell? ⟨P, 1, none⟩ = some (.slice b1 n3 c1) ∧ w'.cell? ⟨P, 2, none⟩ = some (.slice b2 n3 c2) ∧ w'.cell? ⟨P, 3, none⟩ = some (.slice b3 n3 c3)) (first | assumption | go_keep) ((first
          | (go_at_call 20; refine (A.close_any _ _ _ b0 n3 c0 B12 f0 (A.tblB [0] 1) Z1 (by omega) HM.out.lf HNM.out.len (A.nm_below HZ1.out HNM.out).free HM.out.free HMK12.out).mono ?_; rintro e Z2 ⟨g13, hcl13, B13, hB13, rfl, hmk13, hz2⟩; have HRUN0 := A.hide (A.run_zero (ss := s0) (ts := t0) (word := z3) hcl13); have HMK13 := A.hide hmk13; have HZ2 := A.hide (HZ1.out.trans (hz2.mono HZ1.out.size)); have k9 := A.bx_below HZ2.out HZ.out HX.out)
          | (go_at_call 18; refine (A.table_any _ 1 1 n3 [0] (Y9.drew.alloc (.cells #[.int .i64 0] 3)) rfl (by omega) (by omega) HWZ.out).mono ?_; rintro e Z1 ⟨B12, hB12, rfl, hmk12, hz1⟩; have HMK12 := A.hide hmk12; have HZ1 := A.hide (HV1.out.trans (hz1.mono HV1.out.size)); have k9 := A.bx_below HZ1.out HZ.out HX.out)))
        clear hz1 hz2 k9 hcl13 hB13 hmk13 hB12 hmk12 p0 p1 p2 p3
        go_wp2_with fail
        go_loopw [11, 12] (fun v i wr => ∃ (j B g : _), j ≤ len3 ∧ i = .int .i64 (j : Nat) ∧ v = .slice (some ⟨B, 0, none⟩) n3 n3 ∧ A.Mk wr B n3 g ∧ A.IsRun f0 s0 t0 n3 z3 j g ∧ Below W.heap.size W wr) (fun _ i _ => len3 - (intOf i).toNat)
        case atStart => exact ⟨0, B13, g13, Nat.zero_le _, rfl, rfl, HMK13.out, HRUN0.out, HZ2.out⟩
        case round =>
          obtain ⟨j, BJ, gj, hj, rfl, rfl, hmkj, hrunj, hbj⟩ := hrel
          have HMKJ := A.hide hmkj
          have HRUNJ := A.hide hrunj
          have HBJ := A.hide hbj
          have HJLT := A.hide (A.mk_lt hmkj)
          obtain ⟨p0, p1, p2, p3⟩ := A.bx_of (A.bx_below hbj HZ.out HX.out)
          clear hmkj hrunj hbj
          by_cases hlt3 : j < len3
          · obtain ⟨c, hc⟩ : ∃ c, z3[j]? = some c := ⟨_, List.getElem?_eq_getElem (by rw [HE3.out]; exact hlt3)⟩
            obtain ⟨bz, oz, rfl, kz⟩ := A.wd_below HBJ.out HW3.out j c hc
            have HC := A.hide hc
            have HKZ := A.hide (show ∀ w', Below W.heap.size W w' → w'.cell? ⟨bz, oz + j, none⟩ = some (.int .i64 c) from fun w' hb' => by
              obtain ⟨b', o', e', kk⟩ := A.wd_below hb' HW3.out j c hc
              cases e'
              exact kk)
            have i3 : (0 : Int) ≤ (j : Int) := by omega
            have i4 : (j : Int) < (len3 : Int) := by omega
            have HJD := A.hide (HBJ.out.drew)
            have HMJD := A.hide (A.mk_below HJLT.out (A.below_drew1 wr) HMKJ.out)
            clear hc
            go_wp2_with fail
            go_region_held3 (fun w' => (w'.cell? ⟨P, 0, none⟩ = some (.slice b0 n3 c0) ∧ w'.cell? ⟨P, 1, none⟩ = some (.slice b1 n3 c1) ∧ w'.cell? ⟨P, 2, none⟩ = some (.slice b2 n3 c2) ∧ w'.cell? ⟨P, 3, none⟩ = some (.slice b3 n3 c3)) ∧ w'.cell? ⟨bz, oz + j, none⟩ = some (.int .i64 c)) (first | assumption | go_keep) ((first
              | (go_at_call 20; refine (A.close_any _ _ _ b0 n3 c0 B21 f0 (A.stpB s0 t0 c gj n3) T1 (by omega) HM.out.lf HNM.out.len (A.nm_below HT1.out HNM.out).free HM.out.free HMK21.out).mono ?_; rintro e T2 ⟨g22, hcl22, B22, hB22, rfl, hmk22, ht2⟩; have HCL22 := A.hide hcl22; have HMK22 := A.hide hmk22; have HT2 := A.hide (HT1.out.trans (ht2.mono HT1.out.size)); have k9 := And.intro (A.bx_below HT2.out HZ.out HX.out) (HKZ.out _ HT2.out))
              | (go_at_call 21; refine (A.step_any _ _ b1 b2 n3 c1 c2 BJ s0 t0 c gj wr.drew (by omega) HM.out.ls HM.out.lt (A.nm_below HJD.out HNM.out).set (A.nm_below HJD.out HNM.out).to HM.out.to HMJD.out).mono ?_; rintro e T1 ⟨B21, hB21, rfl, hmk21, ht1⟩; have HMK21 := A.hide hmk21; have HT1 := A.hide (HJD.out.trans (ht1.mono HJD.out.size)); have k9 := And.intro (A.bx_below HT1.out HZ.out HX.out) (HKZ.out _ HT1.out))))
            have HNX := A.hide (show A.IsRun f0 s0 t0 n3 z3 (j + 1) g22 from ⟨gj, HRUNJ.out, by rw [show z3.getD j 0 = c by rw [List.getD_eq_getElem?_getD, HC.out]; rfl]; exact HCL22.out⟩)
            clear ht1 ht2 k9 hcl22 hB22 hmk22 hB21 hmk21 p0 p1 p2 p3 kz
            go_wp2
            go_roundw
            case rel => exact ⟨j + 1, B22, g22, by omega, by go_num, rfl, HMK22.out, HNX.out, HT2.out⟩
            case measure => simp [intOf]; omega
          · have e : j = len3 := by omega
            subst e
            have HJD := A.hide (HBJ.out.drew)
            have HMJD := A.hide (A.mk_below HJLT.out (A.below_drew1 wr) HMKJ.out)
            go_wp2_with fail
            go_region_held3 (fun w' => w'.cell? ⟨P, 0, none⟩ = some (.slice b0 n3 c0) ∧ w'.cell? ⟨P, 1, none⟩ = some (.slice b1 n3 c1) ∧ w'.cell? ⟨P, 2, none⟩ = some (.slice b2 n3 c2) ∧ w'.cell? ⟨P, 3, none⟩ = some (.slice b3 n3 c3)) (first | assumption | go_keep) ((first
              | (go_at_call 22; refine (A.nends_any _ _ _ b3 n3 c3 BJ r0 gj U1 (by omega) HM.out.lr (A.nm_below HU1.out HNM.out).rule (A.mk_below (show BJ < wr.drew.heap.size from HJLT.out) hu1 HMJD.out)).mono ?_; rintro e U2 ⟨rfl, hu2⟩; have HU2 := A.hide (HU1.out.trans (hu2.mono HU1.out.size)); have k9 := A.bx_below HU2.out HZ.out HX.out)
              | (go_at_call 17; refine (A.pmatch_yes b0 b1 b2 b3 n3 c0 c1 c2 c3 f0 s0 t0 r0 a3 j cap3 z3 wr.drew HM.out (A.nm_below HJD.out HNM.out) HE3.out (by unfold maxLen; omega) (A.wd_below HJD.out HW3.out)).mono ?_; rintro e U1 ⟨g30, hrun30, rfl, hu1⟩; rw [A.endR_congr (A.run_one j g30 gj hrun30 HRUNJ.out)]; have HU1 := A.hide (HJD.out.trans (hu1.mono HJD.out.size)); have k9 := A.bx_below HU1.out HZ.out HX.out)))
            clear hu1 hu2 k9 p0 p1 p2 p3 hrun30
            go_wp2
            go_ret
            exact ⟨by simp, HEND.out _ HU2.out⟩

set_option maxRecDepth 100000 in
theorem lifted (os : Os) (started : os.Started) (H : Type) (enc : TypeId × Value → H) :
    ReturnsInHanded {} Try.checked os 4 .any (Rows.nfaWalksSpec.pre6 enc Try.prog Try.f4 Rows.nfaWalksRow.domain false) (Rows.nfaWalksSpec.post enc Try.prog Try.f4 false true false false) := by
  refine returnsInHanded_of_change (C := Try.checked) own started (by kernel_rfl) Try.func4
    (ChangeSpec.witness6 (enc := enc) (C := Try.checked) false ⟨#[], #[.agg #[.slice none 0 0, .slice none 0 0, .slice none 0 0, .slice none 0 0], .slice none 0 0, .int .i64 0, .slice none 0 0], []⟩ 8 (by kernel_rfl) (by kernel_rfl) (by kernel_rfl) (by kernel_rfl)) ?_
  intro W base args ds gs before hval0 hW hcnd _
  have hval : ∀ (j : Nat) t v, Try.f4.params[j]? = some t → args[j]? = some v → Value.okWide Try.prog W .any base t v := hval0
  have hW' := hW
  obtain ⟨p, q, hA0, hV, rfl, hfz, hnd⟩ := hW
  have hA : DataW.TrodAll enc Try.prog W 0 (fun _ => true) true Try.f4.params.toList args.toList ds p := hA0
  rw [Try.params4] at hA hval
  obtain ⟨v0, vs0, d0, ds0, p0, q0, hargs, rfl, rfl, h0, r0⟩ := trodAll_cons hA
  obtain ⟨v1, vs1, d1, ds1, p1, q1, rfl, rfl, rfl, h1, r1⟩ := trodAll_cons r0
  obtain ⟨v2, vs2, d2, ds2, p2, q2, rfl, rfl, rfl, h2, r2⟩ := trodAll_cons r1
  obtain ⟨v3, vs3, d3, ds3, p3, q3, rfl, rfl, rfl, h3, r3⟩ := trodAll_cons r2
  obtain ⟨rfl, rfl, rfl⟩ := trodAll_nil r3
  obtain rfl : args = #[v0, v1, v2, v3] := by cases args; simp_all
  obtain ⟨rfl, rfl⟩ := trodVars_none hV
  obtain ⟨cs0, rfl⟩ := A.okWide_nfa (hval 0 29 v0 rfl rfl)
  have k0 := h0
  have lt0 : ∀ x ∈ p0, x.block < W.heap.size := by obtain ⟨m, hm⟩ := k0; exact DataW.trod_lt m _ _ _ hm
  obtain ⟨f0, s0, t0, r0', w0⟩ : ∃ (fs : List (List Int)) (ss : List Nat) (ts rs : List Int), A.Nv W (.agg cs0) fs ss ts rs := by obtain ⟨fuel, hf⟩ := h0; exact A.open_nfa hf
  obtain ⟨a1, len1, cap1, rfl⟩ := okWide_slice Try.underlying27 (hval 1 27 v1 rfl rfl)
  have k1 := h1
  have lt1 : ∀ x ∈ p1, x.block < W.heap.size := by obtain ⟨m, hm⟩ := k1; exact DataW.trod_lt m _ _ _ hm
  obtain ⟨z1, w1, e1, l1, m1⟩ : ∃ zs : List Int, A.Wd W a1 zs ∧ zs.length = len1 ∧ len1 ≤ cap1 ∧ cap1 ≤ maxLen := by obtain ⟨fuel, hf⟩ := h1; exact A.open_words hf
  obtain ⟨a2, rfl, rfl, rfl, w2⟩ := open_int Try.underlying3 (hval 2 3 v2 rfl rfl) h2
  obtain ⟨a3, len3, cap3, rfl⟩ := okWide_slice Try.underlying27 (hval 3 27 v3 rfl rfl)
  have k3 := h3
  have lt3 : ∀ x ∈ p3, x.block < W.heap.size := by obtain ⟨m, hm⟩ := k3; exact DataW.trod_lt m _ _ _ hm
  obtain ⟨z3, w3, e3, l3, m3⟩ : ∃ zs : List Int, A.Wd W a3 zs ∧ zs.length = len3 ∧ len3 ≤ cap3 ∧ cap3 ≤ maxLen := by obtain ⟨fuel, hf⟩ := h3; exact A.open_words hf
  clear hA0 hval0
  refine (walk (.agg cs0) f0 s0 t0 r0' a1 len1 cap1 z1 a2 a3 len3 cap3 z3 W w0 w1 e1 l1 m1 w2 w3 e3 l3 m3).mono fun e W' ⟨he, bel⟩ => ?_
  subst he
  exact ⟨_, rfl, _, _, _, [], _, [], hW', trodAll_mk1 (shut_bool Try.underlying4 _), (trodAll_cons_mk (Below.trod laidOut (by kernel_rfl) (of_decide_eq_true (by kernel_rfl)) k0 bel lt0) (trodAll_cons_mk (Below.trod laidOut (by kernel_rfl) (of_decide_eq_true (by kernel_rfl)) k1 bel lt1) (trodAll_cons_mk (shut_int Try.underlying3 w2) (trodAll_cons_mk (Below.trod laidOut (by kernel_rfl) (of_decide_eq_true (by kernel_rfl)) k3 bel lt3) trodAll_mk0)))), rfl, bel.frame _, fun h => by cases h⟩

theorem over : Rows.nfaWalksRow.holds Try.pinned (OpenSpec.ofChange Rows.nfaWalksSpec) :=
  OpenClaim.holds_of_wide 4 Try.f4 rfl rfl rfl rfl rfl rfl rfl ⟨rfl, rfl, rfl, rfl, rfl⟩ rfl rfl rfl rfl rfl (by kernel_rfl) Try.func4 (by kernel_rfl)
    (of_decide_eq_true (by kernel_rfl)) (by unfold Func.isWrapper; first | (rw [if_pos (by decide +kernel)]; kernel_rfl) | (rw [if_neg (by decide +kernel)]; exact ⟨rfl, rfl⟩))
    (fun os started H enc _ => lifted os started H enc)

/-- The statement. -/
theorem proved : Rows.NfaWalksSaid := over
#print axioms proved
end Go.Proofs.Ytldeofdjhpfdaaa.nfaWalks
