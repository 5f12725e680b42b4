/- The law that alike is a relation as it should be, walked. -/
import Derived.Test.YthkollnlmnbidaaGr
import Derived.BigQuiet
namespace Go.Proofs.Ythkollnlmnbidaa.A
open Go.RowKit Go.Maps Go.BigFrame
set_option linter.unusedVariables false

theorem app_cons {α : Type} (a : α) (l m : List α) : List.append (a :: l) m = a :: List.append l m := rfl
theorem app_nil {α : Type} (m : List α) : List.append [] m = m := rfl

set_option maxRecDepth 100000 in
set_option maxHeartbeats 6400000 in
theorem relation_law (hsame : SameYes) (M : Nat) (hM : M = 201) (a0 a1 : Option Addr) (n0 n1 c0 c1 : Nat) (nx : List (List Int)) (ru : List Int) (a b c : Nat) (w : World) (hm : Dm w a0 a1 n0 n1 nx ru) (ha : a ≤ 255) (hb : b ≤ 255) (hc : c ≤ 255) :
    Calls Try.prog 7 #[.agg #[.slice a0 n0 c0, .slice a1 n1 c1], .int .u8 (a : Int), .int .u8 (b : Int), .int .u8 (c : Int)] w fun e w' => e = .returned (.bool true) ∧ Below w.heap.size w w' := by
  have HM0 := hide hm.m0
  have HM1 := hide hm.m1
  have hb0 := (Below.refl w.heap.size w).alloc (Nat.le_refl _) (.cells #[.slice a0 n0 c0, .slice a1 n1 c1] 25)
  have HS := hide (show (w.alloc (.cells #[.slice a0 n0 c0, .slice a1 n1 c1] 25)).heap.size = w.heap.size + 1 by simp)
  have HBX := hide (heap_alloc_last w (.cells #[.slice a0 n0 c0, .slice a1 n1 c1] 25))
  have HB0 := hide hb0
  have HDM := hide (dm_below' hb0 hm)
  have HAL := hide (alive_any hsame M hM (w.alloc (.cells #[.slice a0 n0 c0, .slice a1 n1 c1] 25)))
  clear hsame hM hm hb0
  go_enter Try.func7, Try.ntmps7
  go_upto_region 1 with fail
  generalize w.alloc (.cells #[.slice a0 n0 c0, .slice a1 n1 c1] 25) = W1 at *
  generalize hP : w.heap.size = P at *
  have HW := hide (show ∀ wr, Below W1.heap.size W1 wr → (wr.cell? ⟨P, 0, none⟩ = some (.slice a0 n0 c0) ∧ wr.cell? ⟨P, 1, none⟩ = some (.slice a1 n1 c1)) ∧ Dm wr a0 a1 n0 n1 nx ru ∧ Below P w wr from fun wr hb => by
    obtain ⟨q0, q1, -⟩ := d_cells ((hb.block P (by rw [HS.out]; omega)).trans HBX.out)
    exact ⟨⟨q0, q1⟩, dm_below' hb HDM.out, HB0.out.trans (hb.mono (by rw [HS.out]; omega))⟩)
  go_wp2_with fail
  refine HAL.out.mono ?_
  rintro e w1 ⟨rfl, hb1⟩
  have HB1 := hide hb1
  obtain ⟨⟨p0, p1⟩, -, -⟩ := HW.out w1 hb1
  clear hb1 HAL
  go_wp2_with fail
  refine (great8_any a0 a1 n0 n1 c0 c1 w1 HM0.out HM1.out).mono ?_
  rintro e w2 ⟨rfl, hb2⟩
  have HB2 := hide (HB1.out.trans (hb2.mono HB1.out.size))
  clear hb2 p0 p1
  obtain ⟨⟨p0, p1⟩, hdm, hbw⟩ := HW.out w2 HB2.out
  have HD2 := hide hdm
  have HBW := hide hbw
  have HRI := hide (dright_any a0 a1 n0 n1 c0 c1 nx ru w2 hdm.l0 hdm.l1 hdm.dr hdm.wd hdm.m0 hdm.m1)
  clear hdm hbw
  cases hg : (decide (40 < n0) || decide (300 < n1))
  case true =>
    clear hg
    go_wp2
    go_ret
    exact ⟨rfl, by rw [hP]; exact HBW.out⟩
  case false =>
  clear hg
  by_cases hn : n0 = 0
  · subst hn
    have z0 : ((0 : Int) == 0) = true := by simp
    go_wp2
    go_ret
    exact ⟨rfl, by rw [hP]; exact HBW.out⟩
  have z0 : ((n0 : Int) == 0) = false := by simp; omega
  cases hr : rightD nx ru
  · rw [hr] at HRI
    clear hr
    go_wp2_with fail
    refine HRI.out.mono ?_
    rintro e w3 ⟨rfl, hb3⟩
    have HBF := hide (HW.out _ (HB2.out.trans (hb3.mono HB2.out.size))).2.2
    clear hb3 HRI
    go_wp2
    go_ret
    exact ⟨rfl, by rw [hP]; exact HBF.out⟩
  · obtain ⟨rfl, hx⟩ := mx_dm HD2.out hr
    have HR := hide hr
    have HX := hide hx
    have hnm := hx.most
    have hnp := hx.pos
    rw [hr] at HRI
    clear hr hx
    go_wp2_with fail
    refine HRI.out.mono ?_
    rintro e w3 ⟨rfl, hb3⟩
    have HB3 := hide (HB2.out.trans (hb3.mono HB2.out.size))
    clear hb3 HRI p0 p1
    obtain ⟨⟨p0, p1⟩, hdm, -⟩ := HW.out w3 HB3.out
    have HAK := hide (malike_yes a0 a1 n1 c0 c1 nx ru w3 hdm HR.out HX.out)
    clear hdm
    go_wp2_with fail
    refine HAK.out.mono ?_
    rintro e w4 ⟨A, T, hal, rfl, htm, hT, hb4⟩
    have HB4 := hide (HB3.out.trans (hb4.mono HB3.out.size))
    obtain ⟨i, hi⟩ : ∃ i, a % n1 = i := ⟨_, rfl⟩
    obtain ⟨j, hj⟩ : ∃ i, b % n1 = i := ⟨_, rfl⟩
    obtain ⟨k, hk⟩ : ∃ i, c % n1 = i := ⟨_, rfl⟩
    have hin : i < n1 := by rw [← hi]; exact Nat.mod_lt _ (by omega)
    have hjn : j < n1 := by rw [← hj]; exact Nat.mod_lt _ (by omega)
    have hkn : k < n1 := by rw [← hk]; exact Nat.mod_lt _ (by omega)
    have ti := tm_row htm hin hin
    have tj := tm_row htm hjn hjn
    have vii := (mk_cell (htm.m i hin) hin).1
    have vij := (mk_cell (htm.m i hin) hjn).1
    have vji := (mk_cell (htm.m j hjn) hin).1
    have vjk := (mk_cell (htm.m j hjn) hkn).1
    have vik := (mk_cell (htm.m i hin) hkn).1
    clear p0 p1 HAK
    obtain ⟨⟨p0, p1⟩, hdm, hbw⟩ := HW.out w4 HB4.out
    have HBW4 := hide hbw
    obtain ⟨r1, hr1, -, -, o1⟩ := mx_rule HX.out hin
    obtain ⟨r2, hr2, -, -, o2⟩ := mx_rule HX.out hjn
    obtain ⟨bb, oo, rfl, y1⟩ := hdm.wd i r1 hr1
    obtain ⟨bb', oo', eb, y2⟩ := hdm.wd j r2 hr2
    cases eb
    have eii : A i i = true := (hal i i hin hin).2 (alk_refl _ _ _)
    have eji : A j i = A i j := by
      rw [Bool.eq_iff_iff, hal j i hjn hin, hal i j hin hjn]
      exact ⟨alk_symm, alk_symm⟩
    rw [eii] at vii
    rw [eji] at vji
    have q1 : Int.tmod (a : Int) (n1 : Int) = (i : Int) := by rw [← hi]; rfl
    have q2 : Int.tmod (b : Int) (n1 : Int) = (j : Int) := by rw [← hj]; rfl
    have q3 : Int.tmod (c : Int) (n1 : Int) = (k : Int) := by rw [← hk]; rfl
    have i1 : (0 : Int) ≤ (i : Int) := by omega
    have i2 : (i : Int) < (n1 : Int) := by omega
    have i3 : (0 : Int) ≤ (j : Int) := by omega
    have i4 : (j : Int) < (n1 : Int) := by omega
    have i5 : (0 : Int) ≤ (k : Int) := by omega
    have i6 : (k : Int) < (n1 : Int) := by omega
    have HALK := hide hal
    have HO1 := hide o1
    have HO2 := hide o2
    have u1 : IntKind.i64.wrap (a : Int) = (a : Int) := by rw [IntKind.wrap_i64]; omega
    have u2 : IntKind.i64.wrap (b : Int) = (b : Int) := by rw [IntKind.wrap_i64]; omega
    have u3 : IntKind.i64.wrap (c : Int) = (c : Int) := by rw [IntKind.wrap_i64]; omega
    clear hal htm hT hb4 hdm hbw hr1 hr2 hi hj hk eji eii o1 o2
    cases hij : A i j
    · rw [hij] at vij vji
      clear hij
      go_wp2_with fail
      go_quiet (fail)
      go_wp2_with fail
      replace ti : (w4.drewN nq).cell? _ = _ := ti
      replace tj : (w4.drewN nq).cell? _ = _ := tj
      replace vii : (w4.drewN nq).cell? _ = _ := vii
      replace vij : (w4.drewN nq).cell? _ = _ := vij
      replace vji : (w4.drewN nq).cell? _ = _ := vji
      replace vjk : (w4.drewN nq).cell? _ = _ := vjk
      replace vik : (w4.drewN nq).cell? _ = _ := vik
      replace p0 : (w4.drewN nq).cell? _ = _ := p0
      replace p1 : (w4.drewN nq).cell? _ = _ := p1
      replace y1 : (w4.drewN nq).cell? _ = _ := y1
      replace y2 : (w4.drewN nq).cell? _ = _ := y2
      have HBN := hide (below_drewN HBW4.out nq)
      clear q1 q2 q3 u1 u2 u3 HBW4
      generalize w4.drewN nq = WN at *
      simp only [app_cons, app_nil]
      refine wp_region_quiet_lit (by kernel_rfl) (by kernel_rfl) ?_
      repeat (go_big_quiet_step (fail))
      refine wpQuiet_nil ?_
      intro _ hw'
      obtain ⟨nq2, hw''⟩ := hw'
      subst hw''
      go_wp2
      go_ret
      exact ⟨rfl, by rw [hP]; exact below_drewN HBN.out _⟩
    · have er : r1 = r2 := HO1.out.symm.trans ((((HALK.out i j hin hjn).1 hij) []).trans HO2.out)
      subst er
      rw [hij] at vij vji
      cases hjk : A j k
      · rw [hjk] at vjk
        clear hij hjk
        go_wp2_with fail
        go_quiet (fail)
        go_wp2_with fail
        replace ti : (w4.drewN nq).cell? _ = _ := ti
        replace tj : (w4.drewN nq).cell? _ = _ := tj
        replace vii : (w4.drewN nq).cell? _ = _ := vii
        replace vij : (w4.drewN nq).cell? _ = _ := vij
        replace vji : (w4.drewN nq).cell? _ = _ := vji
        replace vjk : (w4.drewN nq).cell? _ = _ := vjk
        replace vik : (w4.drewN nq).cell? _ = _ := vik
        replace p0 : (w4.drewN nq).cell? _ = _ := p0
        replace p1 : (w4.drewN nq).cell? _ = _ := p1
        replace y1 : (w4.drewN nq).cell? _ = _ := y1
        replace y2 : (w4.drewN nq).cell? _ = _ := y2
        have HBN := hide (below_drewN HBW4.out nq)
        clear q1 q2 q3 u1 u2 u3 HBW4
        generalize w4.drewN nq = WN at *
        simp only [app_cons, app_nil]
        refine wp_region_quiet_lit (by kernel_rfl) (by kernel_rfl) ?_
        repeat (go_big_quiet_step (fail))
        refine wpQuiet_nil ?_
        intro _ hw'
        obtain ⟨nq2, hw''⟩ := hw'
        subst hw''
        go_wp2
        go_ret
        exact ⟨rfl, by rw [hP]; exact below_drewN HBN.out _⟩
      · have eik : A i k = true := (HALK.out i k hin hkn).2 (alk_trans ((HALK.out i j hin hjn).1 hij) ((HALK.out j k hjn hkn).1 hjk))
        rw [hjk] at vjk
        rw [eik] at vik
        clear hij hjk eik
        go_wp2_with fail
        go_quiet (fail)
        go_wp2_with fail
        replace ti : (w4.drewN nq).cell? _ = _ := ti
        replace tj : (w4.drewN nq).cell? _ = _ := tj
        replace vii : (w4.drewN nq).cell? _ = _ := vii
        replace vij : (w4.drewN nq).cell? _ = _ := vij
        replace vji : (w4.drewN nq).cell? _ = _ := vji
        replace vjk : (w4.drewN nq).cell? _ = _ := vjk
        replace vik : (w4.drewN nq).cell? _ = _ := vik
        replace p0 : (w4.drewN nq).cell? _ = _ := p0
        replace p1 : (w4.drewN nq).cell? _ = _ := p1
        replace y1 : (w4.drewN nq).cell? _ = _ := y1
        replace y2 : (w4.drewN nq).cell? _ = _ := y2
        have HBN := hide (below_drewN HBW4.out nq)
        clear q1 q2 q3 u1 u2 u3 HBW4
        generalize w4.drewN nq = WN at *
        simp only [app_cons, app_nil]
        refine wp_region_quiet_lit (by kernel_rfl) (by kernel_rfl) ?_
        repeat (go_big_quiet_step (fail))
        refine wpQuiet_nil ?_
        intro _ hw'
        obtain ⟨nq2, hw''⟩ := hw'
        subst hw''
        go_wp2
        go_ret
        exact ⟨rfl, by rw [hP]; exact below_drewN HBN.out _⟩
end Go.Proofs.Ythkollnlmnbidaa.A
