/-
  The machine of all expressions, or that one may not be, is the document's.
  Conditions: none.
-/
import Derived.Test.YtldeofdjhpfdaaaTk
import Derived.Test.YtldeofdjhpfdaaaT6
import Derived.OpenShut
import Derived.ShutString
import Derived.ChangeOld
import Derived.Below
import Derived.Deep.RegionHeld3
namespace Go.Proofs.Ytldeofdjhpfdaaa.nfaBuilds
open Go.ChangeShapes Go.WideShapes Go.ChangeAt Go.RowKit
open Go.ChangeMaps (open_string shut_string)
set_option linter.unusedVariables false
set_option linter.unusedSimpArgs false

theorem own : ownKnob Try.prog.godebug = none := by kernel_rfl
theorem laidOut : laidOutB Try.prog = true := by kernel_rfl

set_option maxRecDepth 100000 in
set_option maxHeartbeats 25600000 in
theorem walk (a0 : Option Addr) (len0 cap0 n0 : Nat) (t0 : List (A.Ex n0)) (w : World) (w0 : A.Exs w n0 a0 t0) (e0 : t0.length = len0) (l0 : len0 ≤ cap0) (m0 : cap0 ≤ maxLen) :
    Calls Try.prog 3 #[.slice a0 len0 cap0] w fun e w' => e = .returned (.bool true) ∧ Below w.heap.size w w' := by
  have hlm : len0 ≤ maxLen := Nat.le_trans l0 m0
  have HLM := A.hide hlm
  have HK := A.hide (A.exs_kids w0 e0)
  have HXS := A.hide w0
  have HE := A.hide e0
  unfold maxLen at hlm
  clear w0 e0 l0 m0
  go_enter Try.func3, Try.ntmps3
  go_wp2_with fail
  refine (A.alive_any w).mono ?_
  rintro e X1 ⟨rfl, hb1⟩
  have HB1 := A.hide hb1
  clear hb1
  go_wp2_with fail
  refine (A.great_any n0 a0 len0 cap0 t0 X1 HLM.out HE.out (A.kids_below HB1.out HK.out)).mono ?_
  rintro e X2 ⟨rfl, hb2⟩
  have HB2 := A.hide (HB1.out.trans (hb2.mono HB1.out.size))
  clear hb2 HB1
  cases hg : A.greatL t0
  · obtain ⟨l, hxl, hll⟩ := A.exs_trim HXS.out hg
    rw [HE.out] at hll
    have HL6 := A.hide hll
    have HKL := A.hide (A.exs_kids hxl hll)
    clear hg hxl hll HK HXS HE
    go_wp2_with fail
    cases hm : A.mayB l
    · refine (A.build_no 20 a0 len0 cap0 l X2 HLM.out HL6.out (A.kids_below HB2.out HKL.out) hm).mono ?_
      rintro e X3 ⟨rfl, hb3⟩
      have HB3 := A.hide (HB2.out.trans (hb3.mono HB2.out.size))
      unfold A.noM
      have HMM := A.hide hm
      clear hb3 hm
      have HB4 := A.hide (HB3.out.alloc HB3.out.size (.cells #[.slice none 0 0, .slice none 0 0, .slice none 0 0, .slice none 0 0] 29))
      have HN4 := A.hide (A.nil4 X3)
      go_wp2_with fail
      generalize X3.alloc (.cells #[.slice none 0 0, .slice none 0 0, .slice none 0 0, .slice none 0 0] 29) = W at *
      generalize X3.heap.size = P at *
      refine (A.dbuild_no 20 (by omega) a0 len0 cap0 l W HLM.out HL6.out (A.kids_below HB4.out HKL.out) HMM.out).mono ?_
      rintro e X5 ⟨rfl, hb5⟩
      have HB5 := A.hide (HB4.out.trans (hb5.mono HB4.out.size))
      obtain ⟨⟨p0, p1, p2, p3⟩, -⟩ := A.blk29 ((hb5.block P (Array.getElem?_eq_some_iff.1 HN4.out).1).trans HN4.out)
      have hPX : P < X5.heap.size := A.cell_lt p0
      unfold A.noD
      have HB6 := A.hide (HB5.out.alloc HB5.out.size (.cells #[.slice none 0 0, .slice none 0 0, .slice none 0 0, .slice none 0 0] 29))
      clear hb5
      go_wp2
      go_ret
      exact ⟨rfl, HB6.out⟩
    · refine (A.build_yes 20 a0 len0 cap0 l X2 HLM.out HL6.out (A.kids_below HB2.out HKL.out) hm).mono ?_
      rintro e X3 ⟨b0, b1, b2, b3, N, c0, c1, c2, c3, fs, ss, ts, rs, rfl, hnm, hi, hr, hrl, hN, hN3, hb3⟩
      obtain ⟨hl1, hl16, hful, hsh⟩ := A.may_open hm HKL.out HL6.out
      have HM := A.hide (A.build_mach hful HL6.out hl16 hi hr hrl hN hN3)
      have HIS := A.hide hi
      have HRS := A.hide hr
      have HFUL := A.hide hful
      have HSH := A.hide hsh
      have HNN := A.hide hN
      have HMM := A.hide hm
      have HB3 := A.hide (HB2.out.trans (hb3.mono HB2.out.size))
      have hba := (Below.refl X3.heap.size X3).alloc (Nat.le_refl _) (.cells #[.slice b0 N c0, .slice b1 N c1, .slice b2 N c2, .slice b3 N c3] 29)
      have HNM := A.hide (A.nm_below hba hnm)
      have HX := A.hide (A.bx_new X3 (.slice b0 N c0) (.slice b1 N c1) (.slice b2 N c2) (.slice b3 N c3))
      have HB4 := A.hide (HB3.out.alloc HB3.out.size (.cells #[.slice b0 N c0, .slice b1 N c1, .slice b2 N c2, .slice b3 N c3] 29))
      have HZ := A.hide (show X3.heap.size < (X3.alloc (.cells #[.slice b0 N c0, .slice b1 N c1, .slice b2 N c2, .slice b3 N c3] 29)).heap.size by simp)
      clear hnm hi hr hrl hN hb3 hful hsh hm hba
      go_wp2_with fail
      generalize X3.alloc (.cells #[.slice b0 N c0, .slice b1 N c1, .slice b2 N c2, .slice b3 N c3] 29) = W at *
      generalize X3.heap.size = P at *
      refine (A.dbuild_yes 20 (by omega) (fun w0 qF qS qT B N x3 h1 h2 h3 h4 => A.lay_any w0 qF qS qT B N x3 h1 h2 h3 h4 20 (by omega)) a0 len0 cap0 l W HLM.out HL6.out (A.kids_below HB4.out HKL.out) HMM.out).mono ?_
      rintro e X5 ⟨d0, d1, d2, d3, N', g0, g1, g2, g3, fs', ss', ts', rs', rfl, hnm', hi', hr', hrl', hN', hb5⟩
      obtain rfl : N' = N := hN'.trans HNN.out.symm
      obtain ⟨rfl, rfl, rfl⟩ := A.is_one HFUL.out HSH.out hi' HIS.out
      obtain rfl := A.rs_one HFUL.out (hrl'.trans HM.out.lr.symm) hr' HRS.out
      have hba := (Below.refl X5.heap.size X5).alloc (Nat.le_refl _) (.cells #[.slice d0 N' g0, .slice d1 N' g1, .slice d2 N' g2, .slice d3 N' g3] 29)
      have HNM2 := A.hide (A.nm_below hba hnm')
      have HB5 := A.hide (hb5.alloc hb5.size (.cells #[.slice d0 N' g0, .slice d1 N' g1, .slice d2 N' g2, .slice d3 N' g3] 29))
      have HX2 := A.hide (A.bx_new X5 (.slice d0 N' g0) (.slice d1 N' g1) (.slice d2 N' g2) (.slice d3 N' g3))
      have HZ2 := A.hide (show X5.heap.size < (X5.alloc (.cells #[.slice d0 N' g0, .slice d1 N' g1, .slice d2 N' g2, .slice d3 N' g3] 29)).heap.size by simp)
      have HPX := A.hide (show P < X5.heap.size from Nat.lt_of_lt_of_le HZ.out hb5.size)
      have HUP := A.hide HIS.out.up
      clear hnm' hi' hr' hrl' hN' hb5 hba
      have HML := A.hide HM.out
      obtain ⟨p0, p1, p2, p3⟩ := A.bx_of (A.bx_below HB5.out HZ.out HX.out)
      obtain ⟨q0, q1, q2, q3⟩ := A.bx_of HX2.out
      have HBV := A.hide (HB4.out.trans (HB5.out.mono HB4.out.size))
      have HNM1 := A.hide (A.nm_below HB5.out HNM.out)
      have HX1 := A.hide (A.bx_below HB5.out HZ.out HX.out)
      have hne : P ≠ X5.heap.size := by have := HPX.out; omega
      have hne' : X5.heap.size ≠ P := Ne.symm hne
      go_wp2_with fail
      generalize X5.alloc (.cells #[.slice d0 N' g0, .slice d1 N' g1, .slice d2 N' g2, .slice d3 N' g3] 29) = V at *
      generalize X5.heap.size = Q at *
      refine (A.ints_any b3 d3 N' N' c3 g3 rs' rs' V (by omega) (by omega) HM.out.lr HM.out.lr HNM1.out.rule HNM2.out.rule).mono ?_
      rintro e X6 ⟨rfl, hb6⟩
      rw [decide_eq_true (Eq.refl _)]
      have HB6 := A.hide hb6
      clear hb6 p0 p1 p2 p3 q0 q1 q2 q3
      have HPV := A.hide (show P < V.heap.size from Nat.lt_trans HPX.out HZ2.out)
      obtain ⟨p0, p1, p2, p3⟩ := A.bx_of (A.bx_below HB6.out HPV.out HX1.out)
      obtain ⟨q0, q1, q2, q3⟩ := A.bx_of (A.bx_below HB6.out HZ2.out HX2.out)
      go_wp2_with fail
      go_loopw [7] (fun i wr => ∃ (k : Nat), k ≤ N' ∧ i = .int .i64 k ∧ Below V.heap.size V wr) (fun i _ => N' - (intOf i).toNat)
      case atStart => exact ⟨0, Nat.zero_le _, rfl, HB6.out⟩
      case round =>
        obtain ⟨k, hk, rfl, hb⟩ := hrel
        have HBW := A.hide hb
        clear hb p0 p1 p2 p3 q0 q1 q2 q3
        obtain ⟨p0, p1, p2, p3⟩ := A.bx_of (A.bx_below HBW.out HPV.out HX1.out)
        obtain ⟨q0, q1, q2, q3⟩ := A.bx_of (A.bx_below HBW.out HZ2.out HX2.out)
        by_cases hlt : k < N'
        · obtain ⟨s, hs⟩ : ∃ s, ss'[k]? = some s := ⟨_, List.getElem?_eq_getElem (by rw [HM.out.ls]; exact hlt)⟩
          obtain ⟨t, ht⟩ : ∃ t, ts'[k]? = some t := ⟨_, List.getElem?_eq_getElem (by rw [HM.out.lt]; exact hlt)⟩
          obtain ⟨fk, hfk⟩ : ∃ f, fs'[k]? = some f := ⟨_, List.getElem?_eq_getElem (by rw [HM.out.lf]; exact hlt)⟩
          obtain ⟨bs1, os1, rfl, x1, -⟩ := HNM1.out.set k s hs
          obtain ⟨bs2, os2, rfl, x2, -⟩ := HNM2.out.set k s hs
          obtain ⟨bt1, ot1, rfl, x3⟩ := HNM1.out.to k t ht
          obtain ⟨bt2, ot2, rfl, x4⟩ := HNM2.out.to k t ht
          obtain ⟨bf1, of1, af1, cf1, rfl, x5, hwf1⟩ := HNM1.out.free k fk hfk
          obtain ⟨bf2, of2, af2, cf2, rfl, x6, hwf2⟩ := HNM2.out.free k fk hfk
          obtain ⟨lf, hlf⟩ : ∃ lf, fk.length = lf := ⟨_, rfl⟩
          rw [hlf] at x5 x6
          have HWF1 := A.hide hwf1
          have HWF2 := A.hide hwf2
          have HLF := A.hide hlf
          have HUF := A.hide (HUP.out k fk hfk)
          have hFM : ∀ i j, A.FrA l i j → j < 10000 := fun i j h => by
            have h1 := A.fb_rng HFUL.out (Nat.le_refl _) i j ((A.fb_all i j).2 h)
            rw [HL6.out, ← HNN.out] at h1
            omega
          have hll := A.is_len HIS.out hFM hfk
          rw [hlf] at hll
          have HLL := A.hide hll
          have HLB := A.hide (show lf ≤ 100000 by omega)
          clear hFM hll
          have HSL := A.hide (fun (g : Nat → Bool) => show (A.lstL g N').length ≤ 100000 from by have := A.lstL_le g N'; omega)
          have HS := A.hide (show ∀ Y, Below V.heap.size V Y → (((Y.cell? ⟨P, 0, none⟩ = some (.slice (some ⟨bf1, of1, none⟩) N' c0) ∧ Y.cell? ⟨P, 1, none⟩ = some (.slice (some ⟨bs1, os1, none⟩) N' c1) ∧ Y.cell? ⟨P, 2, none⟩ = some (.slice (some ⟨bt1, ot1, none⟩) N' c2) ∧ Y.cell? ⟨P, 3, none⟩ = some (.slice b3 N' c3)) ∧ (Y.cell? ⟨Q, 0, none⟩ = some (.slice (some ⟨bf2, of2, none⟩) N' g0) ∧ Y.cell? ⟨Q, 1, none⟩ = some (.slice (some ⟨bs2, os2, none⟩) N' g1) ∧ Y.cell? ⟨Q, 2, none⟩ = some (.slice (some ⟨bt2, ot2, none⟩) N' g2) ∧ Y.cell? ⟨Q, 3, none⟩ = some (.slice d3 N' g3))) ∧ Y.cell? ⟨bs1, os1 + k, none⟩ = some (.int .u16 s) ∧ Y.cell? ⟨bs2, os2 + k, none⟩ = some (.int .u16 s) ∧ Y.cell? ⟨bt1, ot1 + k, none⟩ = some (.int .i64 t) ∧ Y.cell? ⟨bt2, ot2 + k, none⟩ = some (.int .i64 t) ∧ Y.cell? ⟨bf1, of1 + k, none⟩ = some (.slice af1 lf cf1) ∧ Y.cell? ⟨bf2, of2 + k, none⟩ = some (.slice af2 lf cf2)) from fun Y hY =>
            ⟨⟨A.bx_below hY HPV.out HX1.out, A.bx_below hY HZ2.out HX2.out⟩, (hY.cell (p := ⟨bs1, os1 + k, none⟩) (A.cell_lt x1)).trans x1, (hY.cell (p := ⟨bs2, os2 + k, none⟩) (A.cell_lt x2)).trans x2, (hY.cell (p := ⟨bt1, ot1 + k, none⟩) (A.cell_lt x3)).trans x3, (hY.cell (p := ⟨bt2, ot2 + k, none⟩) (A.cell_lt x4)).trans x4, (hY.cell (p := ⟨bf1, of1 + k, none⟩) (A.cell_lt x5)).trans x5, (hY.cell (p := ⟨bf2, of2 + k, none⟩) (A.cell_lt x6)).trans x6⟩)
          have i3 : (0 : Int) ≤ (k : Int) := by omega
          have i4 : (k : Int) < (N' : Int) := by omega
          have HD0 := A.hide (HBW.out.drew)
          have HA1 := A.hide (HD0.out.alloc HD0.out.size (.cells #[.int .i64 k] 3))
          have HA2 := A.hide (HA1.out.alloc HA1.out.size (.cells #[.int .i64 k] 3))
          have HWA1 := A.hide (A.wd_one wr.drew k)
          have HWA2 := A.hide (show A.Wd ((wr.drew.alloc (.cells #[.int .i64 k] 3)).alloc (.cells #[.int .i64 k] 3)) (some ⟨wr.heap.size, 0, none⟩) [(k : Int)] ∧ A.Wd ((wr.drew.alloc (.cells #[.int .i64 k] 3)).alloc (.cells #[.int .i64 k] 3)) (some ⟨wr.heap.size + 1, 0, none⟩) [(k : Int)] from
            ⟨A.wd_below ((Below.refl _ _).alloc (Nat.le_refl _) _) HWA1.out, by
              have := A.wd_one (wr.drew.alloc (.cells #[.int .i64 k] 3)) k
              rw [show (wr.drew.alloc (.cells #[.int .i64 k] 3)).heap.size = wr.heap.size + 1 by simp] at this
              exact this⟩)
          clear hs ht hfk hlf hwf1 hwf2 p0 p1 p2 p3 q0 q1 q2 q3 x1 x2 x3 x4 x5 x6
          obtain ⟨⟨⟨p0, p1, p2, p3⟩, q0, q1, q2, q3⟩, x1, x2, x3, x4, x5, x6⟩ := HS.out wr HBW.out
          by_cases hs0 : s = 0
          · subst hs0
            go_wp2_with fail
            refine wp_region_held_drew (S := (fun Y => (((Y.cell? ⟨P, 0, none⟩ = some (.slice (some ⟨bf1, of1, none⟩) N' c0) ∧ Y.cell? ⟨P, 1, none⟩ = some (.slice (some ⟨bs1, os1, none⟩) N' c1) ∧ Y.cell? ⟨P, 2, none⟩ = some (.slice (some ⟨bt1, ot1, none⟩) N' c2) ∧ Y.cell? ⟨P, 3, none⟩ = some (.slice b3 N' c3)) ∧ (Y.cell? ⟨Q, 0, none⟩ = some (.slice (some ⟨bf2, of2, none⟩) N' g0) ∧ Y.cell? ⟨Q, 1, none⟩ = some (.slice (some ⟨bs2, os2, none⟩) N' g1) ∧ Y.cell? ⟨Q, 2, none⟩ = some (.slice (some ⟨bt2, ot2, none⟩) N' g2) ∧ Y.cell? ⟨Q, 3, none⟩ = some (.slice d3 N' g3))) ∧ Y.cell? ⟨bs1, os1 + k, none⟩ = some (.int .u16 (0 : Nat)) ∧ Y.cell? ⟨bs2, os2 + k, none⟩ = some (.int .u16 (0 : Nat)) ∧ Y.cell? ⟨bt1, ot1 + k, none⟩ = some (.int .i64 t) ∧ Y.cell? ⟨bt2, ot2 + k, none⟩ = some (.int .i64 t) ∧ Y.cell? ⟨bf1, of1 + k, none⟩ = some (.slice af1 lf cf1) ∧ Y.cell? ⟨bf2, of2 + k, none⟩ = some (.slice af2 lf cf2)))) (by kernel_rfl) ?_ (fun hHeld => ?_)
            · exact HS.out _ HD0.out
            refine wpAnyH_take (i := 0) (oi := { dst := some 88, op := Op.fieldAddr 29 (Operand.tmp 3) 1, type := 0, pos := "law.go:48", after := #[], guard := none }) (v := ?v3116) rfl (by kernel_rfl) (by kernel_rfl) (by kernel_rfl) (fun _ _ _ h => h) (Or.inl ⟨by rfl, ?y3116⟩) (by assumption) ?r3116
            case y3116 =>
              intro w hSw
              (try dsimp only at hSw)
              go_simp
              try with_reducible rfl
            try simp only [Act.put, List.setIfInBounds_toArray, List.set_cons_zero, List.set_cons_succ]
            refine wpAnyH_take (i := 1) (oi := { dst := some 89, op := Op.load 26 (Operand.tmp 88), type := 26, pos := "law.go:48", after := #[{ on := 0, ground := Ground.data }], guard := none }) (v := ?v3117) rfl (by kernel_rfl) (by kernel_rfl) (by kernel_rfl) (fun _ _ _ h => h) (Or.inl ⟨by rfl, ?y3117⟩) (by assumption) ?r3117
            case y3117 =>
              intro w hSw
              (try dsimp only at hSw)
              go_simp
              try with_reducible rfl
            try simp only [Act.put, List.setIfInBounds_toArray, List.set_cons_zero, List.set_cons_succ]
            refine wpAnyH_take (i := 2) (oi := { dst := some 90, op := Op.move (Operand.tmp 7), type := 3, pos := "law.go:48", after := #[], guard := none }) (v := ?v3118) rfl (by kernel_rfl) (by kernel_rfl) (by kernel_rfl) (fun _ _ _ h => h) (Or.inl ⟨by rfl, ?y3118⟩) (by assumption) ?r3118
            case y3118 =>
              intro w hSw
              (try dsimp only at hSw)
              go_simp
              try with_reducible rfl
            try simp only [Act.put, List.setIfInBounds_toArray, List.set_cons_zero, List.set_cons_succ]
            refine wpAnyH_take (i := 3) (oi := { dst := some 91, op := Op.indexAddr 26 (Operand.tmp 89) (Operand.tmp 90), type := 0, pos := "law.go:48", after := #[{ on := 1, ground := Ground.data }, { on := 2, ground := Ground.data }], guard := none }) (v := ?v3119) rfl (by kernel_rfl) (by kernel_rfl) (by kernel_rfl) (fun _ _ _ h => h) (Or.inl ⟨by rfl, ?y3119⟩) (by assumption) ?r3119
            case y3119 =>
              intro w hSw
              (try dsimp only at hSw)
              go_simp
              try with_reducible rfl
            try simp only [Act.put, List.setIfInBounds_toArray, List.set_cons_zero, List.set_cons_succ]
            refine wpAnyH_take (i := 4) (oi := { dst := some 92, op := Op.load 36 (Operand.tmp 91), type := 36, pos := "law.go:48", after := #[{ on := 3, ground := Ground.data }], guard := none }) (v := ?v3120) rfl (by kernel_rfl) (by kernel_rfl) (by kernel_rfl) (fun _ _ _ h => h) (Or.inl ⟨by rfl, ?y3120⟩) (by assumption) ?r3120
            case y3120 =>
              intro w hSw
              (try dsimp only at hSw)
              go_simp
              try with_reducible rfl
            try simp only [Act.put, List.setIfInBounds_toArray, List.set_cons_zero, List.set_cons_succ]
            refine wpAnyH_take (i := 5) (oi := { dst := some 93, op := Op.fieldAddr 29 (Operand.tmp 5) 1, type := 0, pos := "law.go:48", after := #[], guard := none }) (v := ?v3121) rfl (by kernel_rfl) (by kernel_rfl) (by kernel_rfl) (fun _ _ _ h => h) (Or.inl ⟨by rfl, ?y3121⟩) (by assumption) ?r3121
            case y3121 =>
              intro w hSw
              (try dsimp only at hSw)
              go_simp
              try with_reducible rfl
            try simp only [Act.put, List.setIfInBounds_toArray, List.set_cons_zero, List.set_cons_succ]
            refine wpAnyH_take (i := 6) (oi := { dst := some 94, op := Op.load 26 (Operand.tmp 93), type := 26, pos := "law.go:48", after := #[{ on := 5, ground := Ground.data }], guard := none }) (v := ?v3122) rfl (by kernel_rfl) (by kernel_rfl) (by kernel_rfl) (fun _ _ _ h => h) (Or.inl ⟨by rfl, ?y3122⟩) (by assumption) ?r3122
            case y3122 =>
              intro w hSw
              (try dsimp only at hSw)
              go_simp
              try with_reducible rfl
            try simp only [Act.put, List.setIfInBounds_toArray, List.set_cons_zero, List.set_cons_succ]
            refine wpAnyH_take (i := 7) (oi := { dst := some 95, op := Op.move (Operand.tmp 7), type := 3, pos := "law.go:48", after := #[], guard := none }) (v := ?v3123) rfl (by kernel_rfl) (by kernel_rfl) (by kernel_rfl) (fun _ _ _ h => h) (Or.inl ⟨by rfl, ?y3123⟩) (by assumption) ?r3123
            case y3123 =>
              intro w hSw
              (try dsimp only at hSw)
              go_simp
              try with_reducible rfl
            try simp only [Act.put, List.setIfInBounds_toArray, List.set_cons_zero, List.set_cons_succ]
            refine wpAnyH_take (i := 8) (oi := { dst := some 96, op := Op.indexAddr 26 (Operand.tmp 94) (Operand.tmp 95), type := 0, pos := "law.go:48", after := #[{ on := 6, ground := Ground.data }, { on := 7, ground := Ground.data }], guard := none }) (v := ?v3124) rfl (by kernel_rfl) (by kernel_rfl) (by kernel_rfl) (fun _ _ _ h => h) (Or.inl ⟨by rfl, ?y3124⟩) (by assumption) ?r3124
            case y3124 =>
              intro w hSw
              (try dsimp only at hSw)
              go_simp
              try with_reducible rfl
            try simp only [Act.put, List.setIfInBounds_toArray, List.set_cons_zero, List.set_cons_succ]
            refine wpAnyH_take (i := 9) (oi := { dst := some 97, op := Op.load 36 (Operand.tmp 96), type := 36, pos := "law.go:48", after := #[{ on := 8, ground := Ground.data }], guard := none }) (v := ?v3125) rfl (by kernel_rfl) (by kernel_rfl) (by kernel_rfl) (fun _ _ _ h => h) (Or.inl ⟨by rfl, ?y3125⟩) (by assumption) ?r3125
            case y3125 =>
              intro w hSw
              (try dsimp only at hSw)
              go_simp
              try with_reducible rfl
            try simp only [Act.put, List.setIfInBounds_toArray, List.set_cons_zero, List.set_cons_succ]
            refine wpAnyH_take (i := 10) (oi := { dst := some 98, op := Op.binOp BinOp.neq 36 (Operand.tmp 92) (Operand.tmp 97) 36, type := 4, pos := "law.go:48", after := #[{ on := 4, ground := Ground.data }, { on := 9, ground := Ground.data }], guard := none }) (v := ?v3126) rfl (by kernel_rfl) (by kernel_rfl) (by kernel_rfl) (fun _ _ _ h => h) (Or.inl ⟨by rfl, ?y3126⟩) (by assumption) ?r3126
            case y3126 =>
              intro w hSw
              (try dsimp only at hSw)
              go_simp
              try with_reducible rfl
            try simp only [Act.put, List.setIfInBounds_toArray, List.set_cons_zero, List.set_cons_succ]
            refine wpAnyH_take (i := 11) (oi := { dst := some 99, op := Op.move (Operand.tmp 98), type := 4, pos := "law.go:48", after := #[{ on := 10, ground := Ground.data }], guard := none }) (v := ?v3127) rfl (by kernel_rfl) (by kernel_rfl) (by kernel_rfl) (fun _ _ _ h => h) (Or.inl ⟨by rfl, ?y3127⟩) (by assumption) ?r3127
            case y3127 =>
              intro w hSw
              (try dsimp only at hSw)
              go_simp
              try with_reducible rfl
            try simp only [Act.put, List.setIfInBounds_toArray, List.set_cons_zero, List.set_cons_succ]
            refine wpAnyH_take (i := 12) (oi := { dst := some 100, op := Op.fieldAddr 29 (Operand.tmp 5) 1, type := 0, pos := "law.go:48", after := #[{ on := 11, ground := Ground.guard }], guard := some (11, false) }) (v := ?v3128) rfl (by kernel_rfl) (by kernel_rfl) (by kernel_rfl) (fun _ _ _ h => h) (Or.inl ⟨by rfl, ?y3128⟩) (by assumption) ?r3128
            case y3128 =>
              intro w hSw
              (try dsimp only at hSw)
              go_simp
              try with_reducible rfl
            try simp only [Act.put, List.setIfInBounds_toArray, List.set_cons_zero, List.set_cons_succ]
            refine wpAnyH_take (i := 13) (oi := { dst := some 101, op := Op.load 26 (Operand.tmp 100), type := 26, pos := "law.go:48", after := #[{ on := 12, ground := Ground.data }, { on := 11, ground := Ground.guard }], guard := some (11, false) }) (v := ?v3129) rfl (by kernel_rfl) (by kernel_rfl) (by kernel_rfl) (fun _ _ _ h => h) (Or.inl ⟨by rfl, ?y3129⟩) (by assumption) ?r3129
            case y3129 =>
              intro w hSw
              (try dsimp only at hSw)
              go_simp
              try with_reducible rfl
            try simp only [Act.put, List.setIfInBounds_toArray, List.set_cons_zero, List.set_cons_succ]
            refine wpAnyH_take (i := 14) (oi := { dst := some 102, op := Op.move (Operand.tmp 7), type := 3, pos := "law.go:48", after := #[{ on := 11, ground := Ground.guard }], guard := some (11, false) }) (v := ?v3130) rfl (by kernel_rfl) (by kernel_rfl) (by kernel_rfl) (fun _ _ _ h => h) (Or.inl ⟨by rfl, ?y3130⟩) (by assumption) ?r3130
            case y3130 =>
              intro w hSw
              (try dsimp only at hSw)
              go_simp
              try with_reducible rfl
            try simp only [Act.put, List.setIfInBounds_toArray, List.set_cons_zero, List.set_cons_succ]
            refine wpAnyH_take (i := 15) (oi := { dst := some 103, op := Op.indexAddr 26 (Operand.tmp 101) (Operand.tmp 102), type := 0, pos := "law.go:48", after := #[{ on := 13, ground := Ground.data }, { on := 14, ground := Ground.data }, { on := 11, ground := Ground.guard }], guard := some (11, false) }) (v := ?v3131) rfl (by kernel_rfl) (by kernel_rfl) (by kernel_rfl) (fun _ _ _ h => h) (Or.inl ⟨by rfl, ?y3131⟩) (by assumption) ?r3131
            case y3131 =>
              intro w hSw
              (try dsimp only at hSw)
              go_simp
              try with_reducible rfl
            try simp only [Act.put, List.setIfInBounds_toArray, List.set_cons_zero, List.set_cons_succ]
            refine wpAnyH_take (i := 16) (oi := { dst := some 104, op := Op.load 36 (Operand.tmp 103), type := 36, pos := "law.go:48", after := #[{ on := 15, ground := Ground.data }, { on := 11, ground := Ground.guard }], guard := some (11, false) }) (v := ?v3132) rfl (by kernel_rfl) (by kernel_rfl) (by kernel_rfl) (fun _ _ _ h => h) (Or.inl ⟨by rfl, ?y3132⟩) (by assumption) ?r3132
            case y3132 =>
              intro w hSw
              (try dsimp only at hSw)
              go_simp
              try with_reducible rfl
            try simp only [Act.put, List.setIfInBounds_toArray, List.set_cons_zero, List.set_cons_succ]
            refine wpAnyH_take (i := 17) (oi := { dst := some 105, op := Op.binOp BinOp.neq 36 (Operand.tmp 104) (Operand.const (Value.int IntKind.u16 0)) 36, type := 4, pos := "law.go:48", after := #[{ on := 16, ground := Ground.data }, { on := 11, ground := Ground.guard }], guard := some (11, false) }) (v := ?v3133) rfl (by kernel_rfl) (by kernel_rfl) (by kernel_rfl) (fun _ _ _ h => h) (Or.inl ⟨by rfl, ?y3133⟩) (by assumption) ?r3133
            case y3133 =>
              intro w hSw
              (try dsimp only at hSw)
              go_simp
              try with_reducible rfl
            try simp only [Act.put, List.setIfInBounds_toArray, List.set_cons_zero, List.set_cons_succ]
            refine wpAnyH_take (i := 18) (oi := { dst := some 106, op := Op.move (Operand.tmp 105), type := 4, pos := "law.go:48", after := #[{ on := 17, ground := Ground.data }, { on := 11, ground := Ground.chain }, { on := 11, ground := Ground.guard }], guard := some (11, false) }) (v := ?v3134) rfl (by kernel_rfl) (by kernel_rfl) (by kernel_rfl) (fun _ _ _ h => h) (Or.inl ⟨by rfl, ?y3134⟩) (by assumption) ?r3134
            case y3134 =>
              intro w hSw
              (try dsimp only at hSw)
              go_simp
              try with_reducible rfl
            try simp only [Act.put, List.setIfInBounds_toArray, List.set_cons_zero, List.set_cons_succ]
            refine wpAnyH_take (i := 19) (oi := { dst := some 107, op := Op.fieldAddr 29 (Operand.tmp 3) 2, type := 0, pos := "law.go:48", after := #[{ on := 18, ground := Ground.guard }], guard := some (18, true) }) (v := undef) rfl (by kernel_rfl) (by kernel_rfl) (by kernel_rfl) (fun _ _ _ h => h) (Or.inr ⟨by rfl, rfl⟩) (by assumption) ?_
            try simp only [Act.put, List.setIfInBounds_toArray, List.set_cons_zero, List.set_cons_succ]
            refine wpAnyH_take (i := 20) (oi := { dst := some 108, op := Op.load 27 (Operand.tmp 107), type := 27, pos := "law.go:48", after := #[{ on := 19, ground := Ground.data }, { on := 18, ground := Ground.guard }], guard := some (18, true) }) (v := undef) rfl (by kernel_rfl) (by kernel_rfl) (by kernel_rfl) (fun _ _ _ h => h) (Or.inr ⟨by rfl, rfl⟩) (by assumption) ?_
            try simp only [Act.put, List.setIfInBounds_toArray, List.set_cons_zero, List.set_cons_succ]
            refine wpAnyH_take (i := 21) (oi := { dst := some 109, op := Op.move (Operand.tmp 7), type := 3, pos := "law.go:48", after := #[{ on := 18, ground := Ground.guard }], guard := some (18, true) }) (v := undef) rfl (by kernel_rfl) (by kernel_rfl) (by kernel_rfl) (fun _ _ _ h => h) (Or.inr ⟨by rfl, rfl⟩) (by assumption) ?_
            try simp only [Act.put, List.setIfInBounds_toArray, List.set_cons_zero, List.set_cons_succ]
            refine wpAnyH_take (i := 22) (oi := { dst := some 110, op := Op.indexAddr 27 (Operand.tmp 108) (Operand.tmp 109), type := 0, pos := "law.go:48", after := #[{ on := 20, ground := Ground.data }, { on := 21, ground := Ground.data }, { on := 18, ground := Ground.guard }], guard := some (18, true) }) (v := undef) rfl (by kernel_rfl) (by kernel_rfl) (by kernel_rfl) (fun _ _ _ h => h) (Or.inr ⟨by rfl, rfl⟩) (by assumption) ?_
            try simp only [Act.put, List.setIfInBounds_toArray, List.set_cons_zero, List.set_cons_succ]
            refine wpAnyH_take (i := 23) (oi := { dst := some 111, op := Op.load 3 (Operand.tmp 110), type := 3, pos := "law.go:48", after := #[{ on := 22, ground := Ground.data }, { on := 18, ground := Ground.guard }], guard := some (18, true) }) (v := undef) rfl (by kernel_rfl) (by kernel_rfl) (by kernel_rfl) (fun _ _ _ h => h) (Or.inr ⟨by rfl, rfl⟩) (by assumption) ?_
            try simp only [Act.put, List.setIfInBounds_toArray, List.set_cons_zero, List.set_cons_succ]
            refine wpAnyH_take (i := 24) (oi := { dst := some 112, op := Op.fieldAddr 29 (Operand.tmp 5) 2, type := 0, pos := "law.go:48", after := #[{ on := 18, ground := Ground.guard }], guard := some (18, true) }) (v := undef) rfl (by kernel_rfl) (by kernel_rfl) (by kernel_rfl) (fun _ _ _ h => h) (Or.inr ⟨by rfl, rfl⟩) (by assumption) ?_
            try simp only [Act.put, List.setIfInBounds_toArray, List.set_cons_zero, List.set_cons_succ]
            refine wpAnyH_take (i := 25) (oi := { dst := some 113, op := Op.load 27 (Operand.tmp 112), type := 27, pos := "law.go:48", after := #[{ on := 24, ground := Ground.data }, { on := 18, ground := Ground.guard }], guard := some (18, true) }) (v := undef) rfl (by kernel_rfl) (by kernel_rfl) (by kernel_rfl) (fun _ _ _ h => h) (Or.inr ⟨by rfl, rfl⟩) (by assumption) ?_
            try simp only [Act.put, List.setIfInBounds_toArray, List.set_cons_zero, List.set_cons_succ]
            refine wpAnyH_take (i := 26) (oi := { dst := some 114, op := Op.move (Operand.tmp 7), type := 3, pos := "law.go:48", after := #[{ on := 18, ground := Ground.guard }], guard := some (18, true) }) (v := undef) rfl (by kernel_rfl) (by kernel_rfl) (by kernel_rfl) (fun _ _ _ h => h) (Or.inr ⟨by rfl, rfl⟩) (by assumption) ?_
            try simp only [Act.put, List.setIfInBounds_toArray, List.set_cons_zero, List.set_cons_succ]
            refine wpAnyH_take (i := 27) (oi := { dst := some 115, op := Op.indexAddr 27 (Operand.tmp 113) (Operand.tmp 114), type := 0, pos := "law.go:48", after := #[{ on := 25, ground := Ground.data }, { on := 26, ground := Ground.data }, { on := 18, ground := Ground.guard }], guard := some (18, true) }) (v := undef) rfl (by kernel_rfl) (by kernel_rfl) (by kernel_rfl) (fun _ _ _ h => h) (Or.inr ⟨by rfl, rfl⟩) (by assumption) ?_
            try simp only [Act.put, List.setIfInBounds_toArray, List.set_cons_zero, List.set_cons_succ]
            refine wpAnyH_take (i := 28) (oi := { dst := some 116, op := Op.load 3 (Operand.tmp 115), type := 3, pos := "law.go:48", after := #[{ on := 27, ground := Ground.data }, { on := 18, ground := Ground.guard }], guard := some (18, true) }) (v := undef) rfl (by kernel_rfl) (by kernel_rfl) (by kernel_rfl) (fun _ _ _ h => h) (Or.inr ⟨by rfl, rfl⟩) (by assumption) ?_
            try simp only [Act.put, List.setIfInBounds_toArray, List.set_cons_zero, List.set_cons_succ]
            refine wpAnyH_take (i := 29) (oi := { dst := some 117, op := Op.binOp BinOp.neq 3 (Operand.tmp 111) (Operand.tmp 116) 3, type := 4, pos := "law.go:48", after := #[{ on := 23, ground := Ground.data }, { on := 28, ground := Ground.data }, { on := 18, ground := Ground.guard }], guard := some (18, true) }) (v := undef) rfl (by kernel_rfl) (by kernel_rfl) (by kernel_rfl) (fun _ _ _ h => h) (Or.inr ⟨by rfl, rfl⟩) (by assumption) ?_
            try simp only [Act.put, List.setIfInBounds_toArray, List.set_cons_zero, List.set_cons_succ]
            refine wpAnyH_take (i := 30) (oi := { dst := some 118, op := Op.pick (Operand.tmp 106) (Operand.tmp 117) (Operand.const (Value.bool false)), type := 4, pos := "law.go:48", after := #[{ on := 18, ground := Ground.data }, { on := 29, ground := Ground.data }, { on := 11, ground := Ground.guard }], guard := some (11, false) }) (v := ?v3135) rfl (by kernel_rfl) (by kernel_rfl) (by kernel_rfl) (fun _ _ _ h => h) (Or.inl ⟨by rfl, ?y3135⟩) (by assumption) ?r3135
            case y3135 =>
              intro w hSw
              (try dsimp only at hSw)
              go_simp
              try with_reducible rfl
            try simp only [Act.put, List.setIfInBounds_toArray, List.set_cons_zero, List.set_cons_succ]
            refine wpAnyH_take (i := 31) (oi := { dst := some 119, op := Op.pick (Operand.tmp 99) (Operand.const (Value.bool true)) (Operand.tmp 118), type := 4, pos := "law.go:48", after := #[{ on := 11, ground := Ground.data }, { on := 30, ground := Ground.data }], guard := none }) (v := ?v3136) rfl (by kernel_rfl) (by kernel_rfl) (by kernel_rfl) (fun _ _ _ h => h) (Or.inl ⟨by rfl, ?y3136⟩) (by assumption) ?r3136
            case y3136 =>
              intro w hSw
              (try dsimp only at hSw)
              go_simp
              try with_reducible rfl
            try simp only [Act.put, List.setIfInBounds_toArray, List.set_cons_zero, List.set_cons_succ]
            refine wpAnyH_take (i := 32) (oi := { dst := some 120, op := Op.move (Operand.tmp 119), type := 4, pos := "law.go:48", after := #[{ on := 31, ground := Ground.data }, { on := 18, ground := Ground.chain }], guard := none }) (v := ?v3137) rfl (by kernel_rfl) (by kernel_rfl) (by kernel_rfl) (fun _ _ _ h => h) (Or.inl ⟨by rfl, ?y3137⟩) (by assumption) ?r3137
            case y3137 =>
              intro w hSw
              (try dsimp only at hSw)
              go_simp
              try with_reducible rfl
            try simp only [Act.put, List.setIfInBounds_toArray, List.set_cons_zero, List.set_cons_succ]
            refine wpAnyH_take (i := 33) (oi := { dst := some 121, op := Op.load 29 (Operand.tmp 3), type := 29, pos := "law.go:48", after := #[{ on := 32, ground := Ground.guard }], guard := some (32, false) }) (v := ?v3138) rfl (by kernel_rfl) (by kernel_rfl) (by kernel_rfl) (fun _ _ _ h => h) (Or.inl ⟨by rfl, ?y3138⟩) (by assumption) ?r3138
            case y3138 =>
              intro w hSw
              (try dsimp only at hSw)
              go_simp
              try with_reducible rfl
            try simp only [Act.put, List.setIfInBounds_toArray, List.set_cons_zero, List.set_cons_succ]
            refine wpAnyH_take (i := 34) (oi := { dst := some 122, op := Op.move (Operand.tmp 7), type := 3, pos := "law.go:48", after := #[{ on := 32, ground := Ground.guard }], guard := some (32, false) }) (v := ?v3139) rfl (by kernel_rfl) (by kernel_rfl) (by kernel_rfl) (fun _ _ _ h => h) (Or.inl ⟨by rfl, ?y3139⟩) (by assumption) ?r3139
            case y3139 =>
              intro w hSw
              (try dsimp only at hSw)
              go_simp
              try with_reducible rfl
            try simp only [Act.put, List.setIfInBounds_toArray, List.set_cons_zero, List.set_cons_succ]
            refine wpAnyH_take (i := 37) (oi := { dst := some 125, op := Op.load 29 (Operand.tmp 5), type := 29, pos := "law.go:48", after := #[{ on := 32, ground := Ground.guard }], guard := some (32, false) }) (v := ?v3140) rfl (by kernel_rfl) (by kernel_rfl) (by kernel_rfl) (fun _ _ _ h => h) (Or.inl ⟨by rfl, ?y3140⟩) (by assumption) ?r3140
            case y3140 =>
              intro w hSw
              (try dsimp only at hSw)
              go_simp
              try with_reducible rfl
            try simp only [Act.put, List.setIfInBounds_toArray, List.set_cons_zero, List.set_cons_succ]
            refine wpAnyH_take (i := 38) (oi := { dst := some 126, op := Op.move (Operand.tmp 7), type := 3, pos := "law.go:48", after := #[{ on := 32, ground := Ground.guard }], guard := some (32, false) }) (v := ?v3141) rfl (by kernel_rfl) (by kernel_rfl) (by kernel_rfl) (fun _ _ _ h => h) (Or.inl ⟨by rfl, ?y3141⟩) (by assumption) ?r3141
            case y3141 =>
              intro w hSw
              (try dsimp only at hSw)
              go_simp
              try with_reducible rfl
            try simp only [Act.put, List.setIfInBounds_toArray, List.set_cons_zero, List.set_cons_succ]
            refine wpAnyH_ready (rs := [35, 39]) (by kernel_rfl) (by simp) ?_
            refine AllReadyH.cons rfl (fun K hK => ?_) ?_
            · go_simp
              refine hK.out _ _ ?_ (fun hHeld => ?_)
              · exact HS.out _ HA1.out
              clear hK K
              try simp only [Act.put, List.setIfInBounds_toArray, List.set_cons_zero, List.set_cons_succ]
              refine wpAnyH_ready (rs := [36, 39]) (by kernel_rfl) (by simp) ?_
              refine AllReadyH.cons rfl (fun K hK => ?_) ?_
              · go_simp
                go_at_call 12
                refine (A.pstep_yes _ _ _ b3 N' c0 c1 c2 c3 fs' ss' ts' rs' _ 1 1 [(k : Int)] 3 (wr.drew.alloc (.cells #[.int .i64 k] 3)) HM.out (A.nm_below HA1.out HNM1.out) rfl (by decide) HWA1.out).mono ?_
                rintro e Y1 ⟨v1, rfl, ho1, hy1⟩
                obtain ⟨ar1, cr1, rfl, hwr1⟩ := A.own_slice ho1
                have HWR1a := A.hide hwr1
                have HY1 := A.hide (HA1.out.trans (hy1.mono HA1.out.size))
                go_wp2_with fail
                refine hK.out _ _ ?_ (fun hHeld => ?_)
                · exact HS.out Y1 HY1.out
                clear hK K
                try simp only [Act.put, List.setIfInBounds_toArray, List.set_cons_zero, List.set_cons_succ]
                refine wpAnyH_ready (rs := [39]) (by kernel_rfl) (by simp) ?_
                refine AllReadyH.cons rfl (fun K hK => ?_) ?_
                · go_simp
                  refine hK.out _ _ ?_ (fun hHeld => ?_)
                  · exact HS.out _ (HY1.out.alloc HY1.out.size _)
                  clear hK K
                  try simp only [Act.put, List.setIfInBounds_toArray, List.set_cons_zero, List.set_cons_succ]
                  refine wpAnyH_ready (rs := [40]) (by kernel_rfl) (by simp) ?_
                  refine AllReadyH.cons rfl (fun K hK => ?_) ?_
                  · go_simp
                    go_at_call 12
                    refine (A.pstep_yes _ _ _ d3 N' g0 g1 g2 g3 fs' ss' ts' rs' _ 1 1 [(k : Int)] 3 (Y1.alloc (.cells #[.int .i64 k] 3)) HM.out (A.nm_below (HY1.out.alloc HY1.out.size _) HNM2.out) rfl (by decide) (A.wd_one Y1 k)).mono ?_
                    rintro e Y2 ⟨v2, rfl, ho2, hy2⟩
                    obtain ⟨ar2, cr2, rfl, hwr2⟩ := A.own_slice ho2
                    have HWR2 := A.hide hwr2
                    have HY2 := A.hide ((HY1.out.alloc HY1.out.size (.cells #[.int .i64 k] 3)).trans (hy2.mono (HY1.out.alloc HY1.out.size (.cells #[.int .i64 k] 3)).size))
                    have HWR1 := A.hide (A.wd_below (((Below.refl Y1.heap.size Y1).alloc (Nat.le_refl _) (.cells #[.int .i64 k] 3)).trans (hy2.mono (by simp))) HWR1a.out)
                    go_wp2_with fail
                    refine hK.out _ _ ?_ (fun hHeld => ?_)
                    · exact HS.out Y2 HY2.out
                    clear hK K
                    try simp only [Act.put, List.setIfInBounds_toArray, List.set_cons_zero, List.set_cons_succ]
                    refine wpAnyH_ready (rs := [41]) (by kernel_rfl) (by simp) ?_
                    refine AllReadyH.cons rfl (fun K hK => ?_) ?_
                    · go_simp
                      go_at_call 11
                      refine (A.ints_any ar1 ar2 _ _ cr1 cr2 (A.lstL (A.stpB ss' ts' 3 (A.tblB [(k : Int)] 1) N') N') (A.lstL (A.stpB ss' ts' 3 (A.tblB [(k : Int)] 1) N') N') Y2 (HSL.out _) (HSL.out _) rfl rfl HWR1.out HWR2.out).mono ?_
                      rintro e Y3 ⟨rfl, hy3⟩
                      rw [decide_eq_true (Eq.refl _)]
                      have HY3 := A.hide (HY2.out.trans (hy3.mono HY2.out.size))
                      go_wp2_with fail
                      refine hK.out _ _ ?_ (fun hHeld => ?_)
                      · exact HS.out Y3 HY3.out
                      clear hK K
                      try simp only [Act.put, List.setIfInBounds_toArray, List.set_cons_zero, List.set_cons_succ]
                      refine wpAnyH_take (i := 42) (oi := { dst := some 130, op := Op.unOp UnOp.not 4 (Operand.tmp 129), type := 4, pos := "law.go:48", after := #[{ on := 41, ground := Ground.data }, { on := 32, ground := Ground.guard }], guard := some (32, false) }) (v := ?v1216) rfl (by kernel_rfl) (by kernel_rfl) (by kernel_rfl) (fun _ _ _ h => h) (Or.inl ⟨by rfl, ?y1216⟩) (by assumption) ?r1216
                      case y1216 =>
                        intro w hSw
                        (try dsimp only at hSw)
                        go_simp
                        try with_reducible rfl
                      try simp only [Act.put, List.setIfInBounds_toArray, List.set_cons_zero, List.set_cons_succ]
                      refine wpAnyH_take (i := 43) (oi := { dst := some 131, op := Op.pick (Operand.tmp 120) (Operand.const (Value.bool true)) (Operand.tmp 130), type := 4, pos := "law.go:48", after := #[{ on := 32, ground := Ground.data }, { on := 42, ground := Ground.data }], guard := none }) (v := ?v1217) rfl (by kernel_rfl) (by kernel_rfl) (by kernel_rfl) (fun _ _ _ h => h) (Or.inl ⟨by rfl, ?y1217⟩) (by assumption) ?r1217
                      case y1217 =>
                        intro w hSw
                        (try dsimp only at hSw)
                        go_simp
                        try with_reducible rfl
                      try simp only [Act.put, List.setIfInBounds_toArray, List.set_cons_zero, List.set_cons_succ]
                      refine wpAnyH_take (i := 44) (oi := { dst := some 132, op := Op.move (Operand.tmp 131), type := 4, pos := "law.go:48", after := #[{ on := 43, ground := Ground.data }, { on := 41, ground := Ground.chain }], guard := none }) (v := ?v1218) rfl (by kernel_rfl) (by kernel_rfl) (by kernel_rfl) (fun _ _ _ h => h) (Or.inl ⟨by rfl, ?y1218⟩) (by assumption) ?r1218
                      case y1218 =>
                        intro w hSw
                        (try dsimp only at hSw)
                        go_simp
                        try with_reducible rfl
                      try simp only [Act.put, List.setIfInBounds_toArray, List.set_cons_zero, List.set_cons_succ]
                      refine wpAnyH_take (i := 45) (oi := { dst := some 133, op := Op.fieldAddr 29 (Operand.tmp 3) 0, type := 0, pos := "law.go:48", after := #[{ on := 44, ground := Ground.guard }], guard := some (44, false) }) (v := ?v1219) rfl (by kernel_rfl) (by kernel_rfl) (by kernel_rfl) (fun _ _ _ h => h) (Or.inl ⟨by rfl, ?y1219⟩) (by assumption) ?r1219
                      case y1219 =>
                        intro w hSw
                        (try dsimp only at hSw)
                        go_simp
                        try with_reducible rfl
                      try simp only [Act.put, List.setIfInBounds_toArray, List.set_cons_zero, List.set_cons_succ]
                      refine wpAnyH_take (i := 46) (oi := { dst := some 134, op := Op.load 25 (Operand.tmp 133), type := 25, pos := "law.go:48", after := #[{ on := 45, ground := Ground.data }, { on := 44, ground := Ground.guard }], guard := some (44, false) }) (v := ?v1220) rfl (by kernel_rfl) (by kernel_rfl) (by kernel_rfl) (fun _ _ _ h => h) (Or.inl ⟨by rfl, ?y1220⟩) (by assumption) ?r1220
                      case y1220 =>
                        intro w hSw
                        (try dsimp only at hSw)
                        go_simp
                        try with_reducible rfl
                      try simp only [Act.put, List.setIfInBounds_toArray, List.set_cons_zero, List.set_cons_succ]
                      refine wpAnyH_take (i := 47) (oi := { dst := some 135, op := Op.move (Operand.tmp 7), type := 3, pos := "law.go:48", after := #[{ on := 44, ground := Ground.guard }], guard := some (44, false) }) (v := ?v1221) rfl (by kernel_rfl) (by kernel_rfl) (by kernel_rfl) (fun _ _ _ h => h) (Or.inl ⟨by rfl, ?y1221⟩) (by assumption) ?r1221
                      case y1221 =>
                        intro w hSw
                        (try dsimp only at hSw)
                        go_simp
                        try with_reducible rfl
                      try simp only [Act.put, List.setIfInBounds_toArray, List.set_cons_zero, List.set_cons_succ]
                      refine wpAnyH_take (i := 48) (oi := { dst := some 136, op := Op.indexAddr 25 (Operand.tmp 134) (Operand.tmp 135), type := 0, pos := "law.go:48", after := #[{ on := 46, ground := Ground.data }, { on := 47, ground := Ground.data }, { on := 44, ground := Ground.guard }], guard := some (44, false) }) (v := ?v1222) rfl (by kernel_rfl) (by kernel_rfl) (by kernel_rfl) (fun _ _ _ h => h) (Or.inl ⟨by rfl, ?y1222⟩) (by assumption) ?r1222
                      case y1222 =>
                        intro w hSw
                        (try dsimp only at hSw)
                        go_simp
                        try with_reducible rfl
                      try simp only [Act.put, List.setIfInBounds_toArray, List.set_cons_zero, List.set_cons_succ]
                      refine wpAnyH_take (i := 49) (oi := { dst := some 137, op := Op.load 27 (Operand.tmp 136), type := 27, pos := "law.go:48", after := #[{ on := 48, ground := Ground.data }, { on := 44, ground := Ground.guard }], guard := some (44, false) }) (v := ?v1223) rfl (by kernel_rfl) (by kernel_rfl) (by kernel_rfl) (fun _ _ _ h => h) (Or.inl ⟨by rfl, ?y1223⟩) (by assumption) ?r1223
                      case y1223 =>
                        intro w hSw
                        (try dsimp only at hSw)
                        go_simp
                        try with_reducible rfl
                      try simp only [Act.put, List.setIfInBounds_toArray, List.set_cons_zero, List.set_cons_succ]
                      refine wpAnyH_take (i := 51) (oi := { dst := some 139, op := Op.fieldAddr 29 (Operand.tmp 5) 0, type := 0, pos := "law.go:48", after := #[{ on := 44, ground := Ground.guard }], guard := some (44, false) }) (v := ?v1224) rfl (by kernel_rfl) (by kernel_rfl) (by kernel_rfl) (fun _ _ _ h => h) (Or.inl ⟨by rfl, ?y1224⟩) (by assumption) ?r1224
                      case y1224 =>
                        intro w hSw
                        (try dsimp only at hSw)
                        go_simp
                        try with_reducible rfl
                      try simp only [Act.put, List.setIfInBounds_toArray, List.set_cons_zero, List.set_cons_succ]
                      refine wpAnyH_take (i := 52) (oi := { dst := some 140, op := Op.load 25 (Operand.tmp 139), type := 25, pos := "law.go:48", after := #[{ on := 51, ground := Ground.data }, { on := 44, ground := Ground.guard }], guard := some (44, false) }) (v := ?v1225) rfl (by kernel_rfl) (by kernel_rfl) (by kernel_rfl) (fun _ _ _ h => h) (Or.inl ⟨by rfl, ?y1225⟩) (by assumption) ?r1225
                      case y1225 =>
                        intro w hSw
                        (try dsimp only at hSw)
                        go_simp
                        try with_reducible rfl
                      try simp only [Act.put, List.setIfInBounds_toArray, List.set_cons_zero, List.set_cons_succ]
                      refine wpAnyH_take (i := 53) (oi := { dst := some 141, op := Op.move (Operand.tmp 7), type := 3, pos := "law.go:48", after := #[{ on := 44, ground := Ground.guard }], guard := some (44, false) }) (v := ?v1226) rfl (by kernel_rfl) (by kernel_rfl) (by kernel_rfl) (fun _ _ _ h => h) (Or.inl ⟨by rfl, ?y1226⟩) (by assumption) ?r1226
                      case y1226 =>
                        intro w hSw
                        (try dsimp only at hSw)
                        go_simp
                        try with_reducible rfl
                      try simp only [Act.put, List.setIfInBounds_toArray, List.set_cons_zero, List.set_cons_succ]
                      refine wpAnyH_take (i := 54) (oi := { dst := some 142, op := Op.indexAddr 25 (Operand.tmp 140) (Operand.tmp 141), type := 0, pos := "law.go:48", after := #[{ on := 52, ground := Ground.data }, { on := 53, ground := Ground.data }, { on := 44, ground := Ground.guard }], guard := some (44, false) }) (v := ?v1227) rfl (by kernel_rfl) (by kernel_rfl) (by kernel_rfl) (fun _ _ _ h => h) (Or.inl ⟨by rfl, ?y1227⟩) (by assumption) ?r1227
                      case y1227 =>
                        intro w hSw
                        (try dsimp only at hSw)
                        go_simp
                        try with_reducible rfl
                      try simp only [Act.put, List.setIfInBounds_toArray, List.set_cons_zero, List.set_cons_succ]
                      refine wpAnyH_take (i := 55) (oi := { dst := some 143, op := Op.load 27 (Operand.tmp 142), type := 27, pos := "law.go:48", after := #[{ on := 54, ground := Ground.data }, { on := 44, ground := Ground.guard }], guard := some (44, false) }) (v := ?v1228) rfl (by kernel_rfl) (by kernel_rfl) (by kernel_rfl) (fun _ _ _ h => h) (Or.inl ⟨by rfl, ?y1228⟩) (by assumption) ?r1228
                      case y1228 =>
                        intro w hSw
                        (try dsimp only at hSw)
                        go_simp
                        try with_reducible rfl
                      try simp only [Act.put, List.setIfInBounds_toArray, List.set_cons_zero, List.set_cons_succ]
                      refine wpAnyH_ready (rs := [50]) (by kernel_rfl) (by simp) ?_
                      refine AllReadyH.cons rfl (fun K hK => ?_) ?_
                      · go_simp
                        go_at_call 13
                        refine (A.sorted_any af1 lf cf1 fk Y3 HLB.out HLF.out (A.wd_below HY3.out HWF1.out) HUF.out).mono ?_
                        rintro e Y4 ⟨rfl, hy4⟩
                        have HY4 := A.hide (HY3.out.trans (hy4.mono HY3.out.size))
                        go_wp2_with fail
                        refine hK.out _ _ ?_ (fun hHeld => ?_)
                        · exact HS.out Y4 HY4.out
                        clear hK K
                        try simp only [Act.put, List.setIfInBounds_toArray, List.set_cons_zero, List.set_cons_succ]
                        refine wpAnyH_ready (rs := [56]) (by kernel_rfl) (by simp) ?_
                        refine AllReadyH.cons rfl (fun K hK => ?_) ?_
                        · go_simp
                          go_at_call 11
                          refine (A.ints_any af1 af2 lf lf cf1 cf2 fk fk Y4 HLB.out HLB.out HLF.out HLF.out (A.wd_below HY4.out HWF1.out) (A.wd_below HY4.out HWF2.out)).mono ?_
                          rintro e Y5 ⟨rfl, hy5⟩
                          rw [decide_eq_true (Eq.refl _)]
                          have HY5 := A.hide (HY4.out.trans (hy5.mono HY4.out.size))
                          go_wp2_with fail
                          refine hK.out _ _ ?_ (fun hHeld => ?_)
                          · exact HS.out Y5 HY5.out
                          clear hK K
                          try simp only [Act.put, List.setIfInBounds_toArray, List.set_cons_zero, List.set_cons_succ]
                          refine wpAnyH_take (i := 57) (oi := { dst := some 145, op := Op.unOp UnOp.not 4 (Operand.tmp 144), type := 4, pos := "law.go:48", after := #[{ on := 56, ground := Ground.data }, { on := 44, ground := Ground.guard }], guard := some (44, false) }) (v := ?v1229) rfl (by kernel_rfl) (by kernel_rfl) (by kernel_rfl) (fun _ _ _ h => h) (Or.inl ⟨by rfl, ?y1229⟩) (by assumption) ?r1229
                          case y1229 =>
                            intro w hSw
                            (try dsimp only at hSw)
                            go_simp
                            try with_reducible rfl
                          try simp only [Act.put, List.setIfInBounds_toArray, List.set_cons_zero, List.set_cons_succ]
                          refine wpAnyH_take (i := 58) (oi := { dst := some 146, op := Op.pick (Operand.tmp 132) (Operand.const (Value.bool true)) (Operand.tmp 145), type := 4, pos := "law.go:48", after := #[{ on := 44, ground := Ground.data }, { on := 57, ground := Ground.data }], guard := none }) (v := ?v1230) rfl (by kernel_rfl) (by kernel_rfl) (by kernel_rfl) (fun _ _ _ h => h) (Or.inl ⟨by rfl, ?y1230⟩) (by assumption) ?r1230
                          case y1230 =>
                            intro w hSw
                            (try dsimp only at hSw)
                            go_simp
                            try with_reducible rfl
                          try simp only [Act.put, List.setIfInBounds_toArray, List.set_cons_zero, List.set_cons_succ]
                          refine wpAnyH_done (by kernel_rfl) ?_ _
                          go_wp2
                          go_roundw
                          case rel => exact ⟨k + 1, by omega, by go_num, HY5.out⟩
                          case measure => simp [intOf]; omega
                        exact AllReadyH.nil
                      exact AllReadyH.nil
                    exact AllReadyH.nil
                  exact AllReadyH.nil
                exact AllReadyH.nil
              refine AllReadyH.cons rfl (fun K hK => ?_) ?_
              · go_simp
                refine hK.out _ _ ?_ (fun hHeld => ?_)
                · exact HS.out _ HA2.out
                clear hK K
                try simp only [Act.put, List.setIfInBounds_toArray, List.set_cons_zero, List.set_cons_succ]
                refine wpAnyH_ready (rs := [36]) (by kernel_rfl) (by simp) ?_
                refine AllReadyH.cons rfl (fun K hK => ?_) ?_
                · go_simp
                  go_at_call 12
                  refine (A.pstep_yes _ _ _ b3 N' c0 c1 c2 c3 fs' ss' ts' rs' _ 1 1 [(k : Int)] 3 ((wr.drew.alloc (.cells #[.int .i64 k] 3)).alloc (.cells #[.int .i64 k] 3)) HM.out (A.nm_below HA2.out HNM1.out) rfl (by decide) (by first | exact HWA2.out.1 | exact HWA2.out.2)).mono ?_
                  rintro e Y1 ⟨v1, rfl, ho1, hy1⟩
                  obtain ⟨ar1, cr1, rfl, hwr1⟩ := A.own_slice ho1
                  have HWR1a := A.hide hwr1
                  have HY1 := A.hide (HA2.out.trans (hy1.mono HA2.out.size))
                  have HWb := A.hide (And.intro (A.wd_below hy1 HWA2.out.1) (A.wd_below hy1 HWA2.out.2))
                  go_wp2_with fail
                  refine hK.out _ _ ?_ (fun hHeld => ?_)
                  · exact HS.out Y1 HY1.out
                  clear hK K
                  try simp only [Act.put, List.setIfInBounds_toArray, List.set_cons_zero, List.set_cons_succ]
                  refine wpAnyH_ready (rs := [40]) (by kernel_rfl) (by simp) ?_
                  refine AllReadyH.cons rfl (fun K hK => ?_) ?_
                  · go_simp
                    go_at_call 12
                    refine (A.pstep_yes _ _ _ d3 N' g0 g1 g2 g3 fs' ss' ts' rs' _ 1 1 [(k : Int)] 3 Y1 HM.out (A.nm_below HY1.out HNM2.out) rfl (by decide) (by first | exact HWb.out.1 | exact HWb.out.2)).mono ?_
                    rintro e Y2 ⟨v2, rfl, ho2, hy2⟩
                    obtain ⟨ar2, cr2, rfl, hwr2⟩ := A.own_slice ho2
                    have HWR2 := A.hide hwr2
                    have HY2 := A.hide (HY1.out.trans (hy2.mono HY1.out.size))
                    have HWR1 := A.hide (A.wd_below hy2 HWR1a.out)
                    go_wp2_with fail
                    refine hK.out _ _ ?_ (fun hHeld => ?_)
                    · exact HS.out Y2 HY2.out
                    clear hK K
                    try simp only [Act.put, List.setIfInBounds_toArray, List.set_cons_zero, List.set_cons_succ]
                    refine wpAnyH_ready (rs := [41]) (by kernel_rfl) (by simp) ?_
                    refine AllReadyH.cons rfl (fun K hK => ?_) ?_
                    · go_simp
                      go_at_call 11
                      refine (A.ints_any ar1 ar2 _ _ cr1 cr2 (A.lstL (A.stpB ss' ts' 3 (A.tblB [(k : Int)] 1) N') N') (A.lstL (A.stpB ss' ts' 3 (A.tblB [(k : Int)] 1) N') N') Y2 (HSL.out _) (HSL.out _) rfl rfl HWR1.out HWR2.out).mono ?_
                      rintro e Y3 ⟨rfl, hy3⟩
                      rw [decide_eq_true (Eq.refl _)]
                      have HY3 := A.hide (HY2.out.trans (hy3.mono HY2.out.size))
                      go_wp2_with fail
                      refine hK.out _ _ ?_ (fun hHeld => ?_)
                      · exact HS.out Y3 HY3.out
                      clear hK K
                      try simp only [Act.put, List.setIfInBounds_toArray, List.set_cons_zero, List.set_cons_succ]
                      refine wpAnyH_take (i := 42) (oi := { dst := some 130, op := Op.unOp UnOp.not 4 (Operand.tmp 129), type := 4, pos := "law.go:48", after := #[{ on := 41, ground := Ground.data }, { on := 32, ground := Ground.guard }], guard := some (32, false) }) (v := ?v2216) rfl (by kernel_rfl) (by kernel_rfl) (by kernel_rfl) (fun _ _ _ h => h) (Or.inl ⟨by rfl, ?y2216⟩) (by assumption) ?r2216
                      case y2216 =>
                        intro w hSw
                        (try dsimp only at hSw)
                        go_simp
                        try with_reducible rfl
                      try simp only [Act.put, List.setIfInBounds_toArray, List.set_cons_zero, List.set_cons_succ]
                      refine wpAnyH_take (i := 43) (oi := { dst := some 131, op := Op.pick (Operand.tmp 120) (Operand.const (Value.bool true)) (Operand.tmp 130), type := 4, pos := "law.go:48", after := #[{ on := 32, ground := Ground.data }, { on := 42, ground := Ground.data }], guard := none }) (v := ?v2217) rfl (by kernel_rfl) (by kernel_rfl) (by kernel_rfl) (fun _ _ _ h => h) (Or.inl ⟨by rfl, ?y2217⟩) (by assumption) ?r2217
                      case y2217 =>
                        intro w hSw
                        (try dsimp only at hSw)
                        go_simp
                        try with_reducible rfl
                      try simp only [Act.put, List.setIfInBounds_toArray, List.set_cons_zero, List.set_cons_succ]
                      refine wpAnyH_take (i := 44) (oi := { dst := some 132, op := Op.move (Operand.tmp 131), type := 4, pos := "law.go:48", after := #[{ on := 43, ground := Ground.data }, { on := 41, ground := Ground.chain }], guard := none }) (v := ?v2218) rfl (by kernel_rfl) (by kernel_rfl) (by kernel_rfl) (fun _ _ _ h => h) (Or.inl ⟨by rfl, ?y2218⟩) (by assumption) ?r2218
                      case y2218 =>
                        intro w hSw
                        (try dsimp only at hSw)
                        go_simp
                        try with_reducible rfl
                      try simp only [Act.put, List.setIfInBounds_toArray, List.set_cons_zero, List.set_cons_succ]
                      refine wpAnyH_take (i := 45) (oi := { dst := some 133, op := Op.fieldAddr 29 (Operand.tmp 3) 0, type := 0, pos := "law.go:48", after := #[{ on := 44, ground := Ground.guard }], guard := some (44, false) }) (v := ?v2219) rfl (by kernel_rfl) (by kernel_rfl) (by kernel_rfl) (fun _ _ _ h => h) (Or.inl ⟨by rfl, ?y2219⟩) (by assumption) ?r2219
                      case y2219 =>
                        intro w hSw
                        (try dsimp only at hSw)
                        go_simp
                        try with_reducible rfl
                      try simp only [Act.put, List.setIfInBounds_toArray, List.set_cons_zero, List.set_cons_succ]
                      refine wpAnyH_take (i := 46) (oi := { dst := some 134, op := Op.load 25 (Operand.tmp 133), type := 25, pos := "law.go:48", after := #[{ on := 45, ground := Ground.data }, { on := 44, ground := Ground.guard }], guard := some (44, false) }) (v := ?v2220) rfl (by kernel_rfl) (by kernel_rfl) (by kernel_rfl) (fun _ _ _ h => h) (Or.inl ⟨by rfl, ?y2220⟩) (by assumption) ?r2220
                      case y2220 =>
                        intro w hSw
                        (try dsimp only at hSw)
                        go_simp
                        try with_reducible rfl
                      try simp only [Act.put, List.setIfInBounds_toArray, List.set_cons_zero, List.set_cons_succ]
                      refine wpAnyH_take (i := 47) (oi := { dst := some 135, op := Op.move (Operand.tmp 7), type := 3, pos := "law.go:48", after := #[{ on := 44, ground := Ground.guard }], guard := some (44, false) }) (v := ?v2221) rfl (by kernel_rfl) (by kernel_rfl) (by kernel_rfl) (fun _ _ _ h => h) (Or.inl ⟨by rfl, ?y2221⟩) (by assumption) ?r2221
                      case y2221 =>
                        intro w hSw
                        (try dsimp only at hSw)
                        go_simp
                        try with_reducible rfl
                      try simp only [Act.put, List.setIfInBounds_toArray, List.set_cons_zero, List.set_cons_succ]
                      refine wpAnyH_take (i := 48) (oi := { dst := some 136, op := Op.indexAddr 25 (Operand.tmp 134) (Operand.tmp 135), type := 0, pos := "law.go:48", after := #[{ on := 46, ground := Ground.data }, { on := 47, ground := Ground.data }, { on := 44, ground := Ground.guard }], guard := some (44, false) }) (v := ?v2222) rfl (by kernel_rfl) (by kernel_rfl) (by kernel_rfl) (fun _ _ _ h => h) (Or.inl ⟨by rfl, ?y2222⟩) (by assumption) ?r2222
                      case y2222 =>
                        intro w hSw
                        (try dsimp only at hSw)
                        go_simp
                        try with_reducible rfl
                      try simp only [Act.put, List.setIfInBounds_toArray, List.set_cons_zero, List.set_cons_succ]
                      refine wpAnyH_take (i := 49) (oi := { dst := some 137, op := Op.load 27 (Operand.tmp 136), type := 27, pos := "law.go:48", after := #[{ on := 48, ground := Ground.data }, { on := 44, ground := Ground.guard }], guard := some (44, false) }) (v := ?v2223) rfl (by kernel_rfl) (by kernel_rfl) (by kernel_rfl) (fun _ _ _ h => h) (Or.inl ⟨by rfl, ?y2223⟩) (by assumption) ?r2223
                      case y2223 =>
                        intro w hSw
                        (try dsimp only at hSw)
                        go_simp
                        try with_reducible rfl
                      try simp only [Act.put, List.setIfInBounds_toArray, List.set_cons_zero, List.set_cons_succ]
                      refine wpAnyH_take (i := 51) (oi := { dst := some 139, op := Op.fieldAddr 29 (Operand.tmp 5) 0, type := 0, pos := "law.go:48", after := #[{ on := 44, ground := Ground.guard }], guard := some (44, false) }) (v := ?v2224) rfl (by kernel_rfl) (by kernel_rfl) (by kernel_rfl) (fun _ _ _ h => h) (Or.inl ⟨by rfl, ?y2224⟩) (by assumption) ?r2224
                      case y2224 =>
                        intro w hSw
                        (try dsimp only at hSw)
                        go_simp
                        try with_reducible rfl
                      try simp only [Act.put, List.setIfInBounds_toArray, List.set_cons_zero, List.set_cons_succ]
                      refine wpAnyH_take (i := 52) (oi := { dst := some 140, op := Op.load 25 (Operand.tmp 139), type := 25, pos := "law.go:48", after := #[{ on := 51, ground := Ground.data }, { on := 44, ground := Ground.guard }], guard := some (44, false) }) (v := ?v2225) rfl (by kernel_rfl) (by kernel_rfl) (by kernel_rfl) (fun _ _ _ h => h) (Or.inl ⟨by rfl, ?y2225⟩) (by assumption) ?r2225
                      case y2225 =>
                        intro w hSw
                        (try dsimp only at hSw)
                        go_simp
                        try with_reducible rfl
                      try simp only [Act.put, List.setIfInBounds_toArray, List.set_cons_zero, List.set_cons_succ]
                      refine wpAnyH_take (i := 53) (oi := { dst := some 141, op := Op.move (Operand.tmp 7), type := 3, pos := "law.go:48", after := #[{ on := 44, ground := Ground.guard }], guard := some (44, false) }) (v := ?v2226) rfl (by kernel_rfl) (by kernel_rfl) (by kernel_rfl) (fun _ _ _ h => h) (Or.inl ⟨by rfl, ?y2226⟩) (by assumption) ?r2226
                      case y2226 =>
                        intro w hSw
                        (try dsimp only at hSw)
                        go_simp
                        try with_reducible rfl
                      try simp only [Act.put, List.setIfInBounds_toArray, List.set_cons_zero, List.set_cons_succ]
                      refine wpAnyH_take (i := 54) (oi := { dst := some 142, op := Op.indexAddr 25 (Operand.tmp 140) (Operand.tmp 141), type := 0, pos := "law.go:48", after := #[{ on := 52, ground := Ground.data }, { on := 53, ground := Ground.data }, { on := 44, ground := Ground.guard }], guard := some (44, false) }) (v := ?v2227) rfl (by kernel_rfl) (by kernel_rfl) (by kernel_rfl) (fun _ _ _ h => h) (Or.inl ⟨by rfl, ?y2227⟩) (by assumption) ?r2227
                      case y2227 =>
                        intro w hSw
                        (try dsimp only at hSw)
                        go_simp
                        try with_reducible rfl
                      try simp only [Act.put, List.setIfInBounds_toArray, List.set_cons_zero, List.set_cons_succ]
                      refine wpAnyH_take (i := 55) (oi := { dst := some 143, op := Op.load 27 (Operand.tmp 142), type := 27, pos := "law.go:48", after := #[{ on := 54, ground := Ground.data }, { on := 44, ground := Ground.guard }], guard := some (44, false) }) (v := ?v2228) rfl (by kernel_rfl) (by kernel_rfl) (by kernel_rfl) (fun _ _ _ h => h) (Or.inl ⟨by rfl, ?y2228⟩) (by assumption) ?r2228
                      case y2228 =>
                        intro w hSw
                        (try dsimp only at hSw)
                        go_simp
                        try with_reducible rfl
                      try simp only [Act.put, List.setIfInBounds_toArray, List.set_cons_zero, List.set_cons_succ]
                      refine wpAnyH_ready (rs := [50]) (by kernel_rfl) (by simp) ?_
                      refine AllReadyH.cons rfl (fun K hK => ?_) ?_
                      · go_simp
                        go_at_call 13
                        refine (A.sorted_any af1 lf cf1 fk Y3 HLB.out HLF.out (A.wd_below HY3.out HWF1.out) HUF.out).mono ?_
                        rintro e Y4 ⟨rfl, hy4⟩
                        have HY4 := A.hide (HY3.out.trans (hy4.mono HY3.out.size))
                        go_wp2_with fail
                        refine hK.out _ _ ?_ (fun hHeld => ?_)
                        · exact HS.out Y4 HY4.out
                        clear hK K
                        try simp only [Act.put, List.setIfInBounds_toArray, List.set_cons_zero, List.set_cons_succ]
                        refine wpAnyH_ready (rs := [56]) (by kernel_rfl) (by simp) ?_
                        refine AllReadyH.cons rfl (fun K hK => ?_) ?_
                        · go_simp
                          go_at_call 11
                          refine (A.ints_any af1 af2 lf lf cf1 cf2 fk fk Y4 HLB.out HLB.out HLF.out HLF.out (A.wd_below HY4.out HWF1.out) (A.wd_below HY4.out HWF2.out)).mono ?_
                          rintro e Y5 ⟨rfl, hy5⟩
                          rw [decide_eq_true (Eq.refl _)]
                          have HY5 := A.hide (HY4.out.trans (hy5.mono HY4.out.size))
                          go_wp2_with fail
                          refine hK.out _ _ ?_ (fun hHeld => ?_)
                          · exact HS.out Y5 HY5.out
                          clear hK K
                          try simp only [Act.put, List.setIfInBounds_toArray, List.set_cons_zero, List.set_cons_succ]
                          refine wpAnyH_take (i := 57) (oi := { dst := some 145, op := Op.unOp UnOp.not 4 (Operand.tmp 144), type := 4, pos := "law.go:48", after := #[{ on := 56, ground := Ground.data }, { on := 44, ground := Ground.guard }], guard := some (44, false) }) (v := ?v2229) rfl (by kernel_rfl) (by kernel_rfl) (by kernel_rfl) (fun _ _ _ h => h) (Or.inl ⟨by rfl, ?y2229⟩) (by assumption) ?r2229
                          case y2229 =>
                            intro w hSw
                            (try dsimp only at hSw)
                            go_simp
                            try with_reducible rfl
                          try simp only [Act.put, List.setIfInBounds_toArray, List.set_cons_zero, List.set_cons_succ]
                          refine wpAnyH_take (i := 58) (oi := { dst := some 146, op := Op.pick (Operand.tmp 132) (Operand.const (Value.bool true)) (Operand.tmp 145), type := 4, pos := "law.go:48", after := #[{ on := 44, ground := Ground.data }, { on := 57, ground := Ground.data }], guard := none }) (v := ?v2230) rfl (by kernel_rfl) (by kernel_rfl) (by kernel_rfl) (fun _ _ _ h => h) (Or.inl ⟨by rfl, ?y2230⟩) (by assumption) ?r2230
                          case y2230 =>
                            intro w hSw
                            (try dsimp only at hSw)
                            go_simp
                            try with_reducible rfl
                          try simp only [Act.put, List.setIfInBounds_toArray, List.set_cons_zero, List.set_cons_succ]
                          refine wpAnyH_done (by kernel_rfl) ?_ _
                          go_wp2
                          go_roundw
                          case rel => exact ⟨k + 1, by omega, by go_num, HY5.out⟩
                          case measure => simp [intOf]; omega
                        exact AllReadyH.nil
                      exact AllReadyH.nil
                    exact AllReadyH.nil
                  exact AllReadyH.nil
                exact AllReadyH.nil
              exact AllReadyH.nil
            refine AllReadyH.cons rfl (fun K hK => ?_) ?_
            · go_simp
              refine hK.out _ _ ?_ (fun hHeld => ?_)
              · exact HS.out _ HA1.out
              clear hK K
              try simp only [Act.put, List.setIfInBounds_toArray, List.set_cons_zero, List.set_cons_succ]
              refine wpAnyH_ready (rs := [35]) (by kernel_rfl) (by simp) ?_
              refine AllReadyH.cons rfl (fun K hK => ?_) ?_
              · go_simp
                refine hK.out _ _ ?_ (fun hHeld => ?_)
                · exact HS.out _ HA2.out
                clear hK K
                try simp only [Act.put, List.setIfInBounds_toArray, List.set_cons_zero, List.set_cons_succ]
                refine wpAnyH_ready (rs := [36]) (by kernel_rfl) (by simp) ?_
                refine AllReadyH.cons rfl (fun K hK => ?_) ?_
                · go_simp
                  go_at_call 12
                  refine (A.pstep_yes _ _ _ b3 N' c0 c1 c2 c3 fs' ss' ts' rs' _ 1 1 [(k : Int)] 3 ((wr.drew.alloc (.cells #[.int .i64 k] 3)).alloc (.cells #[.int .i64 k] 3)) HM.out (A.nm_below HA2.out HNM1.out) rfl (by decide) (by first | exact HWA2.out.1 | exact HWA2.out.2)).mono ?_
                  rintro e Y1 ⟨v1, rfl, ho1, hy1⟩
                  obtain ⟨ar1, cr1, rfl, hwr1⟩ := A.own_slice ho1
                  have HWR1a := A.hide hwr1
                  have HY1 := A.hide (HA2.out.trans (hy1.mono HA2.out.size))
                  have HWb := A.hide (And.intro (A.wd_below hy1 HWA2.out.1) (A.wd_below hy1 HWA2.out.2))
                  go_wp2_with fail
                  refine hK.out _ _ ?_ (fun hHeld => ?_)
                  · exact HS.out Y1 HY1.out
                  clear hK K
                  try simp only [Act.put, List.setIfInBounds_toArray, List.set_cons_zero, List.set_cons_succ]
                  refine wpAnyH_ready (rs := [40]) (by kernel_rfl) (by simp) ?_
                  refine AllReadyH.cons rfl (fun K hK => ?_) ?_
                  · go_simp
                    go_at_call 12
                    refine (A.pstep_yes _ _ _ d3 N' g0 g1 g2 g3 fs' ss' ts' rs' _ 1 1 [(k : Int)] 3 Y1 HM.out (A.nm_below HY1.out HNM2.out) rfl (by decide) (by first | exact HWb.out.1 | exact HWb.out.2)).mono ?_
                    rintro e Y2 ⟨v2, rfl, ho2, hy2⟩
                    obtain ⟨ar2, cr2, rfl, hwr2⟩ := A.own_slice ho2
                    have HWR2 := A.hide hwr2
                    have HY2 := A.hide (HY1.out.trans (hy2.mono HY1.out.size))
                    have HWR1 := A.hide (A.wd_below hy2 HWR1a.out)
                    go_wp2_with fail
                    refine hK.out _ _ ?_ (fun hHeld => ?_)
                    · exact HS.out Y2 HY2.out
                    clear hK K
                    try simp only [Act.put, List.setIfInBounds_toArray, List.set_cons_zero, List.set_cons_succ]
                    refine wpAnyH_ready (rs := [41]) (by kernel_rfl) (by simp) ?_
                    refine AllReadyH.cons rfl (fun K hK => ?_) ?_
                    · go_simp
                      go_at_call 11
                      refine (A.ints_any ar1 ar2 _ _ cr1 cr2 (A.lstL (A.stpB ss' ts' 3 (A.tblB [(k : Int)] 1) N') N') (A.lstL (A.stpB ss' ts' 3 (A.tblB [(k : Int)] 1) N') N') Y2 (HSL.out _) (HSL.out _) rfl rfl HWR1.out HWR2.out).mono ?_
                      rintro e Y3 ⟨rfl, hy3⟩
                      rw [decide_eq_true (Eq.refl _)]
                      have HY3 := A.hide (HY2.out.trans (hy3.mono HY2.out.size))
                      go_wp2_with fail
                      refine hK.out _ _ ?_ (fun hHeld => ?_)
                      · exact HS.out Y3 HY3.out
                      clear hK K
                      try simp only [Act.put, List.setIfInBounds_toArray, List.set_cons_zero, List.set_cons_succ]
                      refine wpAnyH_take (i := 42) (oi := { dst := some 130, op := Op.unOp UnOp.not 4 (Operand.tmp 129), type := 4, pos := "law.go:48", after := #[{ on := 41, ground := Ground.data }, { on := 32, ground := Ground.guard }], guard := some (32, false) }) (v := ?v3216) rfl (by kernel_rfl) (by kernel_rfl) (by kernel_rfl) (fun _ _ _ h => h) (Or.inl ⟨by rfl, ?y3216⟩) (by assumption) ?r3216
                      case y3216 =>
                        intro w hSw
                        (try dsimp only at hSw)
                        go_simp
                        try with_reducible rfl
                      try simp only [Act.put, List.setIfInBounds_toArray, List.set_cons_zero, List.set_cons_succ]
                      refine wpAnyH_take (i := 43) (oi := { dst := some 131, op := Op.pick (Operand.tmp 120) (Operand.const (Value.bool true)) (Operand.tmp 130), type := 4, pos := "law.go:48", after := #[{ on := 32, ground := Ground.data }, { on := 42, ground := Ground.data }], guard := none }) (v := ?v3217) rfl (by kernel_rfl) (by kernel_rfl) (by kernel_rfl) (fun _ _ _ h => h) (Or.inl ⟨by rfl, ?y3217⟩) (by assumption) ?r3217
                      case y3217 =>
                        intro w hSw
                        (try dsimp only at hSw)
                        go_simp
                        try with_reducible rfl
                      try simp only [Act.put, List.setIfInBounds_toArray, List.set_cons_zero, List.set_cons_succ]
                      refine wpAnyH_take (i := 44) (oi := { dst := some 132, op := Op.move (Operand.tmp 131), type := 4, pos := "law.go:48", after := #[{ on := 43, ground := Ground.data }, { on := 41, ground := Ground.chain }], guard := none }) (v := ?v3218) rfl (by kernel_rfl) (by kernel_rfl) (by kernel_rfl) (fun _ _ _ h => h) (Or.inl ⟨by rfl, ?y3218⟩) (by assumption) ?r3218
                      case y3218 =>
                        intro w hSw
                        (try dsimp only at hSw)
                        go_simp
                        try with_reducible rfl
                      try simp only [Act.put, List.setIfInBounds_toArray, List.set_cons_zero, List.set_cons_succ]
                      refine wpAnyH_take (i := 45) (oi := { dst := some 133, op := Op.fieldAddr 29 (Operand.tmp 3) 0, type := 0, pos := "law.go:48", after := #[{ on := 44, ground := Ground.guard }], guard := some (44, false) }) (v := ?v3219) rfl (by kernel_rfl) (by kernel_rfl) (by kernel_rfl) (fun _ _ _ h => h) (Or.inl ⟨by rfl, ?y3219⟩) (by assumption) ?r3219
                      case y3219 =>
                        intro w hSw
                        (try dsimp only at hSw)
                        go_simp
                        try with_reducible rfl
                      try simp only [Act.put, List.setIfInBounds_toArray, List.set_cons_zero, List.set_cons_succ]
                      refine wpAnyH_take (i := 46) (oi := { dst := some 134, op := Op.load 25 (Operand.tmp 133), type := 25, pos := "law.go:48", after := #[{ on := 45, ground := Ground.data }, { on := 44, ground := Ground.guard }], guard := some (44, false) }) (v := ?v3220) rfl (by kernel_rfl) (by kernel_rfl) (by kernel_rfl) (fun _ _ _ h => h) (Or.inl ⟨by rfl, ?y3220⟩) (by assumption) ?r3220
                      case y3220 =>
                        intro w hSw
                        (try dsimp only at hSw)
                        go_simp
                        try with_reducible rfl
                      try simp only [Act.put, List.setIfInBounds_toArray, List.set_cons_zero, List.set_cons_succ]
                      refine wpAnyH_take (i := 47) (oi := { dst := some 135, op := Op.move (Operand.tmp 7), type := 3, pos := "law.go:48", after := #[{ on := 44, ground := Ground.guard }], guard := some (44, false) }) (v := ?v3221) rfl (by kernel_rfl) (by kernel_rfl) (by kernel_rfl) (fun _ _ _ h => h) (Or.inl ⟨by rfl, ?y3221⟩) (by assumption) ?r3221
                      case y3221 =>
                        intro w hSw
                        (try dsimp only at hSw)
                        go_simp
                        try with_reducible rfl
                      try simp only [Act.put, List.setIfInBounds_toArray, List.set_cons_zero, List.set_cons_succ]
                      refine wpAnyH_take (i := 48) (oi := { dst := some 136, op := Op.indexAddr 25 (Operand.tmp 134) (Operand.tmp 135), type := 0, pos := "law.go:48", after := #[{ on := 46, ground := Ground.data }, { on := 47, ground := Ground.data }, { on := 44, ground := Ground.guard }], guard := some (44, false) }) (v := ?v3222) rfl (by kernel_rfl) (by kernel_rfl) (by kernel_rfl) (fun _ _ _ h => h) (Or.inl ⟨by rfl, ?y3222⟩) (by assumption) ?r3222
                      case y3222 =>
                        intro w hSw
                        (try dsimp only at hSw)
                        go_simp
                        try with_reducible rfl
                      try simp only [Act.put, List.setIfInBounds_toArray, List.set_cons_zero, List.set_cons_succ]
                      refine wpAnyH_take (i := 49) (oi := { dst := some 137, op := Op.load 27 (Operand.tmp 136), type := 27, pos := "law.go:48", after := #[{ on := 48, ground := Ground.data }, { on := 44, ground := Ground.guard }], guard := some (44, false) }) (v := ?v3223) rfl (by kernel_rfl) (by kernel_rfl) (by kernel_rfl) (fun _ _ _ h => h) (Or.inl ⟨by rfl, ?y3223⟩) (by assumption) ?r3223
                      case y3223 =>
                        intro w hSw
                        (try dsimp only at hSw)
                        go_simp
                        try with_reducible rfl
                      try simp only [Act.put, List.setIfInBounds_toArray, List.set_cons_zero, List.set_cons_succ]
                      refine wpAnyH_take (i := 51) (oi := { dst := some 139, op := Op.fieldAddr 29 (Operand.tmp 5) 0, type := 0, pos := "law.go:48", after := #[{ on := 44, ground := Ground.guard }], guard := some (44, false) }) (v := ?v3224) rfl (by kernel_rfl) (by kernel_rfl) (by kernel_rfl) (fun _ _ _ h => h) (Or.inl ⟨by rfl, ?y3224⟩) (by assumption) ?r3224
                      case y3224 =>
                        intro w hSw
                        (try dsimp only at hSw)
                        go_simp
                        try with_reducible rfl
                      try simp only [Act.put, List.setIfInBounds_toArray, List.set_cons_zero, List.set_cons_succ]
                      refine wpAnyH_take (i := 52) (oi := { dst := some 140, op := Op.load 25 (Operand.tmp 139), type := 25, pos := "law.go:48", after := #[{ on := 51, ground := Ground.data }, { on := 44, ground := Ground.guard }], guard := some (44, false) }) (v := ?v3225) rfl (by kernel_rfl) (by kernel_rfl) (by kernel_rfl) (fun _ _ _ h => h) (Or.inl ⟨by rfl, ?y3225⟩) (by assumption) ?r3225
                      case y3225 =>
                        intro w hSw
                        (try dsimp only at hSw)
                        go_simp
                        try with_reducible rfl
                      try simp only [Act.put, List.setIfInBounds_toArray, List.set_cons_zero, List.set_cons_succ]
                      refine wpAnyH_take (i := 53) (oi := { dst := some 141, op := Op.move (Operand.tmp 7), type := 3, pos := "law.go:48", after := #[{ on := 44, ground := Ground.guard }], guard := some (44, false) }) (v := ?v3226) rfl (by kernel_rfl) (by kernel_rfl) (by kernel_rfl) (fun _ _ _ h => h) (Or.inl ⟨by rfl, ?y3226⟩) (by assumption) ?r3226
                      case y3226 =>
                        intro w hSw
                        (try dsimp only at hSw)
                        go_simp
                        try with_reducible rfl
                      try simp only [Act.put, List.setIfInBounds_toArray, List.set_cons_zero, List.set_cons_succ]
                      refine wpAnyH_take (i := 54) (oi := { dst := some 142, op := Op.indexAddr 25 (Operand.tmp 140) (Operand.tmp 141), type := 0, pos := "law.go:48", after := #[{ on := 52, ground := Ground.data }, { on := 53, ground := Ground.data }, { on := 44, ground := Ground.guard }], guard := some (44, false) }) (v := ?v3227) rfl (by kernel_rfl) (by kernel_rfl) (by kernel_rfl) (fun _ _ _ h => h) (Or.inl ⟨by rfl, ?y3227⟩) (by assumption) ?r3227
                      case y3227 =>
                        intro w hSw
                        (try dsimp only at hSw)
                        go_simp
                        try with_reducible rfl
                      try simp only [Act.put, List.setIfInBounds_toArray, List.set_cons_zero, List.set_cons_succ]
                      refine wpAnyH_take (i := 55) (oi := { dst := some 143, op := Op.load 27 (Operand.tmp 142), type := 27, pos := "law.go:48", after := #[{ on := 54, ground := Ground.data }, { on := 44, ground := Ground.guard }], guard := some (44, false) }) (v := ?v3228) rfl (by kernel_rfl) (by kernel_rfl) (by kernel_rfl) (fun _ _ _ h => h) (Or.inl ⟨by rfl, ?y3228⟩) (by assumption) ?r3228
                      case y3228 =>
                        intro w hSw
                        (try dsimp only at hSw)
                        go_simp
                        try with_reducible rfl
                      try simp only [Act.put, List.setIfInBounds_toArray, List.set_cons_zero, List.set_cons_succ]
                      refine wpAnyH_ready (rs := [50]) (by kernel_rfl) (by simp) ?_
                      refine AllReadyH.cons rfl (fun K hK => ?_) ?_
                      · go_simp
                        go_at_call 13
                        refine (A.sorted_any af1 lf cf1 fk Y3 HLB.out HLF.out (A.wd_below HY3.out HWF1.out) HUF.out).mono ?_
                        rintro e Y4 ⟨rfl, hy4⟩
                        have HY4 := A.hide (HY3.out.trans (hy4.mono HY3.out.size))
                        go_wp2_with fail
                        refine hK.out _ _ ?_ (fun hHeld => ?_)
                        · exact HS.out Y4 HY4.out
                        clear hK K
                        try simp only [Act.put, List.setIfInBounds_toArray, List.set_cons_zero, List.set_cons_succ]
                        refine wpAnyH_ready (rs := [56]) (by kernel_rfl) (by simp) ?_
                        refine AllReadyH.cons rfl (fun K hK => ?_) ?_
                        · go_simp
                          go_at_call 11
                          refine (A.ints_any af1 af2 lf lf cf1 cf2 fk fk Y4 HLB.out HLB.out HLF.out HLF.out (A.wd_below HY4.out HWF1.out) (A.wd_below HY4.out HWF2.out)).mono ?_
                          rintro e Y5 ⟨rfl, hy5⟩
                          rw [decide_eq_true (Eq.refl _)]
                          have HY5 := A.hide (HY4.out.trans (hy5.mono HY4.out.size))
                          go_wp2_with fail
                          refine hK.out _ _ ?_ (fun hHeld => ?_)
                          · exact HS.out Y5 HY5.out
                          clear hK K
                          try simp only [Act.put, List.setIfInBounds_toArray, List.set_cons_zero, List.set_cons_succ]
                          refine wpAnyH_take (i := 57) (oi := { dst := some 145, op := Op.unOp UnOp.not 4 (Operand.tmp 144), type := 4, pos := "law.go:48", after := #[{ on := 56, ground := Ground.data }, { on := 44, ground := Ground.guard }], guard := some (44, false) }) (v := ?v3229) rfl (by kernel_rfl) (by kernel_rfl) (by kernel_rfl) (fun _ _ _ h => h) (Or.inl ⟨by rfl, ?y3229⟩) (by assumption) ?r3229
                          case y3229 =>
                            intro w hSw
                            (try dsimp only at hSw)
                            go_simp
                            try with_reducible rfl
                          try simp only [Act.put, List.setIfInBounds_toArray, List.set_cons_zero, List.set_cons_succ]
                          refine wpAnyH_take (i := 58) (oi := { dst := some 146, op := Op.pick (Operand.tmp 132) (Operand.const (Value.bool true)) (Operand.tmp 145), type := 4, pos := "law.go:48", after := #[{ on := 44, ground := Ground.data }, { on := 57, ground := Ground.data }], guard := none }) (v := ?v3230) rfl (by kernel_rfl) (by kernel_rfl) (by kernel_rfl) (fun _ _ _ h => h) (Or.inl ⟨by rfl, ?y3230⟩) (by assumption) ?r3230
                          case y3230 =>
                            intro w hSw
                            (try dsimp only at hSw)
                            go_simp
                            try with_reducible rfl
                          try simp only [Act.put, List.setIfInBounds_toArray, List.set_cons_zero, List.set_cons_succ]
                          refine wpAnyH_done (by kernel_rfl) ?_ _
                          go_wp2
                          go_roundw
                          case rel => exact ⟨k + 1, by omega, by go_num, HY5.out⟩
                          case measure => simp [intOf]; omega
                        exact AllReadyH.nil
                      exact AllReadyH.nil
                    exact AllReadyH.nil
                  exact AllReadyH.nil
                exact AllReadyH.nil
              exact AllReadyH.nil
            exact AllReadyH.nil
          · have ds : ((s : Int) == 0) = false := by simp; omega
            have dn : ((s : Int) != 0) = true := by simp; omega
            go_wp2_with fail
            refine wp_region_held_drew (S := (fun Y => (((Y.cell? ⟨P, 0, none⟩ = some (.slice (some ⟨bf1, of1, none⟩) N' c0) ∧ Y.cell? ⟨P, 1, none⟩ = some (.slice (some ⟨bs1, os1, none⟩) N' c1) ∧ Y.cell? ⟨P, 2, none⟩ = some (.slice (some ⟨bt1, ot1, none⟩) N' c2) ∧ Y.cell? ⟨P, 3, none⟩ = some (.slice b3 N' c3)) ∧ (Y.cell? ⟨Q, 0, none⟩ = some (.slice (some ⟨bf2, of2, none⟩) N' g0) ∧ Y.cell? ⟨Q, 1, none⟩ = some (.slice (some ⟨bs2, os2, none⟩) N' g1) ∧ Y.cell? ⟨Q, 2, none⟩ = some (.slice (some ⟨bt2, ot2, none⟩) N' g2) ∧ Y.cell? ⟨Q, 3, none⟩ = some (.slice d3 N' g3))) ∧ Y.cell? ⟨bs1, os1 + k, none⟩ = some (.int .u16 s) ∧ Y.cell? ⟨bs2, os2 + k, none⟩ = some (.int .u16 s) ∧ Y.cell? ⟨bt1, ot1 + k, none⟩ = some (.int .i64 t) ∧ Y.cell? ⟨bt2, ot2 + k, none⟩ = some (.int .i64 t) ∧ Y.cell? ⟨bf1, of1 + k, none⟩ = some (.slice af1 lf cf1) ∧ Y.cell? ⟨bf2, of2 + k, none⟩ = some (.slice af2 lf cf2)))) (by kernel_rfl) ?_ (fun hHeld => ?_)
            · exact HS.out _ HD0.out
            refine wpAnyH_take (i := 0) (oi := { dst := some 88, op := Op.fieldAddr 29 (Operand.tmp 3) 1, type := 0, pos := "law.go:48", after := #[], guard := none }) (v := ?v6157) rfl (by kernel_rfl) (by kernel_rfl) (by kernel_rfl) (fun _ _ _ h => h) (Or.inl ⟨by rfl, ?y6157⟩) (by assumption) ?r6157
            case y6157 =>
              intro w hSw
              (try dsimp only at hSw)
              go_simp
              try with_reducible rfl
            try simp only [Act.put, List.setIfInBounds_toArray, List.set_cons_zero, List.set_cons_succ]
            refine wpAnyH_take (i := 1) (oi := { dst := some 89, op := Op.load 26 (Operand.tmp 88), type := 26, pos := "law.go:48", after := #[{ on := 0, ground := Ground.data }], guard := none }) (v := ?v6158) rfl (by kernel_rfl) (by kernel_rfl) (by kernel_rfl) (fun _ _ _ h => h) (Or.inl ⟨by rfl, ?y6158⟩) (by assumption) ?r6158
            case y6158 =>
              intro w hSw
              (try dsimp only at hSw)
              go_simp
              try with_reducible rfl
            try simp only [Act.put, List.setIfInBounds_toArray, List.set_cons_zero, List.set_cons_succ]
            refine wpAnyH_take (i := 2) (oi := { dst := some 90, op := Op.move (Operand.tmp 7), type := 3, pos := "law.go:48", after := #[], guard := none }) (v := ?v6159) rfl (by kernel_rfl) (by kernel_rfl) (by kernel_rfl) (fun _ _ _ h => h) (Or.inl ⟨by rfl, ?y6159⟩) (by assumption) ?r6159
            case y6159 =>
              intro w hSw
              (try dsimp only at hSw)
              go_simp
              try with_reducible rfl
            try simp only [Act.put, List.setIfInBounds_toArray, List.set_cons_zero, List.set_cons_succ]
            refine wpAnyH_take (i := 3) (oi := { dst := some 91, op := Op.indexAddr 26 (Operand.tmp 89) (Operand.tmp 90), type := 0, pos := "law.go:48", after := #[{ on := 1, ground := Ground.data }, { on := 2, ground := Ground.data }], guard := none }) (v := ?v6160) rfl (by kernel_rfl) (by kernel_rfl) (by kernel_rfl) (fun _ _ _ h => h) (Or.inl ⟨by rfl, ?y6160⟩) (by assumption) ?r6160
            case y6160 =>
              intro w hSw
              (try dsimp only at hSw)
              go_simp
              try with_reducible rfl
            try simp only [Act.put, List.setIfInBounds_toArray, List.set_cons_zero, List.set_cons_succ]
            refine wpAnyH_take (i := 4) (oi := { dst := some 92, op := Op.load 36 (Operand.tmp 91), type := 36, pos := "law.go:48", after := #[{ on := 3, ground := Ground.data }], guard := none }) (v := ?v6161) rfl (by kernel_rfl) (by kernel_rfl) (by kernel_rfl) (fun _ _ _ h => h) (Or.inl ⟨by rfl, ?y6161⟩) (by assumption) ?r6161
            case y6161 =>
              intro w hSw
              (try dsimp only at hSw)
              go_simp
              try with_reducible rfl
            try simp only [Act.put, List.setIfInBounds_toArray, List.set_cons_zero, List.set_cons_succ]
            refine wpAnyH_take (i := 5) (oi := { dst := some 93, op := Op.fieldAddr 29 (Operand.tmp 5) 1, type := 0, pos := "law.go:48", after := #[], guard := none }) (v := ?v6162) rfl (by kernel_rfl) (by kernel_rfl) (by kernel_rfl) (fun _ _ _ h => h) (Or.inl ⟨by rfl, ?y6162⟩) (by assumption) ?r6162
            case y6162 =>
              intro w hSw
              (try dsimp only at hSw)
              go_simp
              try with_reducible rfl
            try simp only [Act.put, List.setIfInBounds_toArray, List.set_cons_zero, List.set_cons_succ]
            refine wpAnyH_take (i := 6) (oi := { dst := some 94, op := Op.load 26 (Operand.tmp 93), type := 26, pos := "law.go:48", after := #[{ on := 5, ground := Ground.data }], guard := none }) (v := ?v6163) rfl (by kernel_rfl) (by kernel_rfl) (by kernel_rfl) (fun _ _ _ h => h) (Or.inl ⟨by rfl, ?y6163⟩) (by assumption) ?r6163
            case y6163 =>
              intro w hSw
              (try dsimp only at hSw)
              go_simp
              try with_reducible rfl
            try simp only [Act.put, List.setIfInBounds_toArray, List.set_cons_zero, List.set_cons_succ]
            refine wpAnyH_take (i := 7) (oi := { dst := some 95, op := Op.move (Operand.tmp 7), type := 3, pos := "law.go:48", after := #[], guard := none }) (v := ?v6164) rfl (by kernel_rfl) (by kernel_rfl) (by kernel_rfl) (fun _ _ _ h => h) (Or.inl ⟨by rfl, ?y6164⟩) (by assumption) ?r6164
            case y6164 =>
              intro w hSw
              (try dsimp only at hSw)
              go_simp
              try with_reducible rfl
            try simp only [Act.put, List.setIfInBounds_toArray, List.set_cons_zero, List.set_cons_succ]
            refine wpAnyH_take (i := 8) (oi := { dst := some 96, op := Op.indexAddr 26 (Operand.tmp 94) (Operand.tmp 95), type := 0, pos := "law.go:48", after := #[{ on := 6, ground := Ground.data }, { on := 7, ground := Ground.data }], guard := none }) (v := ?v6165) rfl (by kernel_rfl) (by kernel_rfl) (by kernel_rfl) (fun _ _ _ h => h) (Or.inl ⟨by rfl, ?y6165⟩) (by assumption) ?r6165
            case y6165 =>
              intro w hSw
              (try dsimp only at hSw)
              go_simp
              try with_reducible rfl
            try simp only [Act.put, List.setIfInBounds_toArray, List.set_cons_zero, List.set_cons_succ]
            refine wpAnyH_take (i := 9) (oi := { dst := some 97, op := Op.load 36 (Operand.tmp 96), type := 36, pos := "law.go:48", after := #[{ on := 8, ground := Ground.data }], guard := none }) (v := ?v6166) rfl (by kernel_rfl) (by kernel_rfl) (by kernel_rfl) (fun _ _ _ h => h) (Or.inl ⟨by rfl, ?y6166⟩) (by assumption) ?r6166
            case y6166 =>
              intro w hSw
              (try dsimp only at hSw)
              go_simp
              try with_reducible rfl
            try simp only [Act.put, List.setIfInBounds_toArray, List.set_cons_zero, List.set_cons_succ]
            refine wpAnyH_take (i := 10) (oi := { dst := some 98, op := Op.binOp BinOp.neq 36 (Operand.tmp 92) (Operand.tmp 97) 36, type := 4, pos := "law.go:48", after := #[{ on := 4, ground := Ground.data }, { on := 9, ground := Ground.data }], guard := none }) (v := ?v6167) rfl (by kernel_rfl) (by kernel_rfl) (by kernel_rfl) (fun _ _ _ h => h) (Or.inl ⟨by rfl, ?y6167⟩) (by assumption) ?r6167
            case y6167 =>
              intro w hSw
              (try dsimp only at hSw)
              go_simp
              try with_reducible rfl
            try simp only [Act.put, List.setIfInBounds_toArray, List.set_cons_zero, List.set_cons_succ]
            refine wpAnyH_take (i := 11) (oi := { dst := some 99, op := Op.move (Operand.tmp 98), type := 4, pos := "law.go:48", after := #[{ on := 10, ground := Ground.data }], guard := none }) (v := ?v6168) rfl (by kernel_rfl) (by kernel_rfl) (by kernel_rfl) (fun _ _ _ h => h) (Or.inl ⟨by rfl, ?y6168⟩) (by assumption) ?r6168
            case y6168 =>
              intro w hSw
              (try dsimp only at hSw)
              go_simp
              try with_reducible rfl
            try simp only [Act.put, List.setIfInBounds_toArray, List.set_cons_zero, List.set_cons_succ]
            refine wpAnyH_take (i := 12) (oi := { dst := some 100, op := Op.fieldAddr 29 (Operand.tmp 5) 1, type := 0, pos := "law.go:48", after := #[{ on := 11, ground := Ground.guard }], guard := some (11, false) }) (v := ?v6169) rfl (by kernel_rfl) (by kernel_rfl) (by kernel_rfl) (fun _ _ _ h => h) (Or.inl ⟨by rfl, ?y6169⟩) (by assumption) ?r6169
            case y6169 =>
              intro w hSw
              (try dsimp only at hSw)
              go_simp
              try with_reducible rfl
            try simp only [Act.put, List.setIfInBounds_toArray, List.set_cons_zero, List.set_cons_succ]
            refine wpAnyH_take (i := 13) (oi := { dst := some 101, op := Op.load 26 (Operand.tmp 100), type := 26, pos := "law.go:48", after := #[{ on := 12, ground := Ground.data }, { on := 11, ground := Ground.guard }], guard := some (11, false) }) (v := ?v6170) rfl (by kernel_rfl) (by kernel_rfl) (by kernel_rfl) (fun _ _ _ h => h) (Or.inl ⟨by rfl, ?y6170⟩) (by assumption) ?r6170
            case y6170 =>
              intro w hSw
              (try dsimp only at hSw)
              go_simp
              try with_reducible rfl
            try simp only [Act.put, List.setIfInBounds_toArray, List.set_cons_zero, List.set_cons_succ]
            refine wpAnyH_take (i := 14) (oi := { dst := some 102, op := Op.move (Operand.tmp 7), type := 3, pos := "law.go:48", after := #[{ on := 11, ground := Ground.guard }], guard := some (11, false) }) (v := ?v6171) rfl (by kernel_rfl) (by kernel_rfl) (by kernel_rfl) (fun _ _ _ h => h) (Or.inl ⟨by rfl, ?y6171⟩) (by assumption) ?r6171
            case y6171 =>
              intro w hSw
              (try dsimp only at hSw)
              go_simp
              try with_reducible rfl
            try simp only [Act.put, List.setIfInBounds_toArray, List.set_cons_zero, List.set_cons_succ]
            refine wpAnyH_take (i := 15) (oi := { dst := some 103, op := Op.indexAddr 26 (Operand.tmp 101) (Operand.tmp 102), type := 0, pos := "law.go:48", after := #[{ on := 13, ground := Ground.data }, { on := 14, ground := Ground.data }, { on := 11, ground := Ground.guard }], guard := some (11, false) }) (v := ?v6172) rfl (by kernel_rfl) (by kernel_rfl) (by kernel_rfl) (fun _ _ _ h => h) (Or.inl ⟨by rfl, ?y6172⟩) (by assumption) ?r6172
            case y6172 =>
              intro w hSw
              (try dsimp only at hSw)
              go_simp
              try with_reducible rfl
            try simp only [Act.put, List.setIfInBounds_toArray, List.set_cons_zero, List.set_cons_succ]
            refine wpAnyH_take (i := 16) (oi := { dst := some 104, op := Op.load 36 (Operand.tmp 103), type := 36, pos := "law.go:48", after := #[{ on := 15, ground := Ground.data }, { on := 11, ground := Ground.guard }], guard := some (11, false) }) (v := ?v6173) rfl (by kernel_rfl) (by kernel_rfl) (by kernel_rfl) (fun _ _ _ h => h) (Or.inl ⟨by rfl, ?y6173⟩) (by assumption) ?r6173
            case y6173 =>
              intro w hSw
              (try dsimp only at hSw)
              go_simp
              try with_reducible rfl
            try simp only [Act.put, List.setIfInBounds_toArray, List.set_cons_zero, List.set_cons_succ]
            refine wpAnyH_take (i := 17) (oi := { dst := some 105, op := Op.binOp BinOp.neq 36 (Operand.tmp 104) (Operand.const (Value.int IntKind.u16 0)) 36, type := 4, pos := "law.go:48", after := #[{ on := 16, ground := Ground.data }, { on := 11, ground := Ground.guard }], guard := some (11, false) }) (v := ?v6174) rfl (by kernel_rfl) (by kernel_rfl) (by kernel_rfl) (fun _ _ _ h => h) (Or.inl ⟨by rfl, ?y6174⟩) (by assumption) ?r6174
            case y6174 =>
              intro w hSw
              (try dsimp only at hSw)
              go_simp
              try with_reducible rfl
            try simp only [Act.put, List.setIfInBounds_toArray, List.set_cons_zero, List.set_cons_succ]
            refine wpAnyH_take (i := 18) (oi := { dst := some 106, op := Op.move (Operand.tmp 105), type := 4, pos := "law.go:48", after := #[{ on := 17, ground := Ground.data }, { on := 11, ground := Ground.chain }, { on := 11, ground := Ground.guard }], guard := some (11, false) }) (v := ?v6175) rfl (by kernel_rfl) (by kernel_rfl) (by kernel_rfl) (fun _ _ _ h => h) (Or.inl ⟨by rfl, ?y6175⟩) (by assumption) ?r6175
            case y6175 =>
              intro w hSw
              (try dsimp only at hSw)
              go_simp
              try with_reducible rfl
            try simp only [Act.put, List.setIfInBounds_toArray, List.set_cons_zero, List.set_cons_succ]
            refine wpAnyH_take (i := 19) (oi := { dst := some 107, op := Op.fieldAddr 29 (Operand.tmp 3) 2, type := 0, pos := "law.go:48", after := #[{ on := 18, ground := Ground.guard }], guard := some (18, true) }) (v := ?v6176) rfl (by kernel_rfl) (by kernel_rfl) (by kernel_rfl) (fun _ _ _ h => h) (Or.inl ⟨by rfl, ?y6176⟩) (by assumption) ?r6176
            case y6176 =>
              intro w hSw
              (try dsimp only at hSw)
              go_simp
              try with_reducible rfl
            try simp only [Act.put, List.setIfInBounds_toArray, List.set_cons_zero, List.set_cons_succ]
            refine wpAnyH_take (i := 20) (oi := { dst := some 108, op := Op.load 27 (Operand.tmp 107), type := 27, pos := "law.go:48", after := #[{ on := 19, ground := Ground.data }, { on := 18, ground := Ground.guard }], guard := some (18, true) }) (v := ?v6177) rfl (by kernel_rfl) (by kernel_rfl) (by kernel_rfl) (fun _ _ _ h => h) (Or.inl ⟨by rfl, ?y6177⟩) (by assumption) ?r6177
            case y6177 =>
              intro w hSw
              (try dsimp only at hSw)
              go_simp
              try with_reducible rfl
            try simp only [Act.put, List.setIfInBounds_toArray, List.set_cons_zero, List.set_cons_succ]
            refine wpAnyH_take (i := 21) (oi := { dst := some 109, op := Op.move (Operand.tmp 7), type := 3, pos := "law.go:48", after := #[{ on := 18, ground := Ground.guard }], guard := some (18, true) }) (v := ?v6178) rfl (by kernel_rfl) (by kernel_rfl) (by kernel_rfl) (fun _ _ _ h => h) (Or.inl ⟨by rfl, ?y6178⟩) (by assumption) ?r6178
            case y6178 =>
              intro w hSw
              (try dsimp only at hSw)
              go_simp
              try with_reducible rfl
            try simp only [Act.put, List.setIfInBounds_toArray, List.set_cons_zero, List.set_cons_succ]
            refine wpAnyH_take (i := 22) (oi := { dst := some 110, op := Op.indexAddr 27 (Operand.tmp 108) (Operand.tmp 109), type := 0, pos := "law.go:48", after := #[{ on := 20, ground := Ground.data }, { on := 21, ground := Ground.data }, { on := 18, ground := Ground.guard }], guard := some (18, true) }) (v := ?v6179) rfl (by kernel_rfl) (by kernel_rfl) (by kernel_rfl) (fun _ _ _ h => h) (Or.inl ⟨by rfl, ?y6179⟩) (by assumption) ?r6179
            case y6179 =>
              intro w hSw
              (try dsimp only at hSw)
              go_simp
              try with_reducible rfl
            try simp only [Act.put, List.setIfInBounds_toArray, List.set_cons_zero, List.set_cons_succ]
            refine wpAnyH_take (i := 23) (oi := { dst := some 111, op := Op.load 3 (Operand.tmp 110), type := 3, pos := "law.go:48", after := #[{ on := 22, ground := Ground.data }, { on := 18, ground := Ground.guard }], guard := some (18, true) }) (v := ?v6180) rfl (by kernel_rfl) (by kernel_rfl) (by kernel_rfl) (fun _ _ _ h => h) (Or.inl ⟨by rfl, ?y6180⟩) (by assumption) ?r6180
            case y6180 =>
              intro w hSw
              (try dsimp only at hSw)
              go_simp
              try with_reducible rfl
            try simp only [Act.put, List.setIfInBounds_toArray, List.set_cons_zero, List.set_cons_succ]
            refine wpAnyH_take (i := 24) (oi := { dst := some 112, op := Op.fieldAddr 29 (Operand.tmp 5) 2, type := 0, pos := "law.go:48", after := #[{ on := 18, ground := Ground.guard }], guard := some (18, true) }) (v := ?v6181) rfl (by kernel_rfl) (by kernel_rfl) (by kernel_rfl) (fun _ _ _ h => h) (Or.inl ⟨by rfl, ?y6181⟩) (by assumption) ?r6181
            case y6181 =>
              intro w hSw
              (try dsimp only at hSw)
              go_simp
              try with_reducible rfl
            try simp only [Act.put, List.setIfInBounds_toArray, List.set_cons_zero, List.set_cons_succ]
            refine wpAnyH_take (i := 25) (oi := { dst := some 113, op := Op.load 27 (Operand.tmp 112), type := 27, pos := "law.go:48", after := #[{ on := 24, ground := Ground.data }, { on := 18, ground := Ground.guard }], guard := some (18, true) }) (v := ?v6182) rfl (by kernel_rfl) (by kernel_rfl) (by kernel_rfl) (fun _ _ _ h => h) (Or.inl ⟨by rfl, ?y6182⟩) (by assumption) ?r6182
            case y6182 =>
              intro w hSw
              (try dsimp only at hSw)
              go_simp
              try with_reducible rfl
            try simp only [Act.put, List.setIfInBounds_toArray, List.set_cons_zero, List.set_cons_succ]
            refine wpAnyH_take (i := 26) (oi := { dst := some 114, op := Op.move (Operand.tmp 7), type := 3, pos := "law.go:48", after := #[{ on := 18, ground := Ground.guard }], guard := some (18, true) }) (v := ?v6183) rfl (by kernel_rfl) (by kernel_rfl) (by kernel_rfl) (fun _ _ _ h => h) (Or.inl ⟨by rfl, ?y6183⟩) (by assumption) ?r6183
            case y6183 =>
              intro w hSw
              (try dsimp only at hSw)
              go_simp
              try with_reducible rfl
            try simp only [Act.put, List.setIfInBounds_toArray, List.set_cons_zero, List.set_cons_succ]
            refine wpAnyH_take (i := 27) (oi := { dst := some 115, op := Op.indexAddr 27 (Operand.tmp 113) (Operand.tmp 114), type := 0, pos := "law.go:48", after := #[{ on := 25, ground := Ground.data }, { on := 26, ground := Ground.data }, { on := 18, ground := Ground.guard }], guard := some (18, true) }) (v := ?v6184) rfl (by kernel_rfl) (by kernel_rfl) (by kernel_rfl) (fun _ _ _ h => h) (Or.inl ⟨by rfl, ?y6184⟩) (by assumption) ?r6184
            case y6184 =>
              intro w hSw
              (try dsimp only at hSw)
              go_simp
              try with_reducible rfl
            try simp only [Act.put, List.setIfInBounds_toArray, List.set_cons_zero, List.set_cons_succ]
            refine wpAnyH_take (i := 28) (oi := { dst := some 116, op := Op.load 3 (Operand.tmp 115), type := 3, pos := "law.go:48", after := #[{ on := 27, ground := Ground.data }, { on := 18, ground := Ground.guard }], guard := some (18, true) }) (v := ?v6185) rfl (by kernel_rfl) (by kernel_rfl) (by kernel_rfl) (fun _ _ _ h => h) (Or.inl ⟨by rfl, ?y6185⟩) (by assumption) ?r6185
            case y6185 =>
              intro w hSw
              (try dsimp only at hSw)
              go_simp
              try with_reducible rfl
            try simp only [Act.put, List.setIfInBounds_toArray, List.set_cons_zero, List.set_cons_succ]
            refine wpAnyH_take (i := 29) (oi := { dst := some 117, op := Op.binOp BinOp.neq 3 (Operand.tmp 111) (Operand.tmp 116) 3, type := 4, pos := "law.go:48", after := #[{ on := 23, ground := Ground.data }, { on := 28, ground := Ground.data }, { on := 18, ground := Ground.guard }], guard := some (18, true) }) (v := ?v6186) rfl (by kernel_rfl) (by kernel_rfl) (by kernel_rfl) (fun _ _ _ h => h) (Or.inl ⟨by rfl, ?y6186⟩) (by assumption) ?r6186
            case y6186 =>
              intro w hSw
              (try dsimp only at hSw)
              go_simp
              try with_reducible rfl
            try simp only [Act.put, List.setIfInBounds_toArray, List.set_cons_zero, List.set_cons_succ]
            refine wpAnyH_take (i := 30) (oi := { dst := some 118, op := Op.pick (Operand.tmp 106) (Operand.tmp 117) (Operand.const (Value.bool false)), type := 4, pos := "law.go:48", after := #[{ on := 18, ground := Ground.data }, { on := 29, ground := Ground.data }, { on := 11, ground := Ground.guard }], guard := some (11, false) }) (v := ?v6187) rfl (by kernel_rfl) (by kernel_rfl) (by kernel_rfl) (fun _ _ _ h => h) (Or.inl ⟨by rfl, ?y6187⟩) (by assumption) ?r6187
            case y6187 =>
              intro w hSw
              (try dsimp only at hSw)
              go_simp
              try with_reducible rfl
            try simp only [Act.put, List.setIfInBounds_toArray, List.set_cons_zero, List.set_cons_succ]
            refine wpAnyH_take (i := 31) (oi := { dst := some 119, op := Op.pick (Operand.tmp 99) (Operand.const (Value.bool true)) (Operand.tmp 118), type := 4, pos := "law.go:48", after := #[{ on := 11, ground := Ground.data }, { on := 30, ground := Ground.data }], guard := none }) (v := ?v6188) rfl (by kernel_rfl) (by kernel_rfl) (by kernel_rfl) (fun _ _ _ h => h) (Or.inl ⟨by rfl, ?y6188⟩) (by assumption) ?r6188
            case y6188 =>
              intro w hSw
              (try dsimp only at hSw)
              go_simp
              try with_reducible rfl
            try simp only [Act.put, List.setIfInBounds_toArray, List.set_cons_zero, List.set_cons_succ]
            refine wpAnyH_take (i := 32) (oi := { dst := some 120, op := Op.move (Operand.tmp 119), type := 4, pos := "law.go:48", after := #[{ on := 31, ground := Ground.data }, { on := 18, ground := Ground.chain }], guard := none }) (v := ?v6189) rfl (by kernel_rfl) (by kernel_rfl) (by kernel_rfl) (fun _ _ _ h => h) (Or.inl ⟨by rfl, ?y6189⟩) (by assumption) ?r6189
            case y6189 =>
              intro w hSw
              (try dsimp only at hSw)
              go_simp
              try with_reducible rfl
            try simp only [Act.put, List.setIfInBounds_toArray, List.set_cons_zero, List.set_cons_succ]
            refine wpAnyH_take (i := 33) (oi := { dst := some 121, op := Op.load 29 (Operand.tmp 3), type := 29, pos := "law.go:48", after := #[{ on := 32, ground := Ground.guard }], guard := some (32, false) }) (v := ?v6190) rfl (by kernel_rfl) (by kernel_rfl) (by kernel_rfl) (fun _ _ _ h => h) (Or.inl ⟨by rfl, ?y6190⟩) (by assumption) ?r6190
            case y6190 =>
              intro w hSw
              (try dsimp only at hSw)
              go_simp
              try with_reducible rfl
            try simp only [Act.put, List.setIfInBounds_toArray, List.set_cons_zero, List.set_cons_succ]
            refine wpAnyH_take (i := 34) (oi := { dst := some 122, op := Op.move (Operand.tmp 7), type := 3, pos := "law.go:48", after := #[{ on := 32, ground := Ground.guard }], guard := some (32, false) }) (v := ?v6191) rfl (by kernel_rfl) (by kernel_rfl) (by kernel_rfl) (fun _ _ _ h => h) (Or.inl ⟨by rfl, ?y6191⟩) (by assumption) ?r6191
            case y6191 =>
              intro w hSw
              (try dsimp only at hSw)
              go_simp
              try with_reducible rfl
            try simp only [Act.put, List.setIfInBounds_toArray, List.set_cons_zero, List.set_cons_succ]
            refine wpAnyH_take (i := 37) (oi := { dst := some 125, op := Op.load 29 (Operand.tmp 5), type := 29, pos := "law.go:48", after := #[{ on := 32, ground := Ground.guard }], guard := some (32, false) }) (v := ?v6192) rfl (by kernel_rfl) (by kernel_rfl) (by kernel_rfl) (fun _ _ _ h => h) (Or.inl ⟨by rfl, ?y6192⟩) (by assumption) ?r6192
            case y6192 =>
              intro w hSw
              (try dsimp only at hSw)
              go_simp
              try with_reducible rfl
            try simp only [Act.put, List.setIfInBounds_toArray, List.set_cons_zero, List.set_cons_succ]
            refine wpAnyH_take (i := 38) (oi := { dst := some 126, op := Op.move (Operand.tmp 7), type := 3, pos := "law.go:48", after := #[{ on := 32, ground := Ground.guard }], guard := some (32, false) }) (v := ?v6193) rfl (by kernel_rfl) (by kernel_rfl) (by kernel_rfl) (fun _ _ _ h => h) (Or.inl ⟨by rfl, ?y6193⟩) (by assumption) ?r6193
            case y6193 =>
              intro w hSw
              (try dsimp only at hSw)
              go_simp
              try with_reducible rfl
            try simp only [Act.put, List.setIfInBounds_toArray, List.set_cons_zero, List.set_cons_succ]
            refine wpAnyH_ready (rs := [35, 39]) (by kernel_rfl) (by simp) ?_
            refine AllReadyH.cons rfl (fun K hK => ?_) ?_
            · go_simp
              refine hK.out _ _ ?_ (fun hHeld => ?_)
              · exact HS.out _ HA1.out
              clear hK K
              try simp only [Act.put, List.setIfInBounds_toArray, List.set_cons_zero, List.set_cons_succ]
              refine wpAnyH_ready (rs := [36, 39]) (by kernel_rfl) (by simp) ?_
              refine AllReadyH.cons rfl (fun K hK => ?_) ?_
              · go_simp
                go_at_call 12
                refine (A.pstep_yes _ _ _ b3 N' c0 c1 c2 c3 fs' ss' ts' rs' _ 1 1 [(k : Int)] 3 (wr.drew.alloc (.cells #[.int .i64 k] 3)) HM.out (A.nm_below HA1.out HNM1.out) rfl (by decide) HWA1.out).mono ?_
                rintro e Y1 ⟨v1, rfl, ho1, hy1⟩
                obtain ⟨ar1, cr1, rfl, hwr1⟩ := A.own_slice ho1
                have HWR1a := A.hide hwr1
                have HY1 := A.hide (HA1.out.trans (hy1.mono HA1.out.size))
                go_wp2_with fail
                refine hK.out _ _ ?_ (fun hHeld => ?_)
                · exact HS.out Y1 HY1.out
                clear hK K
                try simp only [Act.put, List.setIfInBounds_toArray, List.set_cons_zero, List.set_cons_succ]
                refine wpAnyH_ready (rs := [39]) (by kernel_rfl) (by simp) ?_
                refine AllReadyH.cons rfl (fun K hK => ?_) ?_
                · go_simp
                  refine hK.out _ _ ?_ (fun hHeld => ?_)
                  · exact HS.out _ (HY1.out.alloc HY1.out.size _)
                  clear hK K
                  try simp only [Act.put, List.setIfInBounds_toArray, List.set_cons_zero, List.set_cons_succ]
                  refine wpAnyH_ready (rs := [40]) (by kernel_rfl) (by simp) ?_
                  refine AllReadyH.cons rfl (fun K hK => ?_) ?_
                  · go_simp
                    go_at_call 12
                    refine (A.pstep_yes _ _ _ d3 N' g0 g1 g2 g3 fs' ss' ts' rs' _ 1 1 [(k : Int)] 3 (Y1.alloc (.cells #[.int .i64 k] 3)) HM.out (A.nm_below (HY1.out.alloc HY1.out.size _) HNM2.out) rfl (by decide) (A.wd_one Y1 k)).mono ?_
                    rintro e Y2 ⟨v2, rfl, ho2, hy2⟩
                    obtain ⟨ar2, cr2, rfl, hwr2⟩ := A.own_slice ho2
                    have HWR2 := A.hide hwr2
                    have HY2 := A.hide ((HY1.out.alloc HY1.out.size (.cells #[.int .i64 k] 3)).trans (hy2.mono (HY1.out.alloc HY1.out.size (.cells #[.int .i64 k] 3)).size))
                    have HWR1 := A.hide (A.wd_below (((Below.refl Y1.heap.size Y1).alloc (Nat.le_refl _) (.cells #[.int .i64 k] 3)).trans (hy2.mono (by simp))) HWR1a.out)
                    go_wp2_with fail
                    refine hK.out _ _ ?_ (fun hHeld => ?_)
                    · exact HS.out Y2 HY2.out
                    clear hK K
                    try simp only [Act.put, List.setIfInBounds_toArray, List.set_cons_zero, List.set_cons_succ]
                    refine wpAnyH_ready (rs := [41]) (by kernel_rfl) (by simp) ?_
                    refine AllReadyH.cons rfl (fun K hK => ?_) ?_
                    · go_simp
                      go_at_call 11
                      refine (A.ints_any ar1 ar2 _ _ cr1 cr2 (A.lstL (A.stpB ss' ts' 3 (A.tblB [(k : Int)] 1) N') N') (A.lstL (A.stpB ss' ts' 3 (A.tblB [(k : Int)] 1) N') N') Y2 (HSL.out _) (HSL.out _) rfl rfl HWR1.out HWR2.out).mono ?_
                      rintro e Y3 ⟨rfl, hy3⟩
                      rw [decide_eq_true (Eq.refl _)]
                      have HY3 := A.hide (HY2.out.trans (hy3.mono HY2.out.size))
                      go_wp2_with fail
                      refine hK.out _ _ ?_ (fun hHeld => ?_)
                      · exact HS.out Y3 HY3.out
                      clear hK K
                      try simp only [Act.put, List.setIfInBounds_toArray, List.set_cons_zero, List.set_cons_succ]
                      refine wpAnyH_take (i := 42) (oi := { dst := some 130, op := Op.unOp UnOp.not 4 (Operand.tmp 129), type := 4, pos := "law.go:48", after := #[{ on := 41, ground := Ground.data }, { on := 32, ground := Ground.guard }], guard := some (32, false) }) (v := ?v7298) rfl (by kernel_rfl) (by kernel_rfl) (by kernel_rfl) (fun _ _ _ h => h) (Or.inl ⟨by rfl, ?y7298⟩) (by assumption) ?r7298
                      case y7298 =>
                        intro w hSw
                        (try dsimp only at hSw)
                        go_simp
                        try with_reducible rfl
                      try simp only [Act.put, List.setIfInBounds_toArray, List.set_cons_zero, List.set_cons_succ]
                      refine wpAnyH_take (i := 43) (oi := { dst := some 131, op := Op.pick (Operand.tmp 120) (Operand.const (Value.bool true)) (Operand.tmp 130), type := 4, pos := "law.go:48", after := #[{ on := 32, ground := Ground.data }, { on := 42, ground := Ground.data }], guard := none }) (v := ?v7299) rfl (by kernel_rfl) (by kernel_rfl) (by kernel_rfl) (fun _ _ _ h => h) (Or.inl ⟨by rfl, ?y7299⟩) (by assumption) ?r7299
                      case y7299 =>
                        intro w hSw
                        (try dsimp only at hSw)
                        go_simp
                        try with_reducible rfl
                      try simp only [Act.put, List.setIfInBounds_toArray, List.set_cons_zero, List.set_cons_succ]
                      refine wpAnyH_take (i := 44) (oi := { dst := some 132, op := Op.move (Operand.tmp 131), type := 4, pos := "law.go:48", after := #[{ on := 43, ground := Ground.data }, { on := 41, ground := Ground.chain }], guard := none }) (v := ?v7300) rfl (by kernel_rfl) (by kernel_rfl) (by kernel_rfl) (fun _ _ _ h => h) (Or.inl ⟨by rfl, ?y7300⟩) (by assumption) ?r7300
                      case y7300 =>
                        intro w hSw
                        (try dsimp only at hSw)
                        go_simp
                        try with_reducible rfl
                      try simp only [Act.put, List.setIfInBounds_toArray, List.set_cons_zero, List.set_cons_succ]
                      refine wpAnyH_take (i := 45) (oi := { dst := some 133, op := Op.fieldAddr 29 (Operand.tmp 3) 0, type := 0, pos := "law.go:48", after := #[{ on := 44, ground := Ground.guard }], guard := some (44, false) }) (v := ?v7301) rfl (by kernel_rfl) (by kernel_rfl) (by kernel_rfl) (fun _ _ _ h => h) (Or.inl ⟨by rfl, ?y7301⟩) (by assumption) ?r7301
                      case y7301 =>
                        intro w hSw
                        (try dsimp only at hSw)
                        go_simp
                        try with_reducible rfl
                      try simp only [Act.put, List.setIfInBounds_toArray, List.set_cons_zero, List.set_cons_succ]
                      refine wpAnyH_take (i := 46) (oi := { dst := some 134, op := Op.load 25 (Operand.tmp 133), type := 25, pos := "law.go:48", after := #[{ on := 45, ground := Ground.data }, { on := 44, ground := Ground.guard }], guard := some (44, false) }) (v := ?v7302) rfl (by kernel_rfl) (by kernel_rfl) (by kernel_rfl) (fun _ _ _ h => h) (Or.inl ⟨by rfl, ?y7302⟩) (by assumption) ?r7302
                      case y7302 =>
                        intro w hSw
                        (try dsimp only at hSw)
                        go_simp
                        try with_reducible rfl
                      try simp only [Act.put, List.setIfInBounds_toArray, List.set_cons_zero, List.set_cons_succ]
                      refine wpAnyH_take (i := 47) (oi := { dst := some 135, op := Op.move (Operand.tmp 7), type := 3, pos := "law.go:48", after := #[{ on := 44, ground := Ground.guard }], guard := some (44, false) }) (v := ?v7303) rfl (by kernel_rfl) (by kernel_rfl) (by kernel_rfl) (fun _ _ _ h => h) (Or.inl ⟨by rfl, ?y7303⟩) (by assumption) ?r7303
                      case y7303 =>
                        intro w hSw
                        (try dsimp only at hSw)
                        go_simp
                        try with_reducible rfl
                      try simp only [Act.put, List.setIfInBounds_toArray, List.set_cons_zero, List.set_cons_succ]
                      refine wpAnyH_take (i := 48) (oi := { dst := some 136, op := Op.indexAddr 25 (Operand.tmp 134) (Operand.tmp 135), type := 0, pos := "law.go:48", after := #[{ on := 46, ground := Ground.data }, { on := 47, ground := Ground.data }, { on := 44, ground := Ground.guard }], guard := some (44, false) }) (v := ?v7304) rfl (by kernel_rfl) (by kernel_rfl) (by kernel_rfl) (fun _ _ _ h => h) (Or.inl ⟨by rfl, ?y7304⟩) (by assumption) ?r7304
                      case y7304 =>
                        intro w hSw
                        (try dsimp only at hSw)
                        go_simp
                        try with_reducible rfl
                      try simp only [Act.put, List.setIfInBounds_toArray, List.set_cons_zero, List.set_cons_succ]
                      refine wpAnyH_take (i := 49) (oi := { dst := some 137, op := Op.load 27 (Operand.tmp 136), type := 27, pos := "law.go:48", after := #[{ on := 48, ground := Ground.data }, { on := 44, ground := Ground.guard }], guard := some (44, false) }) (v := ?v7305) rfl (by kernel_rfl) (by kernel_rfl) (by kernel_rfl) (fun _ _ _ h => h) (Or.inl ⟨by rfl, ?y7305⟩) (by assumption) ?r7305
                      case y7305 =>
                        intro w hSw
                        (try dsimp only at hSw)
                        go_simp
                        try with_reducible rfl
                      try simp only [Act.put, List.setIfInBounds_toArray, List.set_cons_zero, List.set_cons_succ]
                      refine wpAnyH_take (i := 51) (oi := { dst := some 139, op := Op.fieldAddr 29 (Operand.tmp 5) 0, type := 0, pos := "law.go:48", after := #[{ on := 44, ground := Ground.guard }], guard := some (44, false) }) (v := ?v7306) rfl (by kernel_rfl) (by kernel_rfl) (by kernel_rfl) (fun _ _ _ h => h) (Or.inl ⟨by rfl, ?y7306⟩) (by assumption) ?r7306
                      case y7306 =>
                        intro w hSw
                        (try dsimp only at hSw)
                        go_simp
                        try with_reducible rfl
                      try simp only [Act.put, List.setIfInBounds_toArray, List.set_cons_zero, List.set_cons_succ]
                      refine wpAnyH_take (i := 52) (oi := { dst := some 140, op := Op.load 25 (Operand.tmp 139), type := 25, pos := "law.go:48", after := #[{ on := 51, ground := Ground.data }, { on := 44, ground := Ground.guard }], guard := some (44, false) }) (v := ?v7307) rfl (by kernel_rfl) (by kernel_rfl) (by kernel_rfl) (fun _ _ _ h => h) (Or.inl ⟨by rfl, ?y7307⟩) (by assumption) ?r7307
                      case y7307 =>
                        intro w hSw
                        (try dsimp only at hSw)
                        go_simp
                        try with_reducible rfl
                      try simp only [Act.put, List.setIfInBounds_toArray, List.set_cons_zero, List.set_cons_succ]
                      refine wpAnyH_take (i := 53) (oi := { dst := some 141, op := Op.move (Operand.tmp 7), type := 3, pos := "law.go:48", after := #[{ on := 44, ground := Ground.guard }], guard := some (44, false) }) (v := ?v7308) rfl (by kernel_rfl) (by kernel_rfl) (by kernel_rfl) (fun _ _ _ h => h) (Or.inl ⟨by rfl, ?y7308⟩) (by assumption) ?r7308
                      case y7308 =>
                        intro w hSw
                        (try dsimp only at hSw)
                        go_simp
                        try with_reducible rfl
                      try simp only [Act.put, List.setIfInBounds_toArray, List.set_cons_zero, List.set_cons_succ]
                      refine wpAnyH_take (i := 54) (oi := { dst := some 142, op := Op.indexAddr 25 (Operand.tmp 140) (Operand.tmp 141), type := 0, pos := "law.go:48", after := #[{ on := 52, ground := Ground.data }, { on := 53, ground := Ground.data }, { on := 44, ground := Ground.guard }], guard := some (44, false) }) (v := ?v7309) rfl (by kernel_rfl) (by kernel_rfl) (by kernel_rfl) (fun _ _ _ h => h) (Or.inl ⟨by rfl, ?y7309⟩) (by assumption) ?r7309
                      case y7309 =>
                        intro w hSw
                        (try dsimp only at hSw)
                        go_simp
                        try with_reducible rfl
                      try simp only [Act.put, List.setIfInBounds_toArray, List.set_cons_zero, List.set_cons_succ]
                      refine wpAnyH_take (i := 55) (oi := { dst := some 143, op := Op.load 27 (Operand.tmp 142), type := 27, pos := "law.go:48", after := #[{ on := 54, ground := Ground.data }, { on := 44, ground := Ground.guard }], guard := some (44, false) }) (v := ?v7310) rfl (by kernel_rfl) (by kernel_rfl) (by kernel_rfl) (fun _ _ _ h => h) (Or.inl ⟨by rfl, ?y7310⟩) (by assumption) ?r7310
                      case y7310 =>
                        intro w hSw
                        (try dsimp only at hSw)
                        go_simp
                        try with_reducible rfl
                      try simp only [Act.put, List.setIfInBounds_toArray, List.set_cons_zero, List.set_cons_succ]
                      refine wpAnyH_ready (rs := [50]) (by kernel_rfl) (by simp) ?_
                      refine AllReadyH.cons rfl (fun K hK => ?_) ?_
                      · go_simp
                        go_at_call 13
                        refine (A.sorted_any af1 lf cf1 fk Y3 HLB.out HLF.out (A.wd_below HY3.out HWF1.out) HUF.out).mono ?_
                        rintro e Y4 ⟨rfl, hy4⟩
                        have HY4 := A.hide (HY3.out.trans (hy4.mono HY3.out.size))
                        go_wp2_with fail
                        refine hK.out _ _ ?_ (fun hHeld => ?_)
                        · exact HS.out Y4 HY4.out
                        clear hK K
                        try simp only [Act.put, List.setIfInBounds_toArray, List.set_cons_zero, List.set_cons_succ]
                        refine wpAnyH_ready (rs := [56]) (by kernel_rfl) (by simp) ?_
                        refine AllReadyH.cons rfl (fun K hK => ?_) ?_
                        · go_simp
                          go_at_call 11
                          refine (A.ints_any af1 af2 lf lf cf1 cf2 fk fk Y4 HLB.out HLB.out HLF.out HLF.out (A.wd_below HY4.out HWF1.out) (A.wd_below HY4.out HWF2.out)).mono ?_
                          rintro e Y5 ⟨rfl, hy5⟩
                          rw [decide_eq_true (Eq.refl _)]
                          have HY5 := A.hide (HY4.out.trans (hy5.mono HY4.out.size))
                          go_wp2_with fail
                          refine hK.out _ _ ?_ (fun hHeld => ?_)
                          · exact HS.out Y5 HY5.out
                          clear hK K
                          try simp only [Act.put, List.setIfInBounds_toArray, List.set_cons_zero, List.set_cons_succ]
                          refine wpAnyH_take (i := 57) (oi := { dst := some 145, op := Op.unOp UnOp.not 4 (Operand.tmp 144), type := 4, pos := "law.go:48", after := #[{ on := 56, ground := Ground.data }, { on := 44, ground := Ground.guard }], guard := some (44, false) }) (v := ?v7311) rfl (by kernel_rfl) (by kernel_rfl) (by kernel_rfl) (fun _ _ _ h => h) (Or.inl ⟨by rfl, ?y7311⟩) (by assumption) ?r7311
                          case y7311 =>
                            intro w hSw
                            (try dsimp only at hSw)
                            go_simp
                            try with_reducible rfl
                          try simp only [Act.put, List.setIfInBounds_toArray, List.set_cons_zero, List.set_cons_succ]
                          refine wpAnyH_take (i := 58) (oi := { dst := some 146, op := Op.pick (Operand.tmp 132) (Operand.const (Value.bool true)) (Operand.tmp 145), type := 4, pos := "law.go:48", after := #[{ on := 44, ground := Ground.data }, { on := 57, ground := Ground.data }], guard := none }) (v := ?v7312) rfl (by kernel_rfl) (by kernel_rfl) (by kernel_rfl) (fun _ _ _ h => h) (Or.inl ⟨by rfl, ?y7312⟩) (by assumption) ?r7312
                          case y7312 =>
                            intro w hSw
                            (try dsimp only at hSw)
                            go_simp
                            try with_reducible rfl
                          try simp only [Act.put, List.setIfInBounds_toArray, List.set_cons_zero, List.set_cons_succ]
                          refine wpAnyH_done (by kernel_rfl) ?_ _
                          go_wp2
                          go_roundw
                          case rel => exact ⟨k + 1, by omega, by go_num, HY5.out⟩
                          case measure => simp [intOf]; omega
                        exact AllReadyH.nil
                      exact AllReadyH.nil
                    exact AllReadyH.nil
                  exact AllReadyH.nil
                exact AllReadyH.nil
              refine AllReadyH.cons rfl (fun K hK => ?_) ?_
              · go_simp
                refine hK.out _ _ ?_ (fun hHeld => ?_)
                · exact HS.out _ HA2.out
                clear hK K
                try simp only [Act.put, List.setIfInBounds_toArray, List.set_cons_zero, List.set_cons_succ]
                refine wpAnyH_ready (rs := [36]) (by kernel_rfl) (by simp) ?_
                refine AllReadyH.cons rfl (fun K hK => ?_) ?_
                · go_simp
                  go_at_call 12
                  refine (A.pstep_yes _ _ _ b3 N' c0 c1 c2 c3 fs' ss' ts' rs' _ 1 1 [(k : Int)] 3 ((wr.drew.alloc (.cells #[.int .i64 k] 3)).alloc (.cells #[.int .i64 k] 3)) HM.out (A.nm_below HA2.out HNM1.out) rfl (by decide) (by first | exact HWA2.out.1 | exact HWA2.out.2)).mono ?_
                  rintro e Y1 ⟨v1, rfl, ho1, hy1⟩
                  obtain ⟨ar1, cr1, rfl, hwr1⟩ := A.own_slice ho1
                  have HWR1a := A.hide hwr1
                  have HY1 := A.hide (HA2.out.trans (hy1.mono HA2.out.size))
                  have HWb := A.hide (And.intro (A.wd_below hy1 HWA2.out.1) (A.wd_below hy1 HWA2.out.2))
                  go_wp2_with fail
                  refine hK.out _ _ ?_ (fun hHeld => ?_)
                  · exact HS.out Y1 HY1.out
                  clear hK K
                  try simp only [Act.put, List.setIfInBounds_toArray, List.set_cons_zero, List.set_cons_succ]
                  refine wpAnyH_ready (rs := [40]) (by kernel_rfl) (by simp) ?_
                  refine AllReadyH.cons rfl (fun K hK => ?_) ?_
                  · go_simp
                    go_at_call 12
                    refine (A.pstep_yes _ _ _ d3 N' g0 g1 g2 g3 fs' ss' ts' rs' _ 1 1 [(k : Int)] 3 Y1 HM.out (A.nm_below HY1.out HNM2.out) rfl (by decide) (by first | exact HWb.out.1 | exact HWb.out.2)).mono ?_
                    rintro e Y2 ⟨v2, rfl, ho2, hy2⟩
                    obtain ⟨ar2, cr2, rfl, hwr2⟩ := A.own_slice ho2
                    have HWR2 := A.hide hwr2
                    have HY2 := A.hide (HY1.out.trans (hy2.mono HY1.out.size))
                    have HWR1 := A.hide (A.wd_below hy2 HWR1a.out)
                    go_wp2_with fail
                    refine hK.out _ _ ?_ (fun hHeld => ?_)
                    · exact HS.out Y2 HY2.out
                    clear hK K
                    try simp only [Act.put, List.setIfInBounds_toArray, List.set_cons_zero, List.set_cons_succ]
                    refine wpAnyH_ready (rs := [41]) (by kernel_rfl) (by simp) ?_
                    refine AllReadyH.cons rfl (fun K hK => ?_) ?_
                    · go_simp
                      go_at_call 11
                      refine (A.ints_any ar1 ar2 _ _ cr1 cr2 (A.lstL (A.stpB ss' ts' 3 (A.tblB [(k : Int)] 1) N') N') (A.lstL (A.stpB ss' ts' 3 (A.tblB [(k : Int)] 1) N') N') Y2 (HSL.out _) (HSL.out _) rfl rfl HWR1.out HWR2.out).mono ?_
                      rintro e Y3 ⟨rfl, hy3⟩
                      rw [decide_eq_true (Eq.refl _)]
                      have HY3 := A.hide (HY2.out.trans (hy3.mono HY2.out.size))
                      go_wp2_with fail
                      refine hK.out _ _ ?_ (fun hHeld => ?_)
                      · exact HS.out Y3 HY3.out
                      clear hK K
                      try simp only [Act.put, List.setIfInBounds_toArray, List.set_cons_zero, List.set_cons_succ]
                      refine wpAnyH_take (i := 42) (oi := { dst := some 130, op := Op.unOp UnOp.not 4 (Operand.tmp 129), type := 4, pos := "law.go:48", after := #[{ on := 41, ground := Ground.data }, { on := 32, ground := Ground.guard }], guard := some (32, false) }) (v := ?v8298) rfl (by kernel_rfl) (by kernel_rfl) (by kernel_rfl) (fun _ _ _ h => h) (Or.inl ⟨by rfl, ?y8298⟩) (by assumption) ?r8298
                      case y8298 =>
                        intro w hSw
                        (try dsimp only at hSw)
                        go_simp
                        try with_reducible rfl
                      try simp only [Act.put, List.setIfInBounds_toArray, List.set_cons_zero, List.set_cons_succ]
                      refine wpAnyH_take (i := 43) (oi := { dst := some 131, op := Op.pick (Operand.tmp 120) (Operand.const (Value.bool true)) (Operand.tmp 130), type := 4, pos := "law.go:48", after := #[{ on := 32, ground := Ground.data }, { on := 42, ground := Ground.data }], guard := none }) (v := ?v8299) rfl (by kernel_rfl) (by kernel_rfl) (by kernel_rfl) (fun _ _ _ h => h) (Or.inl ⟨by rfl, ?y8299⟩) (by assumption) ?r8299
                      case y8299 =>
                        intro w hSw
                        (try dsimp only at hSw)
                        go_simp
                        try with_reducible rfl
                      try simp only [Act.put, List.setIfInBounds_toArray, List.set_cons_zero, List.set_cons_succ]
                      refine wpAnyH_take (i := 44) (oi := { dst := some 132, op := Op.move (Operand.tmp 131), type := 4, pos := "law.go:48", after := #[{ on := 43, ground := Ground.data }, { on := 41, ground := Ground.chain }], guard := none }) (v := ?v8300) rfl (by kernel_rfl) (by kernel_rfl) (by kernel_rfl) (fun _ _ _ h => h) (Or.inl ⟨by rfl, ?y8300⟩) (by assumption) ?r8300
                      case y8300 =>
                        intro w hSw
                        (try dsimp only at hSw)
                        go_simp
                        try with_reducible rfl
                      try simp only [Act.put, List.setIfInBounds_toArray, List.set_cons_zero, List.set_cons_succ]
                      refine wpAnyH_take (i := 45) (oi := { dst := some 133, op := Op.fieldAddr 29 (Operand.tmp 3) 0, type := 0, pos := "law.go:48", after := #[{ on := 44, ground := Ground.guard }], guard := some (44, false) }) (v := ?v8301) rfl (by kernel_rfl) (by kernel_rfl) (by kernel_rfl) (fun _ _ _ h => h) (Or.inl ⟨by rfl, ?y8301⟩) (by assumption) ?r8301
                      case y8301 =>
                        intro w hSw
                        (try dsimp only at hSw)
                        go_simp
                        try with_reducible rfl
                      try simp only [Act.put, List.setIfInBounds_toArray, List.set_cons_zero, List.set_cons_succ]
                      refine wpAnyH_take (i := 46) (oi := { dst := some 134, op := Op.load 25 (Operand.tmp 133), type := 25, pos := "law.go:48", after := #[{ on := 45, ground := Ground.data }, { on := 44, ground := Ground.guard }], guard := some (44, false) }) (v := ?v8302) rfl (by kernel_rfl) (by kernel_rfl) (by kernel_rfl) (fun _ _ _ h => h) (Or.inl ⟨by rfl, ?y8302⟩) (by assumption) ?r8302
                      case y8302 =>
                        intro w hSw
                        (try dsimp only at hSw)
                        go_simp
                        try with_reducible rfl
                      try simp only [Act.put, List.setIfInBounds_toArray, List.set_cons_zero, List.set_cons_succ]
                      refine wpAnyH_take (i := 47) (oi := { dst := some 135, op := Op.move (Operand.tmp 7), type := 3, pos := "law.go:48", after := #[{ on := 44, ground := Ground.guard }], guard := some (44, false) }) (v := ?v8303) rfl (by kernel_rfl) (by kernel_rfl) (by kernel_rfl) (fun _ _ _ h => h) (Or.inl ⟨by rfl, ?y8303⟩) (by assumption) ?r8303
                      case y8303 =>
                        intro w hSw
                        (try dsimp only at hSw)
                        go_simp
                        try with_reducible rfl
                      try simp only [Act.put, List.setIfInBounds_toArray, List.set_cons_zero, List.set_cons_succ]
                      refine wpAnyH_take (i := 48) (oi := { dst := some 136, op := Op.indexAddr 25 (Operand.tmp 134) (Operand.tmp 135), type := 0, pos := "law.go:48", after := #[{ on := 46, ground := Ground.data }, { on := 47, ground := Ground.data }, { on := 44, ground := Ground.guard }], guard := some (44, false) }) (v := ?v8304) rfl (by kernel_rfl) (by kernel_rfl) (by kernel_rfl) (fun _ _ _ h => h) (Or.inl ⟨by rfl, ?y8304⟩) (by assumption) ?r8304
                      case y8304 =>
                        intro w hSw
                        (try dsimp only at hSw)
                        go_simp
                        try with_reducible rfl
                      try simp only [Act.put, List.setIfInBounds_toArray, List.set_cons_zero, List.set_cons_succ]
                      refine wpAnyH_take (i := 49) (oi := { dst := some 137, op := Op.load 27 (Operand.tmp 136), type := 27, pos := "law.go:48", after := #[{ on := 48, ground := Ground.data }, { on := 44, ground := Ground.guard }], guard := some (44, false) }) (v := ?v8305) rfl (by kernel_rfl) (by kernel_rfl) (by kernel_rfl) (fun _ _ _ h => h) (Or.inl ⟨by rfl, ?y8305⟩) (by assumption) ?r8305
                      case y8305 =>
                        intro w hSw
                        (try dsimp only at hSw)
                        go_simp
                        try with_reducible rfl
                      try simp only [Act.put, List.setIfInBounds_toArray, List.set_cons_zero, List.set_cons_succ]
                      refine wpAnyH_take (i := 51) (oi := { dst := some 139, op := Op.fieldAddr 29 (Operand.tmp 5) 0, type := 0, pos := "law.go:48", after := #[{ on := 44, ground := Ground.guard }], guard := some (44, false) }) (v := ?v8306) rfl (by kernel_rfl) (by kernel_rfl) (by kernel_rfl) (fun _ _ _ h => h) (Or.inl ⟨by rfl, ?y8306⟩) (by assumption) ?r8306
                      case y8306 =>
                        intro w hSw
                        (try dsimp only at hSw)
                        go_simp
                        try with_reducible rfl
                      try simp only [Act.put, List.setIfInBounds_toArray, List.set_cons_zero, List.set_cons_succ]
                      refine wpAnyH_take (i := 52) (oi := { dst := some 140, op := Op.load 25 (Operand.tmp 139), type := 25, pos := "law.go:48", after := #[{ on := 51, ground := Ground.data }, { on := 44, ground := Ground.guard }], guard := some (44, false) }) (v := ?v8307) rfl (by kernel_rfl) (by kernel_rfl) (by kernel_rfl) (fun _ _ _ h => h) (Or.inl ⟨by rfl, ?y8307⟩) (by assumption) ?r8307
                      case y8307 =>
                        intro w hSw
                        (try dsimp only at hSw)
                        go_simp
                        try with_reducible rfl
                      try simp only [Act.put, List.setIfInBounds_toArray, List.set_cons_zero, List.set_cons_succ]
                      refine wpAnyH_take (i := 53) (oi := { dst := some 141, op := Op.move (Operand.tmp 7), type := 3, pos := "law.go:48", after := #[{ on := 44, ground := Ground.guard }], guard := some (44, false) }) (v := ?v8308) rfl (by kernel_rfl) (by kernel_rfl) (by kernel_rfl) (fun _ _ _ h => h) (Or.inl ⟨by rfl, ?y8308⟩) (by assumption) ?r8308
                      case y8308 =>
                        intro w hSw
                        (try dsimp only at hSw)
                        go_simp
                        try with_reducible rfl
                      try simp only [Act.put, List.setIfInBounds_toArray, List.set_cons_zero, List.set_cons_succ]
                      refine wpAnyH_take (i := 54) (oi := { dst := some 142, op := Op.indexAddr 25 (Operand.tmp 140) (Operand.tmp 141), type := 0, pos := "law.go:48", after := #[{ on := 52, ground := Ground.data }, { on := 53, ground := Ground.data }, { on := 44, ground := Ground.guard }], guard := some (44, false) }) (v := ?v8309) rfl (by kernel_rfl) (by kernel_rfl) (by kernel_rfl) (fun _ _ _ h => h) (Or.inl ⟨by rfl, ?y8309⟩) (by assumption) ?r8309
                      case y8309 =>
                        intro w hSw
                        (try dsimp only at hSw)
                        go_simp
                        try with_reducible rfl
                      try simp only [Act.put, List.setIfInBounds_toArray, List.set_cons_zero, List.set_cons_succ]
                      refine wpAnyH_take (i := 55) (oi := { dst := some 143, op := Op.load 27 (Operand.tmp 142), type := 27, pos := "law.go:48", after := #[{ on := 54, ground := Ground.data }, { on := 44, ground := Ground.guard }], guard := some (44, false) }) (v := ?v8310) rfl (by kernel_rfl) (by kernel_rfl) (by kernel_rfl) (fun _ _ _ h => h) (Or.inl ⟨by rfl, ?y8310⟩) (by assumption) ?r8310
                      case y8310 =>
                        intro w hSw
                        (try dsimp only at hSw)
                        go_simp
                        try with_reducible rfl
                      try simp only [Act.put, List.setIfInBounds_toArray, List.set_cons_zero, List.set_cons_succ]
                      refine wpAnyH_ready (rs := [50]) (by kernel_rfl) (by simp) ?_
                      refine AllReadyH.cons rfl (fun K hK => ?_) ?_
                      · go_simp
                        go_at_call 13
                        refine (A.sorted_any af1 lf cf1 fk Y3 HLB.out HLF.out (A.wd_below HY3.out HWF1.out) HUF.out).mono ?_
                        rintro e Y4 ⟨rfl, hy4⟩
                        have HY4 := A.hide (HY3.out.trans (hy4.mono HY3.out.size))
                        go_wp2_with fail
                        refine hK.out _ _ ?_ (fun hHeld => ?_)
                        · exact HS.out Y4 HY4.out
                        clear hK K
                        try simp only [Act.put, List.setIfInBounds_toArray, List.set_cons_zero, List.set_cons_succ]
                        refine wpAnyH_ready (rs := [56]) (by kernel_rfl) (by simp) ?_
                        refine AllReadyH.cons rfl (fun K hK => ?_) ?_
                        · go_simp
                          go_at_call 11
                          refine (A.ints_any af1 af2 lf lf cf1 cf2 fk fk Y4 HLB.out HLB.out HLF.out HLF.out (A.wd_below HY4.out HWF1.out) (A.wd_below HY4.out HWF2.out)).mono ?_
                          rintro e Y5 ⟨rfl, hy5⟩
                          rw [decide_eq_true (Eq.refl _)]
                          have HY5 := A.hide (HY4.out.trans (hy5.mono HY4.out.size))
                          go_wp2_with fail
                          refine hK.out _ _ ?_ (fun hHeld => ?_)
                          · exact HS.out Y5 HY5.out
                          clear hK K
                          try simp only [Act.put, List.setIfInBounds_toArray, List.set_cons_zero, List.set_cons_succ]
                          refine wpAnyH_take (i := 57) (oi := { dst := some 145, op := Op.unOp UnOp.not 4 (Operand.tmp 144), type := 4, pos := "law.go:48", after := #[{ on := 56, ground := Ground.data }, { on := 44, ground := Ground.guard }], guard := some (44, false) }) (v := ?v8311) rfl (by kernel_rfl) (by kernel_rfl) (by kernel_rfl) (fun _ _ _ h => h) (Or.inl ⟨by rfl, ?y8311⟩) (by assumption) ?r8311
                          case y8311 =>
                            intro w hSw
                            (try dsimp only at hSw)
                            go_simp
                            try with_reducible rfl
                          try simp only [Act.put, List.setIfInBounds_toArray, List.set_cons_zero, List.set_cons_succ]
                          refine wpAnyH_take (i := 58) (oi := { dst := some 146, op := Op.pick (Operand.tmp 132) (Operand.const (Value.bool true)) (Operand.tmp 145), type := 4, pos := "law.go:48", after := #[{ on := 44, ground := Ground.data }, { on := 57, ground := Ground.data }], guard := none }) (v := ?v8312) rfl (by kernel_rfl) (by kernel_rfl) (by kernel_rfl) (fun _ _ _ h => h) (Or.inl ⟨by rfl, ?y8312⟩) (by assumption) ?r8312
                          case y8312 =>
                            intro w hSw
                            (try dsimp only at hSw)
                            go_simp
                            try with_reducible rfl
                          try simp only [Act.put, List.setIfInBounds_toArray, List.set_cons_zero, List.set_cons_succ]
                          refine wpAnyH_done (by kernel_rfl) ?_ _
                          go_wp2
                          go_roundw
                          case rel => exact ⟨k + 1, by omega, by go_num, HY5.out⟩
                          case measure => simp [intOf]; omega
                        exact AllReadyH.nil
                      exact AllReadyH.nil
                    exact AllReadyH.nil
                  exact AllReadyH.nil
                exact AllReadyH.nil
              exact AllReadyH.nil
            refine AllReadyH.cons rfl (fun K hK => ?_) ?_
            · go_simp
              refine hK.out _ _ ?_ (fun hHeld => ?_)
              · exact HS.out _ HA1.out
              clear hK K
              try simp only [Act.put, List.setIfInBounds_toArray, List.set_cons_zero, List.set_cons_succ]
              refine wpAnyH_ready (rs := [35]) (by kernel_rfl) (by simp) ?_
              refine AllReadyH.cons rfl (fun K hK => ?_) ?_
              · go_simp
                refine hK.out _ _ ?_ (fun hHeld => ?_)
                · exact HS.out _ HA2.out
                clear hK K
                try simp only [Act.put, List.setIfInBounds_toArray, List.set_cons_zero, List.set_cons_succ]
                refine wpAnyH_ready (rs := [36]) (by kernel_rfl) (by simp) ?_
                refine AllReadyH.cons rfl (fun K hK => ?_) ?_
                · go_simp
                  go_at_call 12
                  refine (A.pstep_yes _ _ _ b3 N' c0 c1 c2 c3 fs' ss' ts' rs' _ 1 1 [(k : Int)] 3 ((wr.drew.alloc (.cells #[.int .i64 k] 3)).alloc (.cells #[.int .i64 k] 3)) HM.out (A.nm_below HA2.out HNM1.out) rfl (by decide) (by first | exact HWA2.out.1 | exact HWA2.out.2)).mono ?_
                  rintro e Y1 ⟨v1, rfl, ho1, hy1⟩
                  obtain ⟨ar1, cr1, rfl, hwr1⟩ := A.own_slice ho1
                  have HWR1a := A.hide hwr1
                  have HY1 := A.hide (HA2.out.trans (hy1.mono HA2.out.size))
                  have HWb := A.hide (And.intro (A.wd_below hy1 HWA2.out.1) (A.wd_below hy1 HWA2.out.2))
                  go_wp2_with fail
                  refine hK.out _ _ ?_ (fun hHeld => ?_)
                  · exact HS.out Y1 HY1.out
                  clear hK K
                  try simp only [Act.put, List.setIfInBounds_toArray, List.set_cons_zero, List.set_cons_succ]
                  refine wpAnyH_ready (rs := [40]) (by kernel_rfl) (by simp) ?_
                  refine AllReadyH.cons rfl (fun K hK => ?_) ?_
                  · go_simp
                    go_at_call 12
                    refine (A.pstep_yes _ _ _ d3 N' g0 g1 g2 g3 fs' ss' ts' rs' _ 1 1 [(k : Int)] 3 Y1 HM.out (A.nm_below HY1.out HNM2.out) rfl (by decide) (by first | exact HWb.out.1 | exact HWb.out.2)).mono ?_
                    rintro e Y2 ⟨v2, rfl, ho2, hy2⟩
                    obtain ⟨ar2, cr2, rfl, hwr2⟩ := A.own_slice ho2
                    have HWR2 := A.hide hwr2
                    have HY2 := A.hide (HY1.out.trans (hy2.mono HY1.out.size))
                    have HWR1 := A.hide (A.wd_below hy2 HWR1a.out)
                    go_wp2_with fail
                    refine hK.out _ _ ?_ (fun hHeld => ?_)
                    · exact HS.out Y2 HY2.out
                    clear hK K
                    try simp only [Act.put, List.setIfInBounds_toArray, List.set_cons_zero, List.set_cons_succ]
                    refine wpAnyH_ready (rs := [41]) (by kernel_rfl) (by simp) ?_
                    refine AllReadyH.cons rfl (fun K hK => ?_) ?_
                    · go_simp
                      go_at_call 11
                      refine (A.ints_any ar1 ar2 _ _ cr1 cr2 (A.lstL (A.stpB ss' ts' 3 (A.tblB [(k : Int)] 1) N') N') (A.lstL (A.stpB ss' ts' 3 (A.tblB [(k : Int)] 1) N') N') Y2 (HSL.out _) (HSL.out _) rfl rfl HWR1.out HWR2.out).mono ?_
                      rintro e Y3 ⟨rfl, hy3⟩
                      rw [decide_eq_true (Eq.refl _)]
                      have HY3 := A.hide (HY2.out.trans (hy3.mono HY2.out.size))
                      go_wp2_with fail
                      refine hK.out _ _ ?_ (fun hHeld => ?_)
                      · exact HS.out Y3 HY3.out
                      clear hK K
                      try simp only [Act.put, List.setIfInBounds_toArray, List.set_cons_zero, List.set_cons_succ]
                      refine wpAnyH_take (i := 42) (oi := { dst := some 130, op := Op.unOp UnOp.not 4 (Operand.tmp 129), type := 4, pos := "law.go:48", after := #[{ on := 41, ground := Ground.data }, { on := 32, ground := Ground.guard }], guard := some (32, false) }) (v := ?v9298) rfl (by kernel_rfl) (by kernel_rfl) (by kernel_rfl) (fun _ _ _ h => h) (Or.inl ⟨by rfl, ?y9298⟩) (by assumption) ?r9298
                      case y9298 =>
                        intro w hSw
                        (try dsimp only at hSw)
                        go_simp
                        try with_reducible rfl
                      try simp only [Act.put, List.setIfInBounds_toArray, List.set_cons_zero, List.set_cons_succ]
                      refine wpAnyH_take (i := 43) (oi := { dst := some 131, op := Op.pick (Operand.tmp 120) (Operand.const (Value.bool true)) (Operand.tmp 130), type := 4, pos := "law.go:48", after := #[{ on := 32, ground := Ground.data }, { on := 42, ground := Ground.data }], guard := none }) (v := ?v9299) rfl (by kernel_rfl) (by kernel_rfl) (by kernel_rfl) (fun _ _ _ h => h) (Or.inl ⟨by rfl, ?y9299⟩) (by assumption) ?r9299
                      case y9299 =>
                        intro w hSw
                        (try dsimp only at hSw)
                        go_simp
                        try with_reducible rfl
                      try simp only [Act.put, List.setIfInBounds_toArray, List.set_cons_zero, List.set_cons_succ]
                      refine wpAnyH_take (i := 44) (oi := { dst := some 132, op := Op.move (Operand.tmp 131), type := 4, pos := "law.go:48", after := #[{ on := 43, ground := Ground.data }, { on := 41, ground := Ground.chain }], guard := none }) (v := ?v9300) rfl (by kernel_rfl) (by kernel_rfl) (by kernel_rfl) (fun _ _ _ h => h) (Or.inl ⟨by rfl, ?y9300⟩) (by assumption) ?r9300
                      case y9300 =>
                        intro w hSw
                        (try dsimp only at hSw)
                        go_simp
                        try with_reducible rfl
                      try simp only [Act.put, List.setIfInBounds_toArray, List.set_cons_zero, List.set_cons_succ]
                      refine wpAnyH_take (i := 45) (oi := { dst := some 133, op := Op.fieldAddr 29 (Operand.tmp 3) 0, type := 0, pos := "law.go:48", after := #[{ on := 44, ground := Ground.guard }], guard := some (44, false) }) (v := ?v9301) rfl (by kernel_rfl) (by kernel_rfl) (by kernel_rfl) (fun _ _ _ h => h) (Or.inl ⟨by rfl, ?y9301⟩) (by assumption) ?r9301
                      case y9301 =>
                        intro w hSw
                        (try dsimp only at hSw)
                        go_simp
                        try with_reducible rfl
                      try simp only [Act.put, List.setIfInBounds_toArray, List.set_cons_zero, List.set_cons_succ]
                      refine wpAnyH_take (i := 46) (oi := { dst := some 134, op := Op.load 25 (Operand.tmp 133), type := 25, pos := "law.go:48", after := #[{ on := 45, ground := Ground.data }, { on := 44, ground := Ground.guard }], guard := some (44, false) }) (v := ?v9302) rfl (by kernel_rfl) (by kernel_rfl) (by kernel_rfl) (fun _ _ _ h => h) (Or.inl ⟨by rfl, ?y9302⟩) (by assumption) ?r9302
                      case y9302 =>
                        intro w hSw
                        (try dsimp only at hSw)
                        go_simp
                        try with_reducible rfl
                      try simp only [Act.put, List.setIfInBounds_toArray, List.set_cons_zero, List.set_cons_succ]
                      refine wpAnyH_take (i := 47) (oi := { dst := some 135, op := Op.move (Operand.tmp 7), type := 3, pos := "law.go:48", after := #[{ on := 44, ground := Ground.guard }], guard := some (44, false) }) (v := ?v9303) rfl (by kernel_rfl) (by kernel_rfl) (by kernel_rfl) (fun _ _ _ h => h) (Or.inl ⟨by rfl, ?y9303⟩) (by assumption) ?r9303
                      case y9303 =>
                        intro w hSw
                        (try dsimp only at hSw)
                        go_simp
                        try with_reducible rfl
                      try simp only [Act.put, List.setIfInBounds_toArray, List.set_cons_zero, List.set_cons_succ]
                      refine wpAnyH_take (i := 48) (oi := { dst := some 136, op := Op.indexAddr 25 (Operand.tmp 134) (Operand.tmp 135), type := 0, pos := "law.go:48", after := #[{ on := 46, ground := Ground.data }, { on := 47, ground := Ground.data }, { on := 44, ground := Ground.guard }], guard := some (44, false) }) (v := ?v9304) rfl (by kernel_rfl) (by kernel_rfl) (by kernel_rfl) (fun _ _ _ h => h) (Or.inl ⟨by rfl, ?y9304⟩) (by assumption) ?r9304
                      case y9304 =>
                        intro w hSw
                        (try dsimp only at hSw)
                        go_simp
                        try with_reducible rfl
                      try simp only [Act.put, List.setIfInBounds_toArray, List.set_cons_zero, List.set_cons_succ]
                      refine wpAnyH_take (i := 49) (oi := { dst := some 137, op := Op.load 27 (Operand.tmp 136), type := 27, pos := "law.go:48", after := #[{ on := 48, ground := Ground.data }, { on := 44, ground := Ground.guard }], guard := some (44, false) }) (v := ?v9305) rfl (by kernel_rfl) (by kernel_rfl) (by kernel_rfl) (fun _ _ _ h => h) (Or.inl ⟨by rfl, ?y9305⟩) (by assumption) ?r9305
                      case y9305 =>
                        intro w hSw
                        (try dsimp only at hSw)
                        go_simp
                        try with_reducible rfl
                      try simp only [Act.put, List.setIfInBounds_toArray, List.set_cons_zero, List.set_cons_succ]
                      refine wpAnyH_take (i := 51) (oi := { dst := some 139, op := Op.fieldAddr 29 (Operand.tmp 5) 0, type := 0, pos := "law.go:48", after := #[{ on := 44, ground := Ground.guard }], guard := some (44, false) }) (v := ?v9306) rfl (by kernel_rfl) (by kernel_rfl) (by kernel_rfl) (fun _ _ _ h => h) (Or.inl ⟨by rfl, ?y9306⟩) (by assumption) ?r9306
                      case y9306 =>
                        intro w hSw
                        (try dsimp only at hSw)
                        go_simp
                        try with_reducible rfl
                      try simp only [Act.put, List.setIfInBounds_toArray, List.set_cons_zero, List.set_cons_succ]
                      refine wpAnyH_take (i := 52) (oi := { dst := some 140, op := Op.load 25 (Operand.tmp 139), type := 25, pos := "law.go:48", after := #[{ on := 51, ground := Ground.data }, { on := 44, ground := Ground.guard }], guard := some (44, false) }) (v := ?v9307) rfl (by kernel_rfl) (by kernel_rfl) (by kernel_rfl) (fun _ _ _ h => h) (Or.inl ⟨by rfl, ?y9307⟩) (by assumption) ?r9307
                      case y9307 =>
                        intro w hSw
                        (try dsimp only at hSw)
                        go_simp
                        try with_reducible rfl
                      try simp only [Act.put, List.setIfInBounds_toArray, List.set_cons_zero, List.set_cons_succ]
                      refine wpAnyH_take (i := 53) (oi := { dst := some 141, op := Op.move (Operand.tmp 7), type := 3, pos := "law.go:48", after := #[{ on := 44, ground := Ground.guard }], guard := some (44, false) }) (v := ?v9308) rfl (by kernel_rfl) (by kernel_rfl) (by kernel_rfl) (fun _ _ _ h => h) (Or.inl ⟨by rfl, ?y9308⟩) (by assumption) ?r9308
                      case y9308 =>
                        intro w hSw
                        (try dsimp only at hSw)
                        go_simp
                        try with_reducible rfl
                      try simp only [Act.put, List.setIfInBounds_toArray, List.set_cons_zero, List.set_cons_succ]
                      refine wpAnyH_take (i := 54) (oi := { dst := some 142, op := Op.indexAddr 25 (Operand.tmp 140) (Operand.tmp 141), type := 0, pos := "law.go:48", after := #[{ on := 52, ground := Ground.data }, { on := 53, ground := Ground.data }, { on := 44, ground := Ground.guard }], guard := some (44, false) }) (v := ?v9309) rfl (by kernel_rfl) (by kernel_rfl) (by kernel_rfl) (fun _ _ _ h => h) (Or.inl ⟨by rfl, ?y9309⟩) (by assumption) ?r9309
                      case y9309 =>
                        intro w hSw
                        (try dsimp only at hSw)
                        go_simp
                        try with_reducible rfl
                      try simp only [Act.put, List.setIfInBounds_toArray, List.set_cons_zero, List.set_cons_succ]
                      refine wpAnyH_take (i := 55) (oi := { dst := some 143, op := Op.load 27 (Operand.tmp 142), type := 27, pos := "law.go:48", after := #[{ on := 54, ground := Ground.data }, { on := 44, ground := Ground.guard }], guard := some (44, false) }) (v := ?v9310) rfl (by kernel_rfl) (by kernel_rfl) (by kernel_rfl) (fun _ _ _ h => h) (Or.inl ⟨by rfl, ?y9310⟩) (by assumption) ?r9310
                      case y9310 =>
                        intro w hSw
                        (try dsimp only at hSw)
                        go_simp
                        try with_reducible rfl
                      try simp only [Act.put, List.setIfInBounds_toArray, List.set_cons_zero, List.set_cons_succ]
                      refine wpAnyH_ready (rs := [50]) (by kernel_rfl) (by simp) ?_
                      refine AllReadyH.cons rfl (fun K hK => ?_) ?_
                      · go_simp
                        go_at_call 13
                        refine (A.sorted_any af1 lf cf1 fk Y3 HLB.out HLF.out (A.wd_below HY3.out HWF1.out) HUF.out).mono ?_
                        rintro e Y4 ⟨rfl, hy4⟩
                        have HY4 := A.hide (HY3.out.trans (hy4.mono HY3.out.size))
                        go_wp2_with fail
                        refine hK.out _ _ ?_ (fun hHeld => ?_)
                        · exact HS.out Y4 HY4.out
                        clear hK K
                        try simp only [Act.put, List.setIfInBounds_toArray, List.set_cons_zero, List.set_cons_succ]
                        refine wpAnyH_ready (rs := [56]) (by kernel_rfl) (by simp) ?_
                        refine AllReadyH.cons rfl (fun K hK => ?_) ?_
                        · go_simp
                          go_at_call 11
                          refine (A.ints_any af1 af2 lf lf cf1 cf2 fk fk Y4 HLB.out HLB.out HLF.out HLF.out (A.wd_below HY4.out HWF1.out) (A.wd_below HY4.out HWF2.out)).mono ?_
                          rintro e Y5 ⟨rfl, hy5⟩
                          rw [decide_eq_true (Eq.refl _)]
                          have HY5 := A.hide (HY4.out.trans (hy5.mono HY4.out.size))
                          go_wp2_with fail
                          refine hK.out _ _ ?_ (fun hHeld => ?_)
                          · exact HS.out Y5 HY5.out
                          clear hK K
                          try simp only [Act.put, List.setIfInBounds_toArray, List.set_cons_zero, List.set_cons_succ]
                          refine wpAnyH_take (i := 57) (oi := { dst := some 145, op := Op.unOp UnOp.not 4 (Operand.tmp 144), type := 4, pos := "law.go:48", after := #[{ on := 56, ground := Ground.data }, { on := 44, ground := Ground.guard }], guard := some (44, false) }) (v := ?v9311) rfl (by kernel_rfl) (by kernel_rfl) (by kernel_rfl) (fun _ _ _ h => h) (Or.inl ⟨by rfl, ?y9311⟩) (by assumption) ?r9311
                          case y9311 =>
                            intro w hSw
                            (try dsimp only at hSw)
                            go_simp
                            try with_reducible rfl
                          try simp only [Act.put, List.setIfInBounds_toArray, List.set_cons_zero, List.set_cons_succ]
                          refine wpAnyH_take (i := 58) (oi := { dst := some 146, op := Op.pick (Operand.tmp 132) (Operand.const (Value.bool true)) (Operand.tmp 145), type := 4, pos := "law.go:48", after := #[{ on := 44, ground := Ground.data }, { on := 57, ground := Ground.data }], guard := none }) (v := ?v9312) rfl (by kernel_rfl) (by kernel_rfl) (by kernel_rfl) (fun _ _ _ h => h) (Or.inl ⟨by rfl, ?y9312⟩) (by assumption) ?r9312
                          case y9312 =>
                            intro w hSw
                            (try dsimp only at hSw)
                            go_simp
                            try with_reducible rfl
                          try simp only [Act.put, List.setIfInBounds_toArray, List.set_cons_zero, List.set_cons_succ]
                          refine wpAnyH_done (by kernel_rfl) ?_ _
                          go_wp2
                          go_roundw
                          case rel => exact ⟨k + 1, by omega, by go_num, HY5.out⟩
                          case measure => simp [intOf]; omega
                        exact AllReadyH.nil
                      exact AllReadyH.nil
                    exact AllReadyH.nil
                  exact AllReadyH.nil
                exact AllReadyH.nil
              exact AllReadyH.nil
            exact AllReadyH.nil
        · have e : k = N' := by omega
          subst e
          go_wp2
          go_ret
          exact ⟨rfl, HBV.out.trans (HBW.out.mono HBV.out.size)⟩
  · clear hg
    go_wp2
    go_ret
    exact ⟨rfl, HB2.out⟩

set_option maxRecDepth 100000 in
theorem lifted (os : Os) (started : os.Started) (H : Type) (enc : TypeId × Value → H) :
    ReturnsInHanded {} Try.checked os 3 .any (Rows.nfaBuildsSpec.pre6 enc Try.prog Try.f3 Rows.nfaBuildsRow.domain false) (Rows.nfaBuildsSpec.post enc Try.prog Try.f3 false true false false) := by
  refine returnsInHanded_of_change (C := Try.checked) own started (by kernel_rfl) Try.func3
    (ChangeSpec.witness6 (enc := enc) (C := Try.checked) false ⟨#[], #[.slice none 0 0], []⟩ 8 (by kernel_rfl) (by kernel_rfl) (by kernel_rfl) (by kernel_rfl)) ?_
  intro W base args ds gs before hval0 hW hcnd _
  have hval : ∀ (j : Nat) t v, Try.f3.params[j]? = some t → args[j]? = some v → Value.okWide Try.prog W .any base t v := hval0
  have hW' := hW
  obtain ⟨p, q, hA0, hV, rfl, hfz, hnd⟩ := hW
  have hA : DataW.TrodAll enc Try.prog W 0 (fun _ => true) true Try.f3.params.toList args.toList ds p := hA0
  rw [Try.params3] at hA hval
  obtain ⟨v0, vs0, d0, ds0, p0, q0, hargs, rfl, rfl, h0, r0⟩ := trodAll_cons hA
  obtain ⟨rfl, rfl, rfl⟩ := trodAll_nil r0
  obtain rfl : args = #[v0] := by cases args; simp_all
  obtain ⟨rfl, rfl⟩ := trodVars_none hV
  obtain ⟨a0, len0, cap0, rfl⟩ := okWide_slice Try.underlying22 (hval 0 22 v0 rfl rfl)
  have k0 := h0
  have lt0 : ∀ x ∈ p0, x.block < W.heap.size := by obtain ⟨m, hm⟩ := k0; exact DataW.trod_lt m _ _ _ hm
  obtain ⟨n0, t0, w0, e0, l0, m0⟩ : ∃ (n : Nat) (l : List (A.Ex n)), A.Exs W n a0 l ∧ l.length = len0 ∧ len0 ≤ cap0 ∧ cap0 ≤ maxLen := by obtain ⟨fuel, hf⟩ := h0; exact A.open_list hf
  clear hA0 hval0
  refine (walk a0 len0 cap0 n0 t0 W w0 e0 l0 m0).mono fun e W' ⟨he, bel⟩ => ?_
  subst he
  exact ⟨_, rfl, _, _, _, [], _, [], hW', trodAll_mk1 (shut_bool Try.underlying4 _), (trodAll_cons_mk (Below.trod laidOut (by kernel_rfl) (of_decide_eq_true (by kernel_rfl)) k0 bel lt0) trodAll_mk0), rfl, bel.frame _, fun h => by cases h⟩

theorem over : Rows.nfaBuildsRow.holds Try.pinned (OpenSpec.ofChange Rows.nfaBuildsSpec) :=
  OpenClaim.holds_of_wide 3 Try.f3 rfl rfl rfl rfl rfl rfl rfl ⟨rfl, rfl, rfl, rfl, rfl⟩ rfl rfl rfl rfl rfl (by kernel_rfl) Try.func3 (by kernel_rfl)
    (of_decide_eq_true (by kernel_rfl)) (by unfold Func.isWrapper; first | (rw [if_pos (by decide +kernel)]; kernel_rfl) | (rw [if_neg (by decide +kernel)]; exact ⟨rfl, rfl⟩))
    (fun os started H enc _ => lifted os started H enc)

/-- The statement. -/
theorem proved : Rows.NfaBuildsSaid := over
#print axioms proved
end Go.Proofs.Ytldeofdjhpfdaaa.nfaBuilds
