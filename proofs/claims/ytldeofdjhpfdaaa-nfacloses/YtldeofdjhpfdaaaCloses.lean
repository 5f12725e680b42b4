/-
  What is closed has all that it is of, and closing it again turns nothing.
  Conditions: none.
-/
import Derived.Test.YtldeofdjhpfdaaaV5
import Derived.OpenShut
import Derived.ShutString
import Derived.ChangeOld
import Derived.Below
namespace Go.Proofs.Ytldeofdjhpfdaaa.nfaCloses
open Go.ChangeShapes Go.WideShapes Go.ChangeAt Go.RowKit
open Go.ChangeMaps (open_string shut_string)
set_option linter.unusedVariables false

theorem own : ownKnob Try.prog.godebug = none := by kernel_rfl
theorem laidOut : laidOutB Try.prog = true := by kernel_rfl

set_option maxRecDepth 100000 in
set_option maxHeartbeats 12800000 in
theorem walk (a0 : Option Addr) (len0 cap0 n0 : Nat) (t0 : List (A.Ex n0)) (a1 : Option Addr) (len1 cap1 : Nat) (z1 : List Int) (w : World) (w0 : A.Exs w n0 a0 t0) (e0 : t0.length = len0) (l0 : len0 ≤ cap0) (m0 : cap0 ≤ maxLen) (w1 : A.Wd w a1 z1) (e1 : z1.length = len1) (l1 : len1 ≤ cap1) (m1 : cap1 ≤ maxLen) :
    Calls Try.prog 6 #[.slice a0 len0 cap0, .slice a1 len1 cap1] w fun e w' => e = .returned (.bool true) ∧ Below w.heap.size w w' := by
  have hlm : len0 ≤ maxLen := Nat.le_trans l0 m0
  have HLM := A.hide hlm
  have HK := A.hide (A.exs_kids w0 e0)
  have HW := A.hide w1
  have HE := A.hide e0
  have HE1 := A.hide e1
  have hl1 : len1 ≤ maxLen := Nat.le_trans l1 m1
  unfold maxLen at hl1 hlm
  clear w0 w1 e0 l0 m0 e1 l1 m1
  go_enter Try.func6, Try.ntmps6
  go_wp2_with fail
  refine (A.alive_any w).mono ?_
  rintro e X1 ⟨rfl, hb1⟩
  have HB1 := A.hide hb1
  clear hb1
  go_wp2_with fail
  refine (A.great_any n0 a0 len0 cap0 t0 X1 HLM.out HE.out (A.kids_below HB1.out HK.out)).mono ?_
  rintro e X2 ⟨rfl, hb2⟩
  have HB2 := A.hide (HB1.out.trans (hb2.mono HB1.out.size))
  clear hb2 HB1
  cases hg : A.greatL t0
  · by_cases hl : 50 < len1
    · have d1 : decide ((50 : Int) < (len1 : Int)) = true := by simp; omega
      clear hg
      go_wp2
      go_ret
      exact ⟨rfl, HB2.out⟩
    · have d1 : decide ((50 : Int) < (len1 : Int)) = false := by simp; omega
      clear hg
      go_wp2_with fail
      cases hm : A.mayB t0
      · refine (A.build_no n0 a0 len0 cap0 t0 X2 HLM.out HE.out (A.kids_below HB2.out HK.out) hm).mono ?_
        rintro e X3 ⟨rfl, hb3⟩
        have HB3 := A.hide (HB2.out.trans (hb3.mono HB2.out.size))
        unfold A.noM
        clear hb3 hm
        go_wp2
        go_ret
        exact ⟨rfl, (HB3.out.alloc HB3.out.size _)⟩
      · refine (A.build_yes n0 a0 len0 cap0 t0 X2 HLM.out HE.out (A.kids_below HB2.out HK.out) hm).mono ?_
        rintro e X3 ⟨b0, b1, b2, b3, N, c0, c1, c2, c3, fs, ss, ts, rs, rfl, hnm, hi, hr, hrl, hN, hN3, hb3⟩
        obtain ⟨hl1', hl16, hful, hsh⟩ := A.may_open hm HK.out HE.out
        have HM := A.hide (A.build_mach hful HE.out hl16 hi hr hrl hN hN3)
        have HB3 := A.hide (HB2.out.trans (hb3.mono HB2.out.size))
        have HNM := A.hide (A.nm_below ((Below.refl X3.heap.size X3).alloc (Nat.le_refl _) (.cells #[.slice b0 N c0, .slice b1 N c1, .slice b2 N c2, .slice b3 N c3] 29)) hnm)
        have HX := A.hide (A.bx_new X3 (.slice b0 N c0) (.slice b1 N c1) (.slice b2 N c2) (.slice b3 N c3))
        have HB4 := A.hide (HB3.out.alloc HB3.out.size (.cells #[.slice b0 N c0, .slice b1 N c1, .slice b2 N c2, .slice b3 N c3] 29))
        have HZ := A.hide (show X3.heap.size < (X3.alloc (.cells #[.slice b0 N c0, .slice b1 N c1, .slice b2 N c2, .slice b3 N c3] 29)).heap.size by simp)
        clear hnm hi hr hrl hN hb3 hful hsh hm
        obtain ⟨p0, p1, p2, p3⟩ := A.bx_of HX.out
        go_wp2_with fail
        generalize X3.alloc (.cells #[.slice b0 N c0, .slice b1 N c1, .slice b2 N c2, .slice b3 N c3] 29) = W at *
        generalize X3.heap.size = P at *
        refine (A.pclose_yes b0 b1 b2 b3 N c0 c1 c2 c3 fs ss ts rs a1 len1 cap1 z1 W HM.out HNM.out HE1.out (by unfold maxLen; omega) (A.wd_below HB4.out HW.out)).mono ?_
        rintro e X4 ⟨g, v, hcl, rfl, ho, hb⟩
        have HCL := A.hide hcl
        obtain ⟨ac, cc, rfl, hWc⟩ := A.own_slice ho
        have HWC := A.hide hWc
        have hml := A.lstL_le g N
        obtain ⟨m, hmm⟩ : ∃ m, (A.lstL g N).length = m := ⟨_, rfl⟩
        rw [hmm] at hml ⊢
        have HMM := A.hide hmm
        have HB5 := A.hide hb
        clear hcl ho hb hWc hmm p0 p1 p2 p3
        go_wp2_with fail
        go_loopw [8, 9, 10] (fun i _ _ wr => ∃ (k : Nat), k ≤ len1 ∧ i = .int .i64 k ∧ Below X4.heap.size X4 wr) (fun i _ _ _ => len1 - (intOf i).toNat)
        case atStart => exact ⟨0, Nat.zero_le _, rfl, Below.refl _ _⟩
        case round =>
          obtain ⟨k, hk, rfl, hb⟩ := hrel
          have HBW := A.hide hb
          have HBP := A.hide (HB5.out.trans (hb.mono HB5.out.size))
          have HBU := A.hide (HB4.out.trans (HBP.out.mono HB4.out.size))
          clear hb
          obtain ⟨p0, p1, p2, p3⟩ := A.bx_of (A.bx_below HBP.out HZ.out HX.out)
          by_cases hlt : k < len1
          · obtain ⟨z, hz⟩ : ∃ z, z1[k]? = some z := ⟨_, List.getElem?_eq_getElem (by rw [HE1.out]; exact hlt)⟩
            obtain ⟨bz, oz, rfl, kz⟩ := A.wd_below HBU.out HW.out k z hz
            have HZZ := A.hide (List.mem_of_getElem? hz)
            have i3 : (0 : Int) ≤ (k : Int) := by omega
            have i4 : (k : Int) < (len1 : Int) := by omega
            have HBVZ := A.hide (show ∀ wr2, Below X4.heap.size X4 wr2 → wr2.cell? ⟨bz, oz + k, none⟩ = some (.int .i64 z) from fun wr2 hb2 => by
              obtain ⟨b', o', e, kk⟩ := A.wd_below (HB4.out.trans ((HB5.out.trans (hb2.mono HB5.out.size)).mono HB4.out.size)) HW.out k z hz
              cases e
              exact kk)
            clear hz
            obtain ⟨t, ht, hcase⟩ : ∃ t : Bool, (t = true ∨ ((t || (A.lstL g N).any (fun y => y == z)) = true)) ∧ ((decide (z < 0) = true ∧ t = true) ∨ (decide (z < 0) = false ∧ decide ((N : Int) ≤ z) = true ∧ t = true) ∨ (decide (z < 0) = false ∧ decide ((N : Int) ≤ z) = false ∧ t = false)) := by
              by_cases q1 : z < 0
              · exact ⟨true, .inl rfl, .inl ⟨by simp [q1], rfl⟩⟩
              · by_cases q2 : (N : Int) ≤ z
                · exact ⟨true, .inl rfl, .inr (.inl ⟨by simp [q1], by simp [q2], rfl⟩)⟩
                · refine ⟨false, .inr ?_, .inr (.inr ⟨by simp; omega, by simp; omega, rfl⟩)⟩
                  rw [Bool.false_or, List.any_eq_true]
                  exact ⟨z, A.cl_has (by rw [HE1.out]; exact HCL.out) HZZ.out (by omega) (by omega), by simp⟩
            have HT := A.hide ht
            clear ht
            rcases hcase with ⟨q1, rfl⟩ | ⟨q1, q2, rfl⟩ | ⟨q1, q2, rfl⟩
            all_goals
              go_wp2
              go_quiet (fail)
              go_wp2_with fail
              go_loopw [9, 10] (fun u i wr2 => ∃ (k2 : Nat) (b : Bool), k2 ≤ m ∧ i = .int .i64 k2 ∧ u = .bool b ∧ (b || ((A.lstL g N).drop k2).any (fun y => y == z)) = true ∧ Below X4.heap.size X4 wr2) (fun _ i _ => m - (intOf i).toNat)
              case atStart => exact ⟨0, _, Nat.zero_le _, rfl, rfl, by rw [List.drop_zero]; rcases HT.out with h | h <;> simp_all, A.below_drewN HBW.out _⟩
              case round =>
                obtain ⟨k2, b, hk2, rfl, rfl, hbb, hb2⟩ := hrel
                have HBB := A.hide hbb
                have HBV := A.hide hb2
                have HBP2 := A.hide (HB5.out.trans (hb2.mono HB5.out.size))
                have HBU2 := A.hide (HB4.out.trans (HBP2.out.mono HB4.out.size))
                clear hbb hb2
                by_cases hlt2 : k2 < m
                · obtain ⟨y, hy⟩ : ∃ y, (A.lstL g N)[k2]? = some y := ⟨_, List.getElem?_eq_getElem (by rw [HMM.out]; exact hlt2)⟩
                  obtain ⟨by_, oy, rfl, ky⟩ := A.wd_below HBV.out HWC.out k2 y hy
                  have kz2 := HBVZ.out _ HBV.out
                  have HDR := A.hide (show (A.lstL g N).drop k2 = y :: (A.lstL g N).drop (k2 + 1) from by
                    obtain ⟨h1, h2⟩ := List.getElem?_eq_some_iff.1 hy
                    rw [List.drop_eq_getElem_cons h1, h2])
                  have j3 : (0 : Int) ≤ (k2 : Int) := by omega
                  have j4 : (k2 : Int) < (m : Int) := by omega
                  clear hy
                  cases b
                  · by_cases e : y = z
                    · have d : (y == z) = true := by simp [e]
                      clear e
                      go_wp2
                      go_quiet (fail)
                      go_wp2
                      go_roundw
                      case rel => exact ⟨k2 + 1, true, by omega, by go_num, rfl, by simp, A.below_drewN HBV.out _⟩
                      case measure => simp [intOf]; omega
                    · have d : (y == z) = false := by simp [e]
                      clear e
                      have HNX := A.hide (show (false || ((A.lstL g N).drop (k2 + 1)).any (fun y => y == z)) = true from by
                        have := HBB.out
                        rw [HDR.out, List.any_cons, d] at this
                        simpa using this)
                      go_wp2
                      go_quiet (fail)
                      go_wp2
                      go_roundw
                      case rel => exact ⟨k2 + 1, false, by omega, by go_num, rfl, HNX.out, A.below_drewN HBV.out _⟩
                      case measure => simp [intOf]; omega
                  · go_wp2
                    go_quiet (fail)
                    go_wp2
                    go_roundw
                    case rel => exact ⟨k2 + 1, true, by omega, by go_num, rfl, by simp, A.below_drewN HBV.out _⟩
                    case measure => simp [intOf]; omega
                · have e : k2 = m := by omega
                  subst e
                  obtain rfl : b = true := by
                    have := HBB.out
                    rw [List.drop_of_length_le (by have := HMM.out; omega)] at this
                    simpa using this
                  go_wp2
                  go_roundw
                  case rel => exact ⟨k + 1, by omega, by go_num, HBV.out⟩
                  case measure => simp [intOf]; omega
          · have e : k = len1 := by omega
            subst e
            go_wp2_with fail
            refine (A.pclose_yes b0 b1 b2 b3 N c0 c1 c2 c3 fs ss ts rs ac m cc (A.lstL g N) wr HM.out (A.nm_below HBP.out HNM.out) HMM.out (by unfold maxLen; omega) (A.wd_below HBW.out HWC.out)).mono ?_
            rintro e X6 ⟨g2, v2, hcl2, rfl, ho2, hb6⟩
            have HEQ := A.hide (A.cl_again HCL.out HM.out.free (by rw [HMM.out]; exact hcl2))
            rw [HEQ.out] at ho2
            obtain ⟨ac2, cc2, rfl, hWc2⟩ := A.own_slice ho2
            rw [HMM.out]
            have HWC2 := A.hide hWc2
            have HB6 := A.hide (HBW.out.trans (hb6.mono HBW.out.size))
            have HB6W := A.hide (HBU.out.trans (hb6.mono HBU.out.size))
            clear hcl2 ho2 hb6 hWc2 p0 p1 p2 p3
            go_wp2_with fail
            refine (A.ints_any ac2 ac m m cc2 cc (A.lstL g N) (A.lstL g N) X6 (by omega) (by omega) HMM.out HMM.out HWC2.out (A.wd_below HB6.out HWC.out)).mono ?_
            rintro e X7 ⟨rfl, hb7⟩
            have HB7 := A.hide (HB6W.out.trans (hb7.mono HB6W.out.size))
            clear hb7
            go_wp2
            go_ret
            exact ⟨by simp, HB7.out⟩
  · clear hg
    go_wp2
    go_ret
    exact ⟨rfl, HB2.out⟩

set_option maxRecDepth 100000 in
theorem lifted (os : Os) (started : os.Started) (H : Type) (enc : TypeId × Value → H) :
    ReturnsInHanded {} Try.checked os 6 .any (Rows.nfaClosesSpec.pre6 enc Try.prog Try.f6 Rows.nfaClosesRow.domain false) (Rows.nfaClosesSpec.post enc Try.prog Try.f6 false true false false) := by
  refine returnsInHanded_of_change (C := Try.checked) own started (by kernel_rfl) Try.func6
    (ChangeSpec.witness6 (enc := enc) (C := Try.checked) false ⟨#[], #[.slice none 0 0, .slice none 0 0], []⟩ 8 (by kernel_rfl) (by kernel_rfl) (by kernel_rfl) (by kernel_rfl)) ?_
  intro W base args ds gs before hval0 hW hcnd _
  have hval : ∀ (j : Nat) t v, Try.f6.params[j]? = some t → args[j]? = some v → Value.okWide Try.prog W .any base t v := hval0
  have hW' := hW
  obtain ⟨p, q, hA0, hV, rfl, hfz, hnd⟩ := hW
  have hA : DataW.TrodAll enc Try.prog W 0 (fun _ => true) true Try.f6.params.toList args.toList ds p := hA0
  rw [Try.params6] at hA hval
  obtain ⟨v0, vs0, d0, ds0, p0, q0, hargs, rfl, rfl, h0, r0⟩ := trodAll_cons hA
  obtain ⟨v1, vs1, d1, ds1, p1, q1, rfl, rfl, rfl, h1, r1⟩ := trodAll_cons r0
  obtain ⟨rfl, rfl, rfl⟩ := trodAll_nil r1
  obtain rfl : args = #[v0, v1] := by cases args; simp_all
  obtain ⟨rfl, rfl⟩ := trodVars_none hV
  obtain ⟨a0, len0, cap0, rfl⟩ := okWide_slice Try.underlying22 (hval 0 22 v0 rfl rfl)
  have k0 := h0
  have lt0 : ∀ x ∈ p0, x.block < W.heap.size := by obtain ⟨m, hm⟩ := k0; exact DataW.trod_lt m _ _ _ hm
  obtain ⟨n0, t0, w0, e0, l0, m0⟩ : ∃ (n : Nat) (l : List (A.Ex n)), A.Exs W n a0 l ∧ l.length = len0 ∧ len0 ≤ cap0 ∧ cap0 ≤ maxLen := by obtain ⟨fuel, hf⟩ := h0; exact A.open_list hf
  obtain ⟨a1, len1, cap1, rfl⟩ := okWide_slice Try.underlying27 (hval 1 27 v1 rfl rfl)
  have k1 := h1
  have lt1 : ∀ x ∈ p1, x.block < W.heap.size := by obtain ⟨m, hm⟩ := k1; exact DataW.trod_lt m _ _ _ hm
  obtain ⟨z1, w1, e1, l1, m1⟩ : ∃ zs : List Int, A.Wd W a1 zs ∧ zs.length = len1 ∧ len1 ≤ cap1 ∧ cap1 ≤ maxLen := by obtain ⟨fuel, hf⟩ := h1; exact A.open_words hf
  clear hA0 hval0
  refine (walk a0 len0 cap0 n0 t0 a1 len1 cap1 z1 W w0 e0 l0 m0 w1 e1 l1 m1).mono fun e W' ⟨he, bel⟩ => ?_
  subst he
  exact ⟨_, rfl, _, _, _, [], _, [], hW', trodAll_mk1 (shut_bool Try.underlying4 _), (trodAll_cons_mk (Below.trod laidOut (by kernel_rfl) (of_decide_eq_true (by kernel_rfl)) k0 bel lt0) (trodAll_cons_mk (Below.trod laidOut (by kernel_rfl) (of_decide_eq_true (by kernel_rfl)) k1 bel lt1) trodAll_mk0)), rfl, bel.frame _, fun h => by cases h⟩

theorem over : Rows.nfaClosesRow.holds Try.pinned (OpenSpec.ofChange Rows.nfaClosesSpec) :=
  OpenClaim.holds_of_wide 6 Try.f6 rfl rfl rfl rfl rfl rfl rfl ⟨rfl, rfl, rfl, rfl, rfl⟩ rfl rfl rfl rfl rfl (by kernel_rfl) Try.func6 (by kernel_rfl)
    (of_decide_eq_true (by kernel_rfl)) (by unfold Func.isWrapper; first | (rw [if_pos (by decide +kernel)]; kernel_rfl) | (rw [if_neg (by decide +kernel)]; exact ⟨rfl, rfl⟩))
    (fun os started H enc _ => lifted os started H enc)

/-- The statement. -/
theorem proved : Rows.NfaClosesSaid := over
#print axioms proved
end Go.Proofs.Ytldeofdjhpfdaaa.nfaCloses
