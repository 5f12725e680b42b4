/-
  The machine of expressions matches a word by the least rule whose words have it.
  Conditions: none.
-/
import Derived.Test.YtldeofdjhpfdaaaV5
import Derived.OpenShut
import Derived.ShutString
import Derived.ChangeOld
import Derived.Below
namespace Go.Proofs.Ytldeofdjhpfdaaa.nfaMatches
open Go.ChangeShapes Go.WideShapes Go.ChangeAt Go.RowKit
open Go.ChangeMaps (open_string shut_string)
set_option linter.unusedVariables false

theorem own : ownKnob Try.prog.godebug = none := by kernel_rfl
theorem laidOut : laidOutB Try.prog = true := by kernel_rfl

set_option maxRecDepth 100000 in
set_option maxHeartbeats 6400000 in
theorem walk (a0 : Option Addr) (len0 cap0 n0 : Nat) (t0 : List (A.Ex n0)) (a1 : Option Addr) (len1 cap1 : Nat) (z1 : List Int) (w : World) (w0 : A.Exs w n0 a0 t0) (e0 : t0.length = len0) (l0 : len0 ≤ cap0) (m0 : cap0 ≤ maxLen) (w1 : A.Wd w a1 z1) (e1 : z1.length = len1) (l1 : len1 ≤ cap1) (m1 : cap1 ≤ maxLen) :
    Calls Try.prog 5 #[.slice a0 len0 cap0, .slice a1 len1 cap1] w fun e w' => e = .returned (.bool true) ∧ Below w.heap.size w w' := by
  have hlm : len0 ≤ maxLen := Nat.le_trans l0 m0
  have HLM := A.hide hlm
  have HK := A.hide (A.exs_kids w0 e0)
  have HW := A.hide w1
  have HE := A.hide e0
  have HE1 := A.hide e1
  have hl1 : len1 ≤ maxLen := Nat.le_trans l1 m1
  unfold maxLen at hl1 hlm
  clear w0 w1 e0 l0 m0 e1 l1 m1
  go_enter Try.func5, Try.ntmps5
  go_wp2_with fail
  refine (A.alive_any w).mono ?_
  rintro e u1 ⟨rfl, hb1⟩
  have HB1 := A.hide hb1
  clear hb1
  go_wp2_with fail
  refine (A.great_any n0 a0 len0 cap0 t0 u1 HLM.out HE.out (A.kids_below HB1.out HK.out)).mono ?_
  rintro e u2 ⟨rfl, hb2⟩
  have HB2 := A.hide (HB1.out.trans (hb2.mono HB1.out.size))
  clear hb2 HB1
  cases hg : A.greatL t0
  · by_cases hl : 12 < len1
    · have d1 : decide ((12 : Int) < (len1 : Int)) = true := by simp; omega
      clear hg
      go_wp2
      go_ret
      exact ⟨rfl, HB2.out⟩
    · have d1 : decide ((12 : Int) < (len1 : Int)) = false := by simp; omega
      clear hg
      go_wp2_with fail
      cases hm : A.mayB t0
      · refine (A.build_no n0 a0 len0 cap0 t0 u2 HLM.out HE.out (A.kids_below HB2.out HK.out) hm).mono ?_
        rintro e u3 ⟨rfl, hb3⟩
        have HB3 := A.hide (HB2.out.trans (hb3.mono HB2.out.size))
        unfold A.noM
        clear hb3 hm
        go_wp2
        go_ret
        exact ⟨rfl, (HB3.out.alloc HB3.out.size _)⟩
      · refine (A.build_yes n0 a0 len0 cap0 t0 u2 HLM.out HE.out (A.kids_below HB2.out HK.out) hm).mono ?_
        rintro e u3 ⟨b0, b1, b2, b3, N, c0, c1, c2, c3, fs, ss, ts, rs, rfl, hnm, hi, hr, hrl, hN, hN3, hb3⟩
        obtain ⟨hl1', hl16, hful, hsh⟩ := A.may_open hm HK.out HE.out
        have HFUL := A.hide hful
        have HSH := A.hide hsh
        have HM := A.hide (A.build_mach hful HE.out hl16 hi hr hrl hN hN3)
        have HRULE := A.hide (fun g hg => A.match_rule z1 hful hsh HE.out hl16 hi hr hrl hN hN3 g hg)
        have HB3 := A.hide (HB2.out.trans (hb3.mono HB2.out.size))
        have HNM := A.hide (A.nm_below ((Below.refl u3.heap.size u3).alloc (Nat.le_refl _) (.cells #[.slice b0 N c0, .slice b1 N c1, .slice b2 N c2, .slice b3 N c3] 29)) hnm)
        have HX := A.hide (A.bx_new u3 (.slice b0 N c0) (.slice b1 N c1) (.slice b2 N c2) (.slice b3 N c3))
        have HB4 := A.hide (HB3.out.alloc HB3.out.size (.cells #[.slice b0 N c0, .slice b1 N c1, .slice b2 N c2, .slice b3 N c3] 29))
        have HZ := A.hide (show u3.heap.size < (u3.alloc (.cells #[.slice b0 N c0, .slice b1 N c1, .slice b2 N c2, .slice b3 N c3] 29)).heap.size by simp)
        clear hnm hi hr hrl hN hb3 hful hsh hm
        go_wp2_with fail
        generalize u3.alloc (.cells #[.slice b0 N c0, .slice b1 N c1, .slice b2 N c2, .slice b3 N c3] 29) = W at *
        generalize u3.heap.size = P at *
        go_loopw [7, 8] (fun v i wr => ∃ (k : Nat) (z : Int), k ≤ len0 ∧ i = .int .i64 z ∧ z + 1 = (k : Int) ∧ v = .int .i64 (A.leastR (A.hasN t0 z1) (len0 - k) (k : Int)) ∧ Below W.heap.size W wr) (fun _ i _ => (intOf i + 1).toNat)
        case atStart => exact ⟨len0, _, Nat.le_refl _, rfl, by omega, by rw [Nat.sub_self]; rfl, Below.refl _ _⟩
        case round =>
          obtain ⟨k, z, hk, rfl, hz, rfl, hb⟩ := hrel
          have HBW := A.hide hb
          have HBU := A.hide (HB4.out.trans (hb.mono HB4.out.size))
          clear hb
          cases k with
          | zero =>
            obtain rfl : z = -1 := by omega
            obtain ⟨y, hy⟩ : ∃ y, A.leastR (A.hasN t0 z1) (len0 - 0) ((0 : Nat) : Int) = y := ⟨_, rfl⟩
            rw [hy]
            have HY := A.hide hy
            obtain ⟨p0, p1, p2, p3⟩ := A.bx_of (A.bx_below HBW.out HZ.out HX.out)
            clear hy
            go_wp2_with fail
            refine (A.pmatch_yes b0 b1 b2 b3 N c0 c1 c2 c3 fs ss ts rs a1 len1 cap1 z1 wr HM.out (A.nm_below HBW.out HNM.out) HE1.out (by unfold maxLen; omega) (A.wd_below HBU.out HW.out)).mono ?_
            rintro e u5 ⟨g, hg, rfl, hb5⟩
            have HB5 := A.hide (HBU.out.trans (hb5.mono HBU.out.size))
            have e9 : A.endR rs g N = y := (HRULE.out g (by rw [HE1.out]; exact hg)).trans HY.out
            rw [e9]
            clear hb5 hg p0 p1 p2 p3 e9
            go_wp2
            go_ret
            exact ⟨by simp, HB5.out⟩
          | succ k =>
            obtain rfl : z = (k : Int) := by omega
            have hlt : k < len0 := by omega
            obtain ⟨x, b, off, d0, d1', d2, rfl, hx, k0, k1, k2, k3⟩ := HK.out wr HBU.out k hlt
            have HX3 := A.hide k3
            have HXX := A.hide hx
            have i3 : (0 : Int) ≤ (k : Int) := by omega
            have i4 : (k : Int) < (len0 : Int) := by omega
            have HLB := A.hide (A.least_back (p := A.hasN t0 z1) hlt)
            clear hx k3
            obtain ⟨y, hy⟩ : ∃ y, A.leastR (A.hasN t0 z1) (len0 - (k + 1)) ((k + 1 : Nat) : Int) = y := ⟨_, rfl⟩
            rw [hy] at HLB ⊢
            clear hy
            go_wp2_with fail
            refine (A.has_any z1 n0 x _ a1 len1 cap1 wr HE1.out (by omega) HX3.out (HSH.out x (List.mem_of_getElem? HXX.out)) (A.wd_below HBU.out HW.out)).mono ?_
            rintro e u5 ⟨rfl, hb5⟩
            have HB5 := A.hide (HBW.out.trans (hb5.mono HBW.out.size))
            have HHN := A.hide (A.hasN_at z1 HXX.out)
            clear hb5 k0 k1 k2
            cases hh : A.hasE n0 x z1
            · have HH := A.hide hh
              clear hh
              go_wp2
              go_roundw
              case rel => exact ⟨k, (k : Int) - 1, by omega, by go_num, by omega, by rw [HLB.out, HHN.out, HH.out]; rfl, HB5.out⟩
              case measure => simp [intOf]
            · have HH := A.hide hh
              clear hh
              go_wp2
              go_roundw
              case rel => exact ⟨k, (k : Int) - 1, by omega, by go_num, by omega, by rw [HLB.out, HHN.out, HH.out]; rfl, HB5.out⟩
              case measure => simp [intOf]
  · clear hg
    go_wp2
    go_ret
    exact ⟨rfl, HB2.out⟩

set_option maxRecDepth 100000 in
theorem lifted (os : Os) (started : os.Started) (H : Type) (enc : TypeId × Value → H) :
    ReturnsInHanded {} Try.checked os 5 .any (Rows.nfaMatchesSpec.pre6 enc Try.prog Try.f5 Rows.nfaMatchesRow.domain false) (Rows.nfaMatchesSpec.post enc Try.prog Try.f5 false true false false) := by
  refine returnsInHanded_of_change (C := Try.checked) own started (by kernel_rfl) Try.func5
    (ChangeSpec.witness6 (enc := enc) (C := Try.checked) false ⟨#[], #[.slice none 0 0, .slice none 0 0], []⟩ 8 (by kernel_rfl) (by kernel_rfl) (by kernel_rfl) (by kernel_rfl)) ?_
  intro W base args ds gs before hval0 hW hcnd _
  have hval : ∀ (j : Nat) t v, Try.f5.params[j]? = some t → args[j]? = some v → Value.okWide Try.prog W .any base t v := hval0
  have hW' := hW
  obtain ⟨p, q, hA0, hV, rfl, hfz, hnd⟩ := hW
  have hA : DataW.TrodAll enc Try.prog W 0 (fun _ => true) true Try.f5.params.toList args.toList ds p := hA0
  rw [Try.params5] at hA hval
  obtain ⟨v0, vs0, d0, ds0, p0, q0, hargs, rfl, rfl, h0, r0⟩ := trodAll_cons hA
  obtain ⟨v1, vs1, d1, ds1, p1, q1, rfl, rfl, rfl, h1, r1⟩ := trodAll_cons r0
  obtain ⟨rfl, rfl, rfl⟩ := trodAll_nil r1
  obtain rfl : args = #[v0, v1] := by cases args; simp_all
  obtain ⟨rfl, rfl⟩ := trodVars_none hV
  obtain ⟨a0, len0, cap0, rfl⟩ := okWide_slice Try.underlying22 (hval 0 22 v0 rfl rfl)
  have k0 := h0
  have lt0 : ∀ x ∈ p0, x.block < W.heap.size := by obtain ⟨m, hm⟩ := k0; exact DataW.trod_lt m _ _ _ hm
  obtain ⟨n0, t0, w0, e0, l0, m0⟩ : ∃ (n : Nat) (l : List (A.Ex n)), A.Exs W n a0 l ∧ l.length = len0 ∧ len0 ≤ cap0 ∧ cap0 ≤ maxLen := by obtain ⟨fuel, hf⟩ := h0; exact A.open_list hf
  obtain ⟨a1, len1, cap1, rfl⟩ := okWide_slice Try.underlying27 (hval 1 27 v1 rfl rfl)
  have k1 := h1
  have lt1 : ∀ x ∈ p1, x.block < W.heap.size := by obtain ⟨m, hm⟩ := k1; exact DataW.trod_lt m _ _ _ hm
  obtain ⟨z1, w1, e1, l1, m1⟩ : ∃ zs : List Int, A.Wd W a1 zs ∧ zs.length = len1 ∧ len1 ≤ cap1 ∧ cap1 ≤ maxLen := by obtain ⟨fuel, hf⟩ := h1; exact A.open_words hf
  clear hA0 hval0
  refine (walk a0 len0 cap0 n0 t0 a1 len1 cap1 z1 W w0 e0 l0 m0 w1 e1 l1 m1).mono fun e W' ⟨he, bel⟩ => ?_
  subst he
  exact ⟨_, rfl, _, _, _, [], _, [], hW', trodAll_mk1 (shut_bool Try.underlying4 _), (trodAll_cons_mk (Below.trod laidOut (by kernel_rfl) (of_decide_eq_true (by kernel_rfl)) k0 bel lt0) (trodAll_cons_mk (Below.trod laidOut (by kernel_rfl) (of_decide_eq_true (by kernel_rfl)) k1 bel lt1) trodAll_mk0)), rfl, bel.frame _, fun h => by cases h⟩

theorem over : Rows.nfaMatchesRow.holds Try.pinned (OpenSpec.ofChange Rows.nfaMatchesSpec) :=
  OpenClaim.holds_of_wide 5 Try.f5 rfl rfl rfl rfl rfl rfl rfl ⟨rfl, rfl, rfl, rfl, rfl⟩ rfl rfl rfl rfl rfl (by kernel_rfl) Try.func5 (by kernel_rfl)
    (of_decide_eq_true (by kernel_rfl)) (by unfold Func.isWrapper; first | (rw [if_pos (by decide +kernel)]; kernel_rfl) | (rw [if_neg (by decide +kernel)]; exact ⟨rfl, rfl⟩))
    (fun os started H enc _ => lifted os started H enc)

/-- The statement. -/
theorem proved : Rows.NfaMatchesSaid := over
#print axioms proved
end Go.Proofs.Ytldeofdjhpfdaaa.nfaMatches
