/-
  SpanAgain returns true for every input: joined ranges are right, joining them again turns nothing, and each code finds what it found.
  Conditions: none.
-/
import Derived.Test.YtebjhcgonplogaaI
import Derived.OpenShut
import Derived.ShutString
import Derived.ChangeOld
import Derived.Below
namespace Go.Proofs.Ytebjhcgonplogaa.spanAgain
open Go.ChangeShapes Go.WideShapes Go.ChangeAt Go.RowKit
open Go.ChangeMaps (open_string shut_string)
set_option linter.unusedVariables false

theorem own : ownKnob Try.prog.godebug = none := by kernel_rfl
theorem laidOut : laidOutB Try.prog = true := by kernel_rfl

set_option maxHeartbeats 800000 in
theorem walk_far (a0 : Option Addr) (len0 cap0 : Nat) (z0 : List A.Rg) (a1 : Int) (w : World) (w0 : A.SegR w a0 len0 z0) (hl : len0 ≤ maxLen) (h5 : ¬ len0 ≤ 1000) :
    Calls Try.prog 6 #[.slice a0 len0 cap0, .int .i32 a1] w fun e w' => e = .returned (.bool true) ∧ Below w.heap.size w w' := by
  go_enter Try.func6, Try.ntmps6
  go_wp2_with fail
  refine (A.alive_any _).mono ?_
  rintro e w1 ⟨rfl, hb1⟩
  clear w0
  go_wp2_with fail
  go_ret
  exact ⟨rfl, hb1⟩

set_option maxHeartbeats 800000 in
theorem walk_no (a0 : Option Addr) (len0 cap0 : Nat) (z0 : List A.Rg) (a1 : Int) (w : World) (w0 : A.SegR w a0 len0 z0) (hl : len0 ≤ maxLen) (h5 : len0 ≤ 1000) (hr : A.rightB 9223372036854775807 z0 len0 = false) :
    Calls Try.prog 6 #[.slice a0 len0 cap0, .int .i32 a1] w fun e w' => e = .returned (.bool true) ∧ Below w.heap.size w w' := by
  have R := A.hide hr
  clear hr
  go_enter Try.func6, Try.ntmps6
  go_wp2_with fail
  refine (A.alive_any _).mono ?_
  rintro e w1 ⟨rfl, hb1⟩
  have hs1 := w0.below hb1
  clear w0
  go_wp2_with fail
  refine (A.right_any _ _ _ _ z0 _ hl hs1).mono ?_
  rintro e w0 ⟨rfl, hb0⟩
  have hb0' := hb1.trans (hb0.mono hb1.size)
  clear hs1 hb1 hb0
  rw [R.out]
  go_wp2_with fail
  go_ret
  exact ⟨rfl, hb0'⟩

set_option maxHeartbeats 1600000 in
theorem walk_yes (a0 : Option Addr) (len0 cap0 : Nat) (z0 : List A.Rg) (a1 : Int) (w : World) (w0 : A.SegR w a0 len0 z0) (hl : len0 ≤ maxLen) (h5 : len0 ≤ 1000) (hr : A.rightB 9223372036854775807 z0 len0 = true) :
    Calls Try.prog 6 #[.slice a0 len0 cap0, .int .i32 a1] w fun e w' => e = .returned (.bool true) ∧ Below w.heap.size w w' := by
  have R := A.hide hr
  have HR := A.hide (A.rt_of_right hr)
  have JR := A.hide (A.joined_rt len0 HR.out)
  have JC := A.hide (A.joined_cnt z0 len0)
  have JN := A.hide (A.joined_norm z0 len0)
  have JA := A.hide (A.joined_again z0 len0)
  have JF := A.hide (show A.fnd (A.joined z0 len0) a1 (A.joined z0 len0).length = A.fnd z0 a1 len0 from A.found_fnd JR.out (A.found_congr (fun u => (A.joined_has a1 u len0 HR.out).symm) (A.fnd_found z0 a1 len0)))
  have hjl := A.joined_len z0 len0
  clear hr
  go_enter Try.func6, Try.ntmps6
  go_wp2_with fail
  refine (A.alive_any _).mono ?_
  rintro e w1 ⟨rfl, hb1⟩
  have hs1 := w0.below hb1
  clear w0
  go_wp2_with fail
  refine (A.right_any _ _ _ _ z0 _ hl hs1).mono ?_
  rintro e w0 ⟨rfl, hb0⟩
  have hs0 := hs1.below hb0
  have hb0' := hb1.trans (hb0.mono hb1.size)
  clear hs1 hb1 hb0
  rw [R.out]
  go_wp2_with fail
  refine (A.join_yes _ _ _ z0 _ (by omega) hs0 HR.out).mono ?_
  rintro e w2 ⟨v1, rfl, ho1, hb2⟩
  obtain ⟨x1, p1, rfl, -, -, -, s1⟩ := A.seg_own ho1
  have hs2 := hs0.below hb2
  have hb2' := hb0'.trans (hb2.mono hb0'.size)
  clear ho1 hs0 hb0' hb2
  generalize A.joined z0 len0 = J at *
  generalize J.length = n at *
  go_wp2_with fail
  refine (A.join_yes _ _ _ J _ (by omega) s1 JR.out).mono ?_
  rintro e w3 ⟨v2, rfl, ho2, hb3⟩
  rw [JA.out, show J.length = n from s1.1] at ho2
  obtain ⟨x2, p2, rfl, -, -, -, s2⟩ := A.seg_own ho2
  have hs3 := hs2.below hb3
  have s1' := s1.below hb3
  have hb3' := hb2'.trans (hb3.mono hb2'.size)
  clear ho2 hs2 hb2' hb3 s1
  have hne : ((n : Int) != (n : Int)) = false := by simp
  go_wp2_with fail
  refine (A.right_any _ _ _ _ J _ (by unfold maxLen; omega) s1').mono ?_
  rintro e w4 ⟨rfl, hb4⟩
  have hs4 := hs3.below hb4
  have t1 := s1'.below hb4
  have t2 := s2.below hb4
  have hb4' := hb3'.trans (hb4.mono hb3'.size)
  clear hs3 hb3' hb4 s1' s2
  rw [A.right_same JR.out (by omega)]
  go_wp2_with fail
  refine (A.count_yes _ _ _ J _ (by omega) t1 JR.out).mono ?_
  rintro e w5 ⟨rfl, hb5⟩
  have hs5 := hs4.below hb5
  have s1 := t1.below hb5
  have s2 := t2.below hb5
  have hb5' := hb4'.trans (hb5.mono hb4'.size)
  clear hs4 hb4' hb5 t1 t2
  rw [JC.out]
  go_wp2_with fail
  refine (A.count_yes _ _ _ z0 _ (by omega) hs5 HR.out).mono ?_
  rintro e w6 ⟨rfl, hb6⟩
  have hs6 := hs5.below hb6
  have t1 := s1.below hb6
  have t2 := s2.below hb6
  have hb6' := hb5'.trans (hb6.mono hb5'.size)
  clear hs5 hb5' hb6 s1 s2
  have hcn : (A.cnt z0 len0 != A.cnt z0 len0) = false := by simp
  go_wp2
  go_loopw [7] (fun i wr => ∃ k : Nat, k ≤ n ∧ i = .int .i64 k ∧ A.SegR wr a0 len0 z0 ∧ A.SegR wr x1 n J ∧ A.SegR wr x2 n J ∧ Below w.heap.size w wr) (fun i _ => n - (intOf i).toNat)
  case atStart => exact ⟨0, Nat.zero_le _, rfl, hs6, t1, t2, hb6'⟩
  case round =>
    obtain ⟨k, hk, rfl, hs, s1, s2, hbel⟩ := hrel
    clear hs6 t1 t2 hb6'
    by_cases hlt : k < n
    · obtain ⟨b, off, rfl, hc⟩ := s1.leads (by omega)
      obtain ⟨b', off', rfl, hc'⟩ := s2.leads (by omega)
      obtain ⟨c0, c1, c2⟩ := hc k hlt
      obtain ⟨d0, d1, d2⟩ := hc' k hlt
      have n1 : (0 : Int) ≤ (k : Int) := by omega
      have n2 : (k : Int) < (n : Int) := by omega
      rcases k with _ | i
      · have q1 : decide ((0 : Int) < 0) = false := by decide
        clear hc hc'
        simp only [Nat.zero_mul, Nat.add_zero] at c0 c1 c2 d0 d1 d2
        generalize (A.at' J 0).f = f at *
        generalize (A.at' J 0).t = t at *
        generalize (A.at' J 0).v = v at *
        go_wp2
        go_quiet (fail)
        go_wp2
        go_roundw
        case rel => exact ⟨1, by omega, by go_num, hs, s1, s2, A.below_drewN hbel _⟩
        case measure => simp [intOf] <;> omega
      · obtain ⟨e0, e1, e2⟩ := hc i (by omega)
        obtain ⟨o1, o2, o3, _, _⟩ := JR.out.1 i (by omega)
        have NN := A.hide (JN.out i (by rw [s1.1]; exact hlt))
        have q1 : decide ((0 : Int) < (i : Int) + 1) = true := by rw [decide_eq_true_iff]; omega
        clear hc hc'
        generalize (A.at' J (i + 1)).f = f at *
        generalize (A.at' J (i + 1)).t = t at *
        generalize (A.at' J (i + 1)).v = v at *
        generalize (A.at' J i).f = f' at *
        generalize (A.at' J i).t = t' at *
        generalize (A.at' J i).v = v' at *
        by_cases g1 : f = t' + 1
        · have g2 : (t' + 1 == f) = true := by simp; omega
          have g3 : (v' == v) = false := by simp; intro e; exact NN.out ⟨g1, e.symm⟩
          clear g1
          go_wp2
          go_quiet (fail)
          go_wp2
          go_roundw
          case rel => exact ⟨i + 1 + 1, by omega, by go_num, hs, s1, s2, A.below_drewN hbel _⟩
          case measure => simp [intOf]; omega
        · have g2 : (t' + 1 == f) = false := by simp; omega
          clear g1
          go_wp2
          go_quiet (fail)
          go_wp2
          go_roundw
          case rel => exact ⟨i + 1 + 1, by omega, by go_num, hs, s1, s2, A.below_drewN hbel _⟩
          case measure => simp [intOf]; omega
    · have e : k = n := by omega
      subst e
      go_wp2_with fail
      refine (A.find_yes _ _ _ _ z0 _ (by omega) hs HR.out).mono ?_
      rintro e w7 ⟨rfl, hb7⟩
      have s1' := s1.below hb7
      have hb7' := hbel.trans (hb7.mono hbel.size)
      clear hs s1 s2 hbel hb7
      go_wp2_with fail
      refine (A.find_yes _ _ _ _ J _ (by omega) s1' JR.out).mono ?_
      rintro e w8 ⟨rfl, hb8⟩
      have hb8' := hb7'.trans (hb8.mono hb7'.size)
      clear s1' hb7' hb8
      rw [JF.out]
      generalize A.fnd z0 a1 len0 = y at *
      have y1 : (y.1 == y.1) = true := by simp
      have y2 : (y.2 == y.2) = true := by simp
      go_wp2_with fail
      go_ret
      exact ⟨rfl, hb8'⟩

theorem walk (a0 : Option Addr) (len0 cap0 : Nat) (z0 : List A.Rg) (a1 : Int) (w : World) (w0 : A.SegR w a0 len0 z0) (l0 : len0 ≤ cap0) (m0 : cap0 ≤ maxLen) (w1 : (Lit.int .i32 a1).wf = true) :
    Calls Try.prog 6 #[.slice a0 len0 cap0, .int .i32 a1] w fun e w' => e = .returned (.bool true) ∧ Below w.heap.size w w' := by
  by_cases h5 : len0 ≤ 1000
  · by_cases hr : A.rightB 9223372036854775807 z0 len0 = true
    · exact walk_yes a0 len0 cap0 z0 a1 w w0 (by omega) h5 hr
    · exact walk_no a0 len0 cap0 z0 a1 w w0 (by omega) h5 (Bool.eq_false_iff.2 hr)
  · exact walk_far a0 len0 cap0 z0 a1 w w0 (by omega) h5

set_option maxRecDepth 100000 in
theorem lifted (os : Os) (started : os.Started) (H : Type) (enc : TypeId × Value → H) :
    ReturnsInHanded {} Try.checked os 6 .any (Rows.spanAgainSpec.pre6 enc Try.prog Try.f6 Rows.spanAgainRow.domain false) (Rows.spanAgainSpec.post enc Try.prog Try.f6 false true false false) := by
  refine returnsInHanded_of_change (C := Try.checked) own started (by kernel_rfl) Try.func6
    (ChangeSpec.witness6 (enc := enc) (C := Try.checked) false ⟨#[], #[.slice none 0 0, .int .i32 0], []⟩ 8 (by kernel_rfl) (by kernel_rfl) (by kernel_rfl) (by kernel_rfl)) ?_
  intro W base args ds gs before hval0 hW hcnd _
  have hval : ∀ (j : Nat) t v, Try.f6.params[j]? = some t → args[j]? = some v → Value.okWide Try.prog W .any base t v := hval0
  have hW' := hW
  obtain ⟨p, q, hA0, hV, rfl, hfz, hnd⟩ := hW
  have hA : DataW.TrodAll enc Try.prog W 0 (fun _ => true) true Try.f6.params.toList args.toList ds p := hA0
  rw [Try.params6] at hA hval
  obtain ⟨v0, vs0, d0, ds0, p0, q0, hargs, rfl, rfl, h0, r0⟩ := trodAll_cons hA
  obtain ⟨v1, vs1, d1, ds1, p1, q1, rfl, rfl, rfl, h1, r1⟩ := trodAll_cons r0
  obtain ⟨rfl, rfl, rfl⟩ := trodAll_nil r1
  obtain rfl : args = #[v0, v1] := by cases args; simp_all
  obtain ⟨rfl, rfl⟩ := trodVars_none hV
  obtain ⟨a0, len0, cap0, rfl⟩ := okWide_slice Try.underlying22 (hval 0 22 v0 rfl rfl)
  have k0 := h0
  have lt0 : ∀ x ∈ p0, x.block < W.heap.size := by obtain ⟨m, hm⟩ := k0; exact DataW.trod_lt m _ _ _ hm
  obtain ⟨z0, w0, l0, m0⟩ : ∃ zs, A.SegR W a0 len0 zs ∧ len0 ≤ cap0 ∧ cap0 ≤ maxLen := by obtain ⟨fuel, hf⟩ := h0; exact A.open_ranges hf
  obtain ⟨a1, rfl, rfl, rfl, w1⟩ := open_int Try.underlying21 (hval 1 21 v1 rfl rfl) h1
  clear hA0 hval0
  refine (walk a0 len0 cap0 z0 a1 W w0 l0 m0 w1).mono fun e W' ⟨he, bel⟩ => ?_
  subst he
  exact ⟨_, rfl, _, _, _, [], _, [], hW', trodAll_mk1 (shut_bool Try.underlying4 _), (trodAll_cons_mk (Below.trod laidOut (by kernel_rfl) (of_decide_eq_true (by kernel_rfl)) k0 bel lt0) (trodAll_cons_mk (shut_int Try.underlying21 w1) trodAll_mk0)), rfl, bel.frame _, fun h => by cases h⟩

theorem over : Rows.spanAgainRow.holds Try.pinned (OpenSpec.ofChange Rows.spanAgainSpec) :=
  OpenClaim.holds_of_wide 6 Try.f6 rfl rfl rfl rfl rfl rfl rfl ⟨rfl, rfl, rfl, rfl, rfl⟩ rfl rfl rfl rfl rfl (by kernel_rfl) Try.func6 (by kernel_rfl)
    (of_decide_eq_true (by kernel_rfl)) (by unfold Func.isWrapper; first | (rw [if_pos (by decide +kernel)]; kernel_rfl) | (rw [if_neg (by decide +kernel)]; exact ⟨rfl, rfl⟩))
    (fun os started H enc _ => lifted os started H enc)

/-- The statement. -/
theorem proved : Rows.SpanAgainSaid := over
#print axioms proved
end Go.Proofs.Ytebjhcgonplogaa.spanAgain
