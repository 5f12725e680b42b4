/-
  SpanJoins returns true for every input: the fewest ranges, and how many codes they have, are the document's.
  Conditions: none.
-/
import Derived.Test.YtebjhcgonplogaaB
import Derived.Test.YtebjhcgonplogaaG
import Derived.Test.YtebjhcgonplogaaI
import Derived.OpenShut
import Derived.ShutString
import Derived.ChangeOld
import Derived.Below
namespace Go.Proofs.Ytebjhcgonplogaa.spanJoins
open Go.ChangeShapes Go.WideShapes Go.ChangeAt Go.RowKit
open Go.ChangeMaps (open_string shut_string)
set_option linter.unusedVariables false

theorem own : ownKnob Try.prog.godebug = none := by kernel_rfl
theorem laidOut : laidOutB Try.prog = true := by kernel_rfl

set_option maxHeartbeats 800000 in
theorem walk_far (a0 : Option Addr) (len0 cap0 : Nat) (z0 : List A.Rg) (w : World) (w0 : A.SegR w a0 len0 z0) (hl : len0 ≤ maxLen) (h5 : ¬ len0 ≤ 5000) :
    Calls Try.prog 5 #[.slice a0 len0 cap0] w fun e w' => e = .returned (.bool true) ∧ Below w.heap.size w w' := by
  have R := A.hide (A.right_far (m := 9223372036854775807) (l := z0) h5)
  go_enter Try.func5, Try.ntmps5
  go_wp2_with fail
  refine (A.alive_any _).mono ?_
  rintro e w1 ⟨rfl, hb1⟩
  have hs1 := w0.below hb1
  clear w0
  go_wp2_with fail
  refine (A.join_no _ _ _ z0 _ hl hs1 R.out).mono ?_
  rintro e w2 ⟨rfl, hb2⟩
  have hs2 := hs1.below hb2
  have hb2' := hb1.trans (hb2.mono hb1.size)
  clear hs1 hb1 hb2
  go_wp2_with fail
  refine (A.count_no _ _ _ z0 _ hl hs2 R.out).mono ?_
  rintro e w3 ⟨rfl, hb3⟩
  have hb3' := hb2'.trans (hb3.mono hb2'.size)
  clear hs2 hb2' hb3
  go_wp2_with fail
  go_ret
  exact ⟨rfl, hb3'⟩

set_option maxHeartbeats 800000 in
theorem walk_no (a0 : Option Addr) (len0 cap0 : Nat) (z0 : List A.Rg) (w : World) (w0 : A.SegR w a0 len0 z0) (hl : len0 ≤ maxLen) (h5 : len0 ≤ 5000) (hr : A.rightB 9223372036854775807 z0 len0 = false) :
    Calls Try.prog 5 #[.slice a0 len0 cap0] w fun e w' => e = .returned (.bool true) ∧ Below w.heap.size w w' := by
  have R := A.hide hr
  clear hr
  go_enter Try.func5, Try.ntmps5
  go_wp2_with fail
  refine (A.alive_any _).mono ?_
  rintro e w1 ⟨rfl, hb1⟩
  have hs1 := w0.below hb1
  clear w0
  go_wp2_with fail
  refine (A.rright_any _ _ _ _ z0 _ hl hs1).mono ?_
  rintro e w0 ⟨rfl, hb0⟩
  have hs0 := hs1.below hb0
  have hb0' := hb1.trans (hb0.mono hb1.size)
  clear hs1 hb1 hb0
  rw [R.out]
  go_wp2_with fail
  refine (A.join_no _ _ _ z0 _ hl hs0 R.out).mono ?_
  rintro e w2 ⟨rfl, hb2⟩
  have hs2 := hs0.below hb2
  have hb2' := hb0'.trans (hb2.mono hb0'.size)
  clear hs0 hb0' hb2
  go_wp2_with fail
  refine (A.count_no _ _ _ z0 _ hl hs2 R.out).mono ?_
  rintro e w3 ⟨rfl, hb3⟩
  have hb3' := hb2'.trans (hb3.mono hb2'.size)
  clear hs2 hb2' hb3
  go_wp2_with fail
  go_ret
  exact ⟨rfl, hb3'⟩

set_option maxHeartbeats 1600000 in
theorem walk_yes (a0 : Option Addr) (len0 cap0 : Nat) (z0 : List A.Rg) (w : World) (w0 : A.SegR w a0 len0 z0) (hl : len0 ≤ maxLen) (h5 : len0 ≤ 5000) (hr : A.rightB 9223372036854775807 z0 len0 = true) :
    Calls Try.prog 5 #[.slice a0 len0 cap0] w fun e w' => e = .returned (.bool true) ∧ Below w.heap.size w w' := by
  have R := A.hide hr
  have HR := A.hide (A.rt_of_right hr)
  clear hr
  go_enter Try.func5, Try.ntmps5
  go_wp2_with fail
  refine (A.alive_any _).mono ?_
  rintro e w1 ⟨rfl, hb1⟩
  have hs1 := w0.below hb1
  clear w0
  go_wp2_with fail
  refine (A.rright_any _ _ _ _ z0 _ hl hs1).mono ?_
  rintro e w0 ⟨rfl, hb0⟩
  have hs0 := hs1.below hb0
  have hb0' := hb1.trans (hb0.mono hb1.size)
  clear hs1 hb1 hb0
  rw [R.out]
  go_wp2
  go_loopw [3, 4] (fun n i wr => ∃ k : Nat, k ≤ len0 ∧ i = .int .i64 k ∧ n = .int .i64 (A.cnt z0 k) ∧ A.SegR wr a0 len0 z0 ∧ Below w.heap.size w wr) (fun _ i _ => len0 - (intOf i).toNat)
  case atStart => exact ⟨0, Nat.zero_le _, rfl, rfl, hs0, hb0'⟩
  case round =>
    obtain ⟨k, hk, rfl, rfl, hs, hbel⟩ := hrel
    clear hs0 hb0'
    by_cases hlt : k < len0
    · obtain ⟨b, off, rfl, hc⟩ := hs.leads (by omega)
      obtain ⟨c0, c1, c2⟩ := hc k hlt
      obtain ⟨o1, o2, o3, _, _⟩ := HR.out.1 k hlt
      have cb := A.cnt_bd k (A.rt_le HR.out (by omega))
      have CS := A.hide (show A.cnt z0 (k + 1) = A.cnt z0 k + ((A.at' z0 k).t - (A.at' z0 k).f + 1) from rfl)
      clear hc
      generalize (A.at' z0 k).f = f at *
      generalize (A.at' z0 k).t = t at *
      generalize (A.at' z0 k).v = v at *
      generalize A.cnt z0 k = n at *
      go_wp2
      go_quiet (fail)
      go_wp2
      go_roundw
      case rel => exact ⟨k + 1, by omega, by go_num, by rw [CS.out]; congr 1; omega, hs, A.below_drewN hbel _⟩
      case measure => simp [intOf]; omega
    · have e : k = len0 := by omega
      subst e
      have hjl := A.joined_len z0 k
      have hcn : (A.cnt z0 k == A.cnt z0 k) = true := by simp
      go_wp2_with fail
      refine (A.join_yes _ _ _ z0 _ h5 hs HR.out).mono ?_
      rintro e w2 ⟨v1, rfl, ho1, hb2⟩
      obtain ⟨x1, p1, rfl, -, -, -, s1⟩ := A.seg_own ho1
      have hs2 := hs.below hb2
      have hb2' := hbel.trans (hb2.mono hbel.size)
      clear ho1 hs hbel hb2
      go_wp2_with fail
      refine (A.rjoin_yes _ _ _ z0 _ h5 hs2 HR.out).mono ?_
      rintro e w3 ⟨v2, rfl, ho2, hb3⟩
      obtain ⟨x2, p2, rfl, -, -, -, s2⟩ := A.seg_own ho2
      have hs3 := hs2.below hb3
      have s1' := s1.below hb3
      have hb3' := hb2'.trans (hb3.mono hb2'.size)
      clear ho2 hs2 hb2' hb3 s1
      go_wp2_with fail
      refine (A.same_any _ _ _ _ _ (A.joined z0 k) _ (by omega) s1' s2).mono ?_
      rintro e w4 ⟨rfl, hb4⟩
      have hs4 := hs3.below hb4
      have hb4' := hb3'.trans (hb4.mono hb3'.size)
      clear hs3 hb3' hb4 s1' s2
      go_wp2_with fail
      refine (A.count_yes _ _ _ z0 _ h5 hs4 HR.out).mono ?_
      rintro e w5 ⟨rfl, hb5⟩
      have hb5' := hb4'.trans (hb5.mono hb4'.size)
      clear hs4 hb4' hb5
      go_wp2_with fail
      go_ret
      exact ⟨rfl, hb5'⟩

theorem walk (a0 : Option Addr) (len0 cap0 : Nat) (z0 : List A.Rg) (w : World) (w0 : A.SegR w a0 len0 z0) (l0 : len0 ≤ cap0) (m0 : cap0 ≤ maxLen) :
    Calls Try.prog 5 #[.slice a0 len0 cap0] w fun e w' => e = .returned (.bool true) ∧ Below w.heap.size w w' := by
  by_cases h5 : len0 ≤ 5000
  · by_cases hr : A.rightB 9223372036854775807 z0 len0 = true
    · exact walk_yes a0 len0 cap0 z0 w w0 (by omega) h5 hr
    · exact walk_no a0 len0 cap0 z0 w w0 (by omega) h5 (Bool.eq_false_iff.2 hr)
  · exact walk_far a0 len0 cap0 z0 w w0 (by omega) h5

set_option maxRecDepth 100000 in
theorem lifted (os : Os) (started : os.Started) (H : Type) (enc : TypeId × Value → H) :
    ReturnsInHanded {} Try.checked os 5 .any (Rows.spanJoinsSpec.pre6 enc Try.prog Try.f5 Rows.spanJoinsRow.domain false) (Rows.spanJoinsSpec.post enc Try.prog Try.f5 false true false false) := by
  refine returnsInHanded_of_change (C := Try.checked) own started (by kernel_rfl) Try.func5
    (ChangeSpec.witness6 (enc := enc) (C := Try.checked) false ⟨#[], #[.slice none 0 0], []⟩ 8 (by kernel_rfl) (by kernel_rfl) (by kernel_rfl) (by kernel_rfl)) ?_
  intro W base args ds gs before hval0 hW hcnd _
  have hval : ∀ (j : Nat) t v, Try.f5.params[j]? = some t → args[j]? = some v → Value.okWide Try.prog W .any base t v := hval0
  have hW' := hW
  obtain ⟨p, q, hA0, hV, rfl, hfz, hnd⟩ := hW
  have hA : DataW.TrodAll enc Try.prog W 0 (fun _ => true) true Try.f5.params.toList args.toList ds p := hA0
  rw [Try.params5] at hA hval
  obtain ⟨v0, vs0, d0, ds0, p0, q0, hargs, rfl, rfl, h0, r0⟩ := trodAll_cons hA
  obtain ⟨rfl, rfl, rfl⟩ := trodAll_nil r0
  obtain rfl : args = #[v0] := by cases args; simp_all
  obtain ⟨rfl, rfl⟩ := trodVars_none hV
  obtain ⟨a0, len0, cap0, rfl⟩ := okWide_slice Try.underlying22 (hval 0 22 v0 rfl rfl)
  have k0 := h0
  have lt0 : ∀ x ∈ p0, x.block < W.heap.size := by obtain ⟨m, hm⟩ := k0; exact DataW.trod_lt m _ _ _ hm
  obtain ⟨z0, w0, l0, m0⟩ : ∃ zs, A.SegR W a0 len0 zs ∧ len0 ≤ cap0 ∧ cap0 ≤ maxLen := by obtain ⟨fuel, hf⟩ := h0; exact A.open_ranges hf
  clear hA0 hval0
  refine (walk a0 len0 cap0 z0 W w0 l0 m0).mono fun e W' ⟨he, bel⟩ => ?_
  subst he
  exact ⟨_, rfl, _, _, _, [], _, [], hW', trodAll_mk1 (shut_bool Try.underlying4 _), (trodAll_cons_mk (Below.trod laidOut (by kernel_rfl) (of_decide_eq_true (by kernel_rfl)) k0 bel lt0) trodAll_mk0), rfl, bel.frame _, fun h => by cases h⟩

theorem over : Rows.spanJoinsRow.holds Try.pinned (OpenSpec.ofChange Rows.spanJoinsSpec) :=
  OpenClaim.holds_of_wide 5 Try.f5 rfl rfl rfl rfl rfl rfl rfl ⟨rfl, rfl, rfl, rfl, rfl⟩ rfl rfl rfl rfl rfl (by kernel_rfl) Try.func5 (by kernel_rfl)
    (of_decide_eq_true (by kernel_rfl)) (by unfold Func.isWrapper; first | (rw [if_pos (by decide +kernel)]; kernel_rfl) | (rw [if_neg (by decide +kernel)]; exact ⟨rfl, rfl⟩))
    (fun os started H enc _ => lifted os started H enc)

/-- The statement. -/
theorem proved : Rows.SpanJoinsSaid := over
#print axioms proved
end Go.Proofs.Ytebjhcgonplogaa.spanJoins
