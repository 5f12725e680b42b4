/-
  SpanFinds returns true for every input: every code's value in all ranges is the document's.
  Conditions: none.
-/
import Derived.Test.YtebjhcgonplogaaB
import Derived.Test.YtebjhcgonplogaaI
import Derived.OpenShut
import Derived.ShutString
import Derived.ChangeOld
import Derived.Below
namespace Go.Proofs.Ytebjhcgonplogaa.spanFinds
open Go.ChangeShapes Go.WideShapes Go.ChangeAt Go.RowKit
open Go.ChangeMaps (open_string shut_string)
set_option linter.unusedVariables false

theorem own : ownKnob Try.prog.godebug = none := by kernel_rfl
theorem laidOut : laidOutB Try.prog = true := by kernel_rfl

set_option maxHeartbeats 1600000 in
theorem walk (a0 : Option Addr) (len0 cap0 : Nat) (z0 : List A.Rg) (a1 : Int) (w : World) (w0 : A.SegR w a0 len0 z0) (l0 : len0 ≤ cap0) (m0 : cap0 ≤ maxLen) (w1 : (Lit.int .i32 a1).wf = true) :
    Calls Try.prog 4 #[.slice a0 len0 cap0, .int .i32 a1] w fun e w' => e = .returned (.bool true) ∧ Below w.heap.size w w' := by
  have hl : len0 ≤ maxLen := by omega
  clear l0 m0 w1
  by_cases h3 : len0 ≤ 300
  · by_cases hr : A.rightB 9223372036854775807 z0 len0 = true
    · have R0 := A.hide hr
      have R := A.rt_of_right hr
      clear hr
      go_enter Try.func4, Try.ntmps4
      go_wp2_with fail
      refine (A.alive_any _).mono ?_
      rintro e w1 ⟨rfl, hb1⟩
      have hs1 := w0.below hb1
      clear w0
      go_wp2_with fail
      refine (A.rright_any _ _ _ _ z0 _ hl hs1).mono ?_
      rintro e w2 ⟨rfl, hb2⟩
      have hs2 := hs1.below hb2
      have hb2' := hb1.trans (hb2.mono hb1.size)
      clear hs1 hb1 hb2
      rw [R0.out]
      go_wp2
      go_loopw [6, 7, 8, 9, 10, 11, 12] (fun i _ _ _ _ _ _ wr => ∃ z : Int, -1 ≤ z ∧ z ≤ len0 ∧ i = .int .i64 z ∧ Below w.heap.size w wr ∧ A.SegR wr a0 len0 z0) (fun i _ _ _ _ _ _ _ => len0 + 1 - (intOf i + 1).toNat)
      case atStart => exact ⟨-1, by omega, by omega, rfl, hb2', hs2⟩
      case round =>
        obtain ⟨z, hz1, hz2, rfl, hbel, hs⟩ := hrel
        clear hs2 hb2'
        by_cases hlt : z < (len0 : Int)
        · by_cases hz3 : z < 0
          · obtain rfl : z = -1 := by omega
            clear hz1 hz2 hz3
            have q1 : decide ((-1 : Int) < (len0 : Int)) = true := by simpa using hlt
            go_wp2
            go_loopw [7, 8, 9, 10, 11, 12] (fun j _ _ _ _ _ wr => ∃ m : Nat, m ≤ 3 ∧ j = .int .i32 ((m : Int) - 1) ∧ Below w.heap.size w wr ∧ A.SegR wr a0 len0 z0) (fun j _ _ _ _ _ _ => 3 - (intOf j + 1).toNat)
            case atStart => exact ⟨0, by omega, rfl, hbel, hs⟩
            case round =>
              obtain ⟨m, hm, rfl, hb2, hs2⟩ := hrel
              clear hbel hs
              by_cases hm3 : m < 3
              · have hm4 : (m : Int) - 1 < 2 := by omega
                go_wp2_with fail
                refine (A.find_yes _ _ _ _ z0 _ (by omega) hs2 R).mono ?_
                rintro e w3 ⟨rfl, hb3⟩
                have hs3 := hs2.below hb3
                have hb3' := hb2.trans (hb3.mono hb2.size)
                clear hb3 hb2 hs2
                go_wp2_with fail
                refine (A.rfind_any _ _ _ _ z0 _ hl hs3).mono ?_
                rintro e w4 ⟨rfl, rfl⟩
                go_wp2
                go_roundw
                case rel => first | exact ⟨m + 1, by omega, by go_num, hb3', hs3⟩ | ((repeat apply Exists.intro); exact ⟨⟨m + 1, by omega, by go_num, hb3', hs3⟩, rfl⟩)
                case measure => simp [intOf]; omega
              · go_wp2
                go_roundw
                case rel => first | exact ⟨-1 + 1, by omega, by omega, rfl, hb2, hs2⟩ | ((repeat apply Exists.intro); exact ⟨⟨-1 + 1, by omega, by omega, rfl, hb2, hs2⟩, rfl⟩)
                case measure => simp [intOf] <;> omega
          · obtain ⟨i, rfl⟩ := Int.eq_ofNat_of_zero_le (show 0 ≤ z by omega)
            have hi : i < len0 := by omega
            have q1 : decide (i < len0) = true := by simpa using hi
            have q2 : decide ((i : Int) < (len0 : Int)) = true := by simpa using hlt
            go_wp2
            go_loopw [7, 8, 9, 10, 11, 12] (fun j _ _ _ _ _ wr => ∃ m : Nat, m ≤ 3 ∧ j = .int .i32 ((m : Int) - 1) ∧ Below w.heap.size w wr ∧ A.SegR wr a0 len0 z0) (fun j _ _ _ _ _ _ => 3 - (intOf j + 1).toNat)
            case atStart => exact ⟨0, by omega, rfl, hbel, hs⟩
            case round =>
              obtain ⟨m, hm, rfl, hb2, hs2⟩ := hrel
              clear hbel hs
              by_cases hm3 : m < 3
              · have hm4 : (m : Int) - 1 < 2 := by omega
                obtain ⟨b, off, rfl, hc⟩ := hs2.leads (by omega)
                obtain ⟨c0, c1, c2⟩ := hc i (by omega)
                clear hc
                generalize (A.at' z0 i).f = f at *
                generalize (A.at' z0 i).t = t at *
                generalize (A.at' z0 i).v = v at *
                go_wp2_with fail
                refine (A.find_yes _ _ _ _ z0 _ (by omega) hs2 R).mono ?_
                rintro e w3 ⟨rfl, hb3⟩
                have hs3 := hs2.below hb3
                have hb3' := hb2.trans (hb3.mono hb2.size)
                clear hb3 hb2 hs2
                go_wp2_with fail
                refine (A.rfind_any _ _ _ _ z0 _ hl hs3).mono ?_
                rintro e w4 ⟨rfl, rfl⟩
                go_wp2
                go_roundw
                case rel => first | exact ⟨m + 1, by omega, by go_num, hb3', hs3⟩ | ((repeat apply Exists.intro); exact ⟨⟨m + 1, by omega, by go_num, hb3', hs3⟩, rfl⟩)
                case measure => simp [intOf]; omega
              · go_wp2
                go_roundw
                case rel => first | exact ⟨(i : Int) + 1, by omega, by omega, rfl, hb2, hs2⟩ | ((repeat apply Exists.intro); exact ⟨⟨(i : Int) + 1, by omega, by omega, rfl, hb2, hs2⟩, rfl⟩)
                case measure => simp [intOf] <;> omega
        · go_wp2
          go_ret
          exact ⟨rfl, hbel⟩
    · have R0 := A.hide (Bool.eq_false_iff.2 hr)
      have R := R0
      clear hr
      go_enter Try.func4, Try.ntmps4
      go_wp2_with fail
      refine (A.alive_any _).mono ?_
      rintro e w1 ⟨rfl, hb1⟩
      have hs1 := w0.below hb1
      clear w0
      go_wp2_with fail
      refine (A.rright_any _ _ _ _ z0 _ hl hs1).mono ?_
      rintro e w2 ⟨rfl, hb2⟩
      have hs2 := hs1.below hb2
      have hb2' := hb1.trans (hb2.mono hb1.size)
      clear hs1 hb1 hb2
      rw [R0.out]
      go_wp2
      go_loopw [6, 7, 8, 9, 10, 11, 12] (fun i _ _ _ _ _ _ wr => ∃ z : Int, -1 ≤ z ∧ z ≤ len0 ∧ i = .int .i64 z ∧ Below w.heap.size w wr ∧ A.SegR wr a0 len0 z0) (fun i _ _ _ _ _ _ _ => len0 + 1 - (intOf i + 1).toNat)
      case atStart => exact ⟨-1, by omega, by omega, rfl, hb2', hs2⟩
      case round =>
        obtain ⟨z, hz1, hz2, rfl, hbel, hs⟩ := hrel
        clear hs2 hb2'
        by_cases hlt : z < (len0 : Int)
        · by_cases hz3 : z < 0
          · obtain rfl : z = -1 := by omega
            clear hz1 hz2 hz3
            have q1 : decide ((-1 : Int) < (len0 : Int)) = true := by simpa using hlt
            go_wp2
            go_loopw [7, 8, 9, 10, 11, 12] (fun j _ _ _ _ _ wr => ∃ m : Nat, m ≤ 3 ∧ j = .int .i32 ((m : Int) - 1) ∧ Below w.heap.size w wr ∧ A.SegR wr a0 len0 z0) (fun j _ _ _ _ _ _ => 3 - (intOf j + 1).toNat)
            case atStart => exact ⟨0, by omega, rfl, hbel, hs⟩
            case round =>
              obtain ⟨m, hm, rfl, hb2, hs2⟩ := hrel
              clear hbel hs
              by_cases hm3 : m < 3
              · have hm4 : (m : Int) - 1 < 2 := by omega
                go_wp2_with fail
                refine (A.find_no _ _ _ _ z0 _ hl hs2 R.out).mono ?_
                rintro e w3 ⟨rfl, hb3⟩
                have hs3 := hs2.below hb3
                have hb3' := hb2.trans (hb3.mono hb2.size)
                clear hb3 hb2 hs2
                go_wp2_with fail
                refine (A.rfind_any _ _ _ _ z0 _ hl hs3).mono ?_
                rintro e w4 ⟨rfl, rfl⟩
                go_wp2
                go_roundw
                case rel => first | exact ⟨m + 1, by omega, by go_num, hb3', hs3⟩ | ((repeat apply Exists.intro); exact ⟨⟨m + 1, by omega, by go_num, hb3', hs3⟩, rfl⟩)
                case measure => simp [intOf]; omega
              · go_wp2
                go_roundw
                case rel => first | exact ⟨-1 + 1, by omega, by omega, rfl, hb2, hs2⟩ | ((repeat apply Exists.intro); exact ⟨⟨-1 + 1, by omega, by omega, rfl, hb2, hs2⟩, rfl⟩)
                case measure => simp [intOf] <;> omega
          · obtain ⟨i, rfl⟩ := Int.eq_ofNat_of_zero_le (show 0 ≤ z by omega)
            have hi : i < len0 := by omega
            have q1 : decide (i < len0) = true := by simpa using hi
            have q2 : decide ((i : Int) < (len0 : Int)) = true := by simpa using hlt
            go_wp2
            go_loopw [7, 8, 9, 10, 11, 12] (fun j _ _ _ _ _ wr => ∃ m : Nat, m ≤ 3 ∧ j = .int .i32 ((m : Int) - 1) ∧ Below w.heap.size w wr ∧ A.SegR wr a0 len0 z0) (fun j _ _ _ _ _ _ => 3 - (intOf j + 1).toNat)
            case atStart => exact ⟨0, by omega, rfl, hbel, hs⟩
            case round =>
              obtain ⟨m, hm, rfl, hb2, hs2⟩ := hrel
              clear hbel hs
              by_cases hm3 : m < 3
              · have hm4 : (m : Int) - 1 < 2 := by omega
                obtain ⟨b, off, rfl, hc⟩ := hs2.leads (by omega)
                obtain ⟨c0, c1, c2⟩ := hc i (by omega)
                clear hc
                generalize (A.at' z0 i).f = f at *
                generalize (A.at' z0 i).t = t at *
                generalize (A.at' z0 i).v = v at *
                go_wp2_with fail
                refine (A.find_no _ _ _ _ z0 _ hl hs2 R.out).mono ?_
                rintro e w3 ⟨rfl, hb3⟩
                have hs3 := hs2.below hb3
                have hb3' := hb2.trans (hb3.mono hb2.size)
                clear hb3 hb2 hs2
                go_wp2_with fail
                refine (A.rfind_any _ _ _ _ z0 _ hl hs3).mono ?_
                rintro e w4 ⟨rfl, rfl⟩
                go_wp2
                go_roundw
                case rel => first | exact ⟨m + 1, by omega, by go_num, hb3', hs3⟩ | ((repeat apply Exists.intro); exact ⟨⟨m + 1, by omega, by go_num, hb3', hs3⟩, rfl⟩)
                case measure => simp [intOf]; omega
              · go_wp2
                go_roundw
                case rel => first | exact ⟨(i : Int) + 1, by omega, by omega, rfl, hb2, hs2⟩ | ((repeat apply Exists.intro); exact ⟨⟨(i : Int) + 1, by omega, by omega, rfl, hb2, hs2⟩, rfl⟩)
                case measure => simp [intOf] <;> omega
        · go_wp2
          go_ret
          exact ⟨rfl, hbel⟩
  · go_enter Try.func4, Try.ntmps4
    go_wp2_with fail
    refine (A.alive_any _).mono ?_
    rintro e w1 ⟨rfl, hb1⟩
    go_wp2
    go_ret
    exact ⟨rfl, hb1⟩

set_option maxRecDepth 100000 in
theorem lifted (os : Os) (started : os.Started) (H : Type) (enc : TypeId × Value → H) :
    ReturnsInHanded {} Try.checked os 4 .any (Rows.spanFindsSpec.pre6 enc Try.prog Try.f4 Rows.spanFindsRow.domain false) (Rows.spanFindsSpec.post enc Try.prog Try.f4 false true false false) := by
  refine returnsInHanded_of_change (C := Try.checked) own started (by kernel_rfl) Try.func4
    (ChangeSpec.witness6 (enc := enc) (C := Try.checked) false ⟨#[], #[.slice none 0 0, .int .i32 0], []⟩ 8 (by kernel_rfl) (by kernel_rfl) (by kernel_rfl) (by kernel_rfl)) ?_
  intro W base args ds gs before hval0 hW hcnd _
  have hval : ∀ (j : Nat) t v, Try.f4.params[j]? = some t → args[j]? = some v → Value.okWide Try.prog W .any base t v := hval0
  have hW' := hW
  obtain ⟨p, q, hA0, hV, rfl, hfz, hnd⟩ := hW
  have hA : DataW.TrodAll enc Try.prog W 0 (fun _ => true) true Try.f4.params.toList args.toList ds p := hA0
  rw [Try.params4] at hA hval
  obtain ⟨v0, vs0, d0, ds0, p0, q0, hargs, rfl, rfl, h0, r0⟩ := trodAll_cons hA
  obtain ⟨v1, vs1, d1, ds1, p1, q1, rfl, rfl, rfl, h1, r1⟩ := trodAll_cons r0
  obtain ⟨rfl, rfl, rfl⟩ := trodAll_nil r1
  obtain rfl : args = #[v0, v1] := by cases args; simp_all
  obtain ⟨rfl, rfl⟩ := trodVars_none hV
  obtain ⟨a0, len0, cap0, rfl⟩ := okWide_slice Try.underlying22 (hval 0 22 v0 rfl rfl)
  have k0 := h0
  have lt0 : ∀ x ∈ p0, x.block < W.heap.size := by obtain ⟨m, hm⟩ := k0; exact DataW.trod_lt m _ _ _ hm
  obtain ⟨z0, w0, l0, m0⟩ : ∃ zs, A.SegR W a0 len0 zs ∧ len0 ≤ cap0 ∧ cap0 ≤ maxLen := by obtain ⟨fuel, hf⟩ := h0; exact A.open_ranges hf
  obtain ⟨a1, rfl, rfl, rfl, w1⟩ := open_int Try.underlying21 (hval 1 21 v1 rfl rfl) h1
  clear hA0 hval0
  refine (walk a0 len0 cap0 z0 a1 W w0 l0 m0 w1).mono fun e W' ⟨he, bel⟩ => ?_
  subst he
  exact ⟨_, rfl, _, _, _, [], _, [], hW', trodAll_mk1 (shut_bool Try.underlying4 _), (trodAll_cons_mk (Below.trod laidOut (by kernel_rfl) (of_decide_eq_true (by kernel_rfl)) k0 bel lt0) (trodAll_cons_mk (shut_int Try.underlying21 w1) trodAll_mk0)), rfl, bel.frame _, fun h => by cases h⟩

theorem over : Rows.spanFindsRow.holds Try.pinned (OpenSpec.ofChange Rows.spanFindsSpec) :=
  OpenClaim.holds_of_wide 4 Try.f4 rfl rfl rfl rfl rfl rfl rfl ⟨rfl, rfl, rfl, rfl, rfl⟩ rfl rfl rfl rfl rfl (by kernel_rfl) Try.func4 (by kernel_rfl)
    (of_decide_eq_true (by kernel_rfl)) (by unfold Func.isWrapper; first | (rw [if_pos (by decide +kernel)]; kernel_rfl) | (rw [if_neg (by decide +kernel)]; exact ⟨rfl, rfl⟩))
    (fun os started H enc _ => lifted os started H enc)

/-- The statement. -/
theorem proved : Rows.SpanFindsSaid := over
#print axioms proved
end Go.Proofs.Ytebjhcgonplogaa.spanFinds
