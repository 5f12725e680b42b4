/-
  TrieSame returns true for every input: what a code has is what its ranges find, and asking again turns nothing but the number of what was asked.
  Conditions: none.
-/
import Derived.Test.YtooiomfcemceiaaJ
import Derived.OpenShut
import Derived.ShutString
import Derived.ChangeOld
import Derived.Below
namespace Go.Proofs.Ytooiomfcemceiaa.trieSame
open Go.ChangeShapes Go.WideShapes Go.ChangeAt Go.RowKit
open Go.ChangeMaps (open_string shut_string)
set_option linter.unusedVariables false

theorem own : ownKnob Try.prog.godebug = none := by kernel_rfl
theorem laidOut : laidOutB Try.prog = true := by kernel_rfl

set_option maxHeartbeats 800000 in
theorem walk_far (a0 : Option Addr) (len0 cap0 : Nat) (a1 : Option Addr) (len1 cap1 : Nat) (w : World) (h5 : 100 < len0 ∨ 100 < len1) :
    Calls Try.prog 5 #[.slice a0 len0 cap0, .slice a1 len1 cap1] w fun e w' => e = .returned (.bool true) ∧ Below w.heap.size w w' := by
  by_cases h6 : 100 < len0
  · go_enter Try.func5, Try.ntmps5
    go_wp2_with fail
    refine (A.alive_any _).mono ?_
    rintro e w1 ⟨rfl, hb1⟩
    go_wp2_with fail
    go_ret
    exact ⟨rfl, hb1⟩
  · have h7 : 100 < len1 := by omega
    clear h5
    go_enter Try.func5, Try.ntmps5
    go_wp2_with fail
    refine (A.alive_any _).mono ?_
    rintro e w1 ⟨rfl, hb1⟩
    go_wp2_with fail
    go_ret
    exact ⟨rfl, hb1⟩

set_option maxHeartbeats 800000 in
theorem walk_no (a0 : Option Addr) (len0 cap0 : Nat) (z0 : List A.Rg) (a1 : Option Addr) (len1 cap1 : Nat) (w : World) (w0 : A.SegR w a0 len0 z0) (h0 : ¬ 100 < len0) (h1 : ¬ 100 < len1) (hr : A.rightB 255 z0 len0 = false) :
    Calls Try.prog 5 #[.slice a0 len0 cap0, .slice a1 len1 cap1] w fun e w' => e = .returned (.bool true) ∧ Below w.heap.size w w' := by
  have R := A.hide hr
  clear hr
  have hnot : ∀ (x : Bool) (w : World), (Op.unary .not (.bool x)).run Try.prog w = .ok (.bool (!x)) w := fun _ _ => rfl
  go_enter Try.func5, Try.ntmps5
  go_wp2_with fail
  refine (A.alive_any _).mono ?_
  rintro e w1 ⟨rfl, hb1⟩
  have hs1 := w0.below hb1
  clear w0
  go_wp2_with fail
  refine (A.right_any _ _ _ _ z0 _ (by unfold maxLen; omega) hs1).mono ?_
  rintro e w2 ⟨rfl, hb0⟩
  have hb0' := hb1.trans (hb0.mono hb1.size)
  clear hs1 hb1 hb0
  rw [R.out]
  go_wp2_with fail
  go_ret
  exact ⟨rfl, hb0'⟩

set_option maxRecDepth 100000 in
set_option maxHeartbeats 3200000 in
theorem walk_yes (a0 : Option Addr) (len0 cap0 : Nat) (z0 : List A.Rg) (a1 : Option Addr) (len1 cap1 : Nat) (z1 : List Int) (w : World) (w0 : A.SegR w a0 len0 z0) (w1 : A.SegC w a1 len1 z1) (h0 : ¬ 100 < len0) (h1 : ¬ 100 < len1) (hr : A.rightB 255 z0 len0 = true) :
    Calls Try.prog 5 #[.slice a0 len0 cap0, .slice a1 len1 cap1] w fun e w' => e = .returned (.bool true) ∧ Below w.heap.size w w' := by
  have R := A.hide hr
  have HR := A.hide (A.rt_of_right hr)
  clear hr
  have hnot : ∀ (x : Bool) (w : World), (Op.unary .not (.bool x)).run Try.prog w = .ok (.bool (!x)) w := fun _ _ => rfl
  have W0 := A.hide w0
  have W1 := A.hide w1
  clear w0 w1
  go_enter Try.func5, Try.ntmps5
  go_wp2_with fail
  refine (A.alive_any _).mono ?_
  rintro e v1 ⟨rfl, hb1⟩
  go_wp2_with fail
  refine (A.right_any _ _ _ _ z0 _ (by unfold maxLen; omega) (W0.out.below hb1)).mono ?_
  rintro e v2 ⟨rfl, hb2⟩
  have HB2 := A.hide (hb1.trans (hb2.mono hb1.size))
  clear hb1 hb2
  rw [R.out]
  go_wp2_with fail
  refine (A.new_yes _ _ _ z0 _ (by omega) (W0.out.below HB2.out) R.out).mono ?_
  rintro e v3 ⟨tb, rfl, ht, hb3, hlt⟩
  have HLT := A.hide (Nat.le_trans HB2.out.size hlt)
  have HB3 := A.hide (HB2.out.trans (hb3.mono HB2.out.size))
  clear hb3 hlt HB2
  go_wp2_with fail
  refine (A.blocks_any z0 len0 _ tb 0 false ht (by omega) HR.out).mono ?_
  rintro e v4 ⟨rfl, ht4, hg4⟩
  have hb4 := A.below_grown HB3.out hg4 HB3.out.size HLT.out
  clear ht hg4 HB3
  generalize hnk : (A.kept (A.hv z0 len0) 8704).length = nk at *
  have HNK := A.hide hnk
  clear hnk
  go_wp2_with fail
  go_loopw [7] (fun i wr => ∃ k : Nat, k ≤ len1 ∧ i = .int .i64 k ∧ A.Tr z0 len0 wr tb (2 * (k : Int)) true ∧ Below w.heap.size w wr) (fun i _ => len1 - (intOf i).toNat)
  case atStart => exact ⟨0, Nat.zero_le _, rfl, ht4, hb4⟩
  case round =>
    obtain ⟨k, hk, rfl, ht, hb⟩ := hrel
    clear ht4 hb4
    by_cases hlt : k < len1
    · obtain ⟨b, off, rfl, hc⟩ := W1.out.leads (by omega)
      have CW := A.hide (hc k hlt)
      clear hc
      generalize z1.getD k 0 = c at *
      have c0 := (hb.cell (p := ⟨b, off + k, none⟩) (A.cell_lt CW.out)).trans CW.out
      go_wp2_with fail
      refine (A.find_yes a0 len0 cap0 c z0 wr (by omega) (W0.out.below hb) (A.rt_more HR.out (by decide))).mono ?_
      rintro e v5 ⟨rfl, hb5⟩
      have ht5 := A.tr_below ht hb5
      have hb6 := hb.trans (hb5.mono hb.size)
      have c5 := (hb6.cell (p := ⟨b, off + k, none⟩) (A.cell_lt CW.out)).trans CW.out
      clear ht hb c0 hb5
      go_wp2_with fail
      refine (A.valid_any _ _).mono ?_
      rintro e v6 ⟨rfl, hw⟩
      rw [hw]
      clear hw
      cases hvb : A.validB c
      · have HV := A.hide (show A.hv z0 len0 c = 0 from A.hv_bad hvb)
        go_wp2_with fail
        refine (A.get_any z0 len0 _ tb _ true c ht5 (by omega) HR.out (by omega) (by omega)).mono ?_
        rintro e v7 ⟨rfl, ht7, hg7⟩
        rw [HV.out]
        have hb7 := A.below_grown hb6 hg7 hb6.size HLT.out
        have c7 := (hb7.cell (p := ⟨b, off + k, none⟩) (A.cell_lt CW.out)).trans CW.out
        clear ht5 hg7 hb6 c5
        go_wp2_with fail
        refine (A.get_any z0 len0 _ tb _ true c ht7 (by omega) HR.out (by omega) (by omega)).mono ?_
        rintro e v8 ⟨rfl, ht8, hg8⟩
        rw [HV.out]
        have hb8 := A.below_grown hb7 hg8 hb7.size HLT.out
        rw [show (2 * (k : Int) + 1 + 1) = 2 * ((k + 1 : Nat) : Int) by omega] at ht8
        clear ht7 hg8 hb7 c7
        go_wp2
        go_roundw
        case rel => exact ⟨k + 1, by omega, by go_num, ht8, hb8⟩
        case measure => simp [intOf]; omega
      · have HV := A.hide (show A.hv z0 len0 c = (A.fnd z0 c len0).1 from by unfold A.hv; rw [hvb]; rfl)
        generalize (A.fnd z0 c len0).1 = f at *
        go_wp2_with fail
        refine (A.get_any z0 len0 _ tb _ true c ht5 (by omega) HR.out (by omega) (by omega)).mono ?_
        rintro e v7 ⟨rfl, ht7, hg7⟩
        rw [HV.out]
        have hb7 := A.below_grown hb6 hg7 hb6.size HLT.out
        have c7 := (hb7.cell (p := ⟨b, off + k, none⟩) (A.cell_lt CW.out)).trans CW.out
        clear ht5 hg7 hb6 c5
        go_wp2_with fail
        refine (A.get_any z0 len0 _ tb _ true c ht7 (by omega) HR.out (by omega) (by omega)).mono ?_
        rintro e v8 ⟨rfl, ht8, hg8⟩
        rw [HV.out]
        have hb8 := A.below_grown hb7 hg8 hb7.size HLT.out
        rw [show (2 * (k : Int) + 1 + 1) = 2 * ((k + 1 : Nat) : Int) by omega] at ht8
        clear ht7 hg8 hb7 c7
        go_wp2
        go_roundw
        case rel => exact ⟨k + 1, by omega, by go_num, ht8, hb8⟩
        case measure => simp [intOf]; omega
    · have e : k = len1 := by omega
      subst e
      go_wp2_with fail
      refine (A.blocks_any z0 len0 _ tb _ true ht (by omega) HR.out).mono ?_
      rintro e v4 ⟨rfl, ht4, hg4⟩
      rw [HNK.out]
      have hb4 := A.below_grown hb hg4 hb.size HLT.out
      clear ht hg4 hb
      go_wp2_with fail
      refine (A.asked_any z0 len0 _ tb _ true ht4).mono ?_
      rintro e v5 ⟨rfl, hw⟩
      rw [hw]
      clear hw
      go_wp2
      go_ret
      exact ⟨A.ret_bool (by simp), hb4⟩

theorem walk (a0 : Option Addr) (len0 cap0 : Nat) (z0 : List A.Rg) (a1 : Option Addr) (len1 cap1 : Nat) (z1 : List Int) (w : World) (w0 : A.SegR w a0 len0 z0) (l0 : len0 ≤ cap0) (m0 : cap0 ≤ maxLen) (w1 : A.SegC w a1 len1 z1) (l1 : len1 ≤ cap1) (m1 : cap1 ≤ maxLen) :
    Calls Try.prog 5 #[.slice a0 len0 cap0, .slice a1 len1 cap1] w fun e w' => e = .returned (.bool true) ∧ Below w.heap.size w w' := by
  by_cases h : 100 < len0 ∨ 100 < len1
  · exact walk_far a0 len0 cap0 a1 len1 cap1 w h
  · cases hr : A.rightB 255 z0 len0
    · exact walk_no a0 len0 cap0 z0 a1 len1 cap1 w w0 (by omega) (by omega) hr
    · exact walk_yes a0 len0 cap0 z0 a1 len1 cap1 z1 w w0 w1 (by omega) (by omega) hr

set_option maxRecDepth 100000 in
theorem lifted (os : Os) (started : os.Started) (H : Type) (enc : TypeId × Value → H) :
    ReturnsInHanded {} Try.checked os 5 .any (Rows.trieSameSpec.pre6 enc Try.prog Try.f5 Rows.trieSameRow.domain false) (Rows.trieSameSpec.post enc Try.prog Try.f5 false true false false) := by
  refine returnsInHanded_of_change (C := Try.checked) own started (by kernel_rfl) Try.func5
    (ChangeSpec.witness6 (enc := enc) (C := Try.checked) false ⟨#[], #[.slice none 0 0, .slice none 0 0], []⟩ 8 (by kernel_rfl) (by kernel_rfl) (by kernel_rfl) (by kernel_rfl)) ?_
  intro W base args ds gs before hval0 hW hcnd _
  have hval : ∀ (j : Nat) t v, Try.f5.params[j]? = some t → args[j]? = some v → Value.okWide Try.prog W .any base t v := hval0
  have hW' := hW
  obtain ⟨p, q, hA0, hV, rfl, hfz, hnd⟩ := hW
  have hA : DataW.TrodAll enc Try.prog W 0 (fun _ => true) true Try.f5.params.toList args.toList ds p := hA0
  rw [Try.params5] at hA hval
  obtain ⟨v0, vs0, d0, ds0, p0, q0, hargs, rfl, rfl, h0, r0⟩ := trodAll_cons hA
  obtain ⟨v1, vs1, d1, ds1, p1, q1, rfl, rfl, rfl, h1, r1⟩ := trodAll_cons r0
  obtain ⟨rfl, rfl, rfl⟩ := trodAll_nil r1
  obtain rfl : args = #[v0, v1] := by cases args; simp_all
  obtain ⟨rfl, rfl⟩ := trodVars_none hV
  obtain ⟨a0, len0, cap0, rfl⟩ := okWide_slice Try.underlying22 (hval 0 22 v0 rfl rfl)
  have k0 := h0
  have lt0 : ∀ x ∈ p0, x.block < W.heap.size := by obtain ⟨m, hm⟩ := k0; exact DataW.trod_lt m _ _ _ hm
  obtain ⟨z0, w0, l0, m0⟩ : ∃ zs, A.SegR W a0 len0 zs ∧ len0 ≤ cap0 ∧ cap0 ≤ maxLen := by obtain ⟨fuel, hf⟩ := h0; exact A.open_ranges hf
  obtain ⟨a1, len1, cap1, rfl⟩ := okWide_slice Try.underlying23 (hval 1 23 v1 rfl rfl)
  have k1 := h1
  have lt1 : ∀ x ∈ p1, x.block < W.heap.size := by obtain ⟨m, hm⟩ := k1; exact DataW.trod_lt m _ _ _ hm
  obtain ⟨z1, w1, l1, m1⟩ : ∃ zs, A.SegC W a1 len1 zs ∧ len1 ≤ cap1 ∧ cap1 ≤ maxLen := by obtain ⟨fuel, hf⟩ := h1; exact A.open_codes hf
  clear hA0 hval0
  refine (walk a0 len0 cap0 z0 a1 len1 cap1 z1 W w0 l0 m0 w1 l1 m1).mono fun e W' ⟨he, bel⟩ => ?_
  subst he
  exact ⟨_, rfl, _, _, _, [], _, [], hW', trodAll_mk1 (shut_bool Try.underlying4 _), (trodAll_cons_mk (Below.trod laidOut (by kernel_rfl) (of_decide_eq_true (by kernel_rfl)) k0 bel lt0) (trodAll_cons_mk (Below.trod laidOut (by kernel_rfl) (of_decide_eq_true (by kernel_rfl)) k1 bel lt1) trodAll_mk0)), rfl, bel.frame _, fun h => by cases h⟩

theorem over : Rows.trieSameRow.holds Try.pinned (OpenSpec.ofChange Rows.trieSameSpec) :=
  OpenClaim.holds_of_wide 5 Try.f5 rfl rfl rfl rfl rfl rfl rfl ⟨rfl, rfl, rfl, rfl, rfl⟩ rfl rfl rfl rfl rfl (by kernel_rfl) Try.func5 (by kernel_rfl)
    (of_decide_eq_true (by kernel_rfl)) (by unfold Func.isWrapper; first | (rw [if_pos (by decide +kernel)]; kernel_rfl) | (rw [if_neg (by decide +kernel)]; exact ⟨rfl, rfl⟩))
    (fun os started H enc _ => lifted os started H enc)

/-- The statement. -/
theorem proved : Rows.TrieSameSaid := over
#print axioms proved
end Go.Proofs.Ytooiomfcemceiaa.trieSame
