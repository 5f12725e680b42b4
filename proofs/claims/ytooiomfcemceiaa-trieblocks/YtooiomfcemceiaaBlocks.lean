/-
  TrieBlocks returns true for every input: how many blocks of all ranges are unlike is what the document tells, and it is built when it is asked that.
  Conditions: none.
-/
import Derived.Test.YtooiomfcemceiaaMe
import Derived.OpenShut
import Derived.ShutString
import Derived.ChangeOld
import Derived.Below
namespace Go.Proofs.Ytooiomfcemceiaa.trieBlocks
open Go.ChangeShapes Go.WideShapes Go.ChangeAt Go.RowKit
open Go.ChangeMaps (open_string shut_string)
set_option linter.unusedVariables false

theorem own : ownKnob Try.prog.godebug = none := by kernel_rfl
theorem laidOut : laidOutB Try.prog = true := by kernel_rfl

set_option maxHeartbeats 800000 in
theorem walk_far (a0 : Option Addr) (len0 cap0 : Nat) (w : World) (h5 : 60 < len0) :
    Calls Try.prog 4 #[.slice a0 len0 cap0] w fun e w' => e = .returned (.bool true) ∧ Below w.heap.size w w' := by
  go_enter Try.func4, Try.ntmps4
  go_wp2_with fail
  refine (A.alive_any _).mono ?_
  rintro e w1 ⟨rfl, hb1⟩
  go_wp2_with fail
  go_ret
  exact ⟨rfl, hb1⟩

set_option maxHeartbeats 800000 in
theorem walk_no (a0 : Option Addr) (len0 cap0 : Nat) (z0 : List A.Rg) (w : World) (w0 : A.SegR w a0 len0 z0) (h0 : ¬ 60 < len0) (hr : A.rightB 255 z0 len0 = false) :
    Calls Try.prog 4 #[.slice a0 len0 cap0] w fun e w' => e = .returned (.bool true) ∧ Below w.heap.size w w' := by
  have R := A.hide hr
  clear hr
  have hnot : ∀ (x : Bool) (w : World), (Op.unary .not (.bool x)).run Try.prog w = .ok (.bool (!x)) w := fun _ _ => rfl
  go_enter Try.func4, Try.ntmps4
  go_wp2_with fail
  refine (A.alive_any _).mono ?_
  rintro e w1 ⟨rfl, hb1⟩
  have hs1 := w0.below hb1
  clear w0
  go_wp2_with fail
  refine (A.rright_any _ _ _ _ z0 _ (by unfold maxLen; omega) hs1).mono ?_
  rintro e w2 ⟨rfl, hb0⟩
  have hb0' := hb1.trans (hb0.mono hb1.size)
  clear hs1 hb1 hb0
  rw [R.out]
  go_wp2_with fail
  go_ret
  exact ⟨rfl, hb0'⟩

set_option maxRecDepth 100000 in
set_option maxHeartbeats 1600000 in
theorem walk_yes (a0 : Option Addr) (len0 cap0 : Nat) (z0 : List A.Rg) (w : World) (w0 : A.SegR w a0 len0 z0) (h0 : ¬ 60 < len0) (hr : A.rightB 255 z0 len0 = true) :
    Calls Try.prog 4 #[.slice a0 len0 cap0] w fun e w' => e = .returned (.bool true) ∧ Below w.heap.size w w' := by
  have R := A.hide hr
  have HR := A.hide (A.rt_of_right hr)
  clear hr
  have hnot : ∀ (x : Bool) (w : World), (Op.unary .not (.bool x)).run Try.prog w = .ok (.bool (!x)) w := fun _ _ => rfl
  have W0 := A.hide w0
  clear w0
  go_enter Try.func4, Try.ntmps4
  go_wp2_with fail
  refine (A.alive_any _).mono ?_
  rintro e v1 ⟨rfl, hb1⟩
  go_wp2_with fail
  refine (A.rright_any _ _ _ _ z0 _ (by unfold maxLen; omega) (W0.out.below hb1)).mono ?_
  rintro e v2 ⟨rfl, hb2⟩
  have hb3 := hb1.trans (hb2.mono hb1.size)
  clear hb1 hb2
  rw [R.out]
  go_wp2_with fail
  refine (A.new_yes _ _ _ z0 _ (by omega) (W0.out.below hb3) R.out).mono ?_
  rintro e v3 ⟨tb, rfl, ht, hb4, hlt⟩
  have HLT := A.hide (Nat.le_trans hb3.size hlt)
  have hb5 := hb3.trans (hb4.mono hb3.size)
  clear hb3 hb4 hlt
  go_wp2_with fail
  refine (A.blocks_any z0 len0 _ tb 0 false ht (by omega) HR.out).mono ?_
  rintro e v4 ⟨rfl, ht4, hg4⟩
  have hb6 := A.below_grown hb5 hg4 hb5.size HLT.out
  clear ht hg4 hb5
  generalize hnk : (A.kept (A.hv z0 len0) 8704).length = nk at *
  have HNK := A.hide hnk
  clear hnk
  go_wp2_with fail
  refine (A.rblocks_any _ _ _ z0 _ (by omega) (W0.out.below hb6) HR.out).mono ?_
  rintro e v5 ⟨rfl, hb7⟩
  rw [HNK.out]
  have ht7 := A.tr_below ht4 hb7
  have hb8 := hb6.trans (hb7.mono hb6.size)
  clear ht4 hb6 hb7
  go_wp2_with fail
  refine (A.built_any z0 len0 _ tb _ true ht7).mono ?_
  rintro e v6 ⟨rfl, hw⟩
  rw [hw]
  clear hw
  go_wp2_with fail
  refine (A.asked_any z0 len0 _ tb _ true ht7).mono ?_
  rintro e v6 ⟨rfl, hw⟩
  rw [hw]
  clear hw
  go_wp2
  go_ret
  exact ⟨rfl, hb8⟩

theorem walk (a0 : Option Addr) (len0 cap0 : Nat) (z0 : List A.Rg) (w : World) (w0 : A.SegR w a0 len0 z0) (l0 : len0 ≤ cap0) (m0 : cap0 ≤ maxLen) :
    Calls Try.prog 4 #[.slice a0 len0 cap0] w fun e w' => e = .returned (.bool true) ∧ Below w.heap.size w w' := by
  by_cases h : 60 < len0
  · exact walk_far a0 len0 cap0 w h
  · cases hr : A.rightB 255 z0 len0
    · exact walk_no a0 len0 cap0 z0 w w0 h hr
    · exact walk_yes a0 len0 cap0 z0 w w0 h hr

set_option maxRecDepth 100000 in
theorem lifted (os : Os) (started : os.Started) (H : Type) (enc : TypeId × Value → H) :
    ReturnsInHanded {} Try.checked os 4 .any (Rows.trieBlocksSpec.pre6 enc Try.prog Try.f4 Rows.trieBlocksRow.domain false) (Rows.trieBlocksSpec.post enc Try.prog Try.f4 false true false false) := by
  refine returnsInHanded_of_change (C := Try.checked) own started (by kernel_rfl) Try.func4
    (ChangeSpec.witness6 (enc := enc) (C := Try.checked) false ⟨#[], #[.slice none 0 0], []⟩ 8 (by kernel_rfl) (by kernel_rfl) (by kernel_rfl) (by kernel_rfl)) ?_
  intro W base args ds gs before hval0 hW hcnd _
  have hval : ∀ (j : Nat) t v, Try.f4.params[j]? = some t → args[j]? = some v → Value.okWide Try.prog W .any base t v := hval0
  have hW' := hW
  obtain ⟨p, q, hA0, hV, rfl, hfz, hnd⟩ := hW
  have hA : DataW.TrodAll enc Try.prog W 0 (fun _ => true) true Try.f4.params.toList args.toList ds p := hA0
  rw [Try.params4] at hA hval
  obtain ⟨v0, vs0, d0, ds0, p0, q0, hargs, rfl, rfl, h0, r0⟩ := trodAll_cons hA
  obtain ⟨rfl, rfl, rfl⟩ := trodAll_nil r0
  obtain rfl : args = #[v0] := by cases args; simp_all
  obtain ⟨rfl, rfl⟩ := trodVars_none hV
  obtain ⟨a0, len0, cap0, rfl⟩ := okWide_slice Try.underlying22 (hval 0 22 v0 rfl rfl)
  have k0 := h0
  have lt0 : ∀ x ∈ p0, x.block < W.heap.size := by obtain ⟨m, hm⟩ := k0; exact DataW.trod_lt m _ _ _ hm
  obtain ⟨z0, w0, l0, m0⟩ : ∃ zs, A.SegR W a0 len0 zs ∧ len0 ≤ cap0 ∧ cap0 ≤ maxLen := by obtain ⟨fuel, hf⟩ := h0; exact A.open_ranges hf
  clear hA0 hval0
  refine (walk a0 len0 cap0 z0 W w0 l0 m0).mono fun e W' ⟨he, bel⟩ => ?_
  subst he
  exact ⟨_, rfl, _, _, _, [], _, [], hW', trodAll_mk1 (shut_bool Try.underlying4 _), (trodAll_cons_mk (Below.trod laidOut (by kernel_rfl) (of_decide_eq_true (by kernel_rfl)) k0 bel lt0) trodAll_mk0), rfl, bel.frame _, fun h => by cases h⟩

theorem over : Rows.trieBlocksRow.holds Try.pinned (OpenSpec.ofChange Rows.trieBlocksSpec) :=
  OpenClaim.holds_of_wide 4 Try.f4 rfl rfl rfl rfl rfl rfl rfl ⟨rfl, rfl, rfl, rfl, rfl⟩ rfl rfl rfl rfl rfl (by kernel_rfl) Try.func4 (by kernel_rfl)
    (of_decide_eq_true (by kernel_rfl)) (by unfold Func.isWrapper; first | (rw [if_pos (by decide +kernel)]; kernel_rfl) | (rw [if_neg (by decide +kernel)]; exact ⟨rfl, rfl⟩))
    (fun os started H enc _ => lifted os started H enc)

/-- The statement. -/
theorem proved : Rows.TrieBlocksSaid := over
#print axioms proved
end Go.Proofs.Ytooiomfcemceiaa.trieBlocks
