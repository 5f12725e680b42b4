/-
  For every grammar: the program tells whether it is right as the document does.
  Conditions: none. (The row lists two tables of the library; the card ties them to the program's text.)
-/
import Derived.Test.YtgjjmcgmdlfdaaaDoorVb
import Derived.Test.YtgjjmcgmdlfdaaaDoorTie
import Derived.Test.YtgjjmcgmdlfdaaaDoorCards
import Derived.SevenTiedAt
import Derived.OpenShut
import Derived.ShutString
import Derived.ChangeOld
import Derived.Below
namespace Go.Proofs.YtgjjmcgmdlfdaaaDoor.rulesRight
open Go.ChangeShapes Go.WideShapes Go.ChangeAt Go.RowKit
open Go.ChangeMaps (open_string shut_string)
set_option linter.unusedVariables false

set_option maxRecDepth 100000 in
set_option maxHeartbeats 6400000 in
theorem walk (a0 : Option Addr) (len0 cap0 : Nat) (z0 : List A.Rl) (m : Int) (w : World) (hm : w.cell? ⟨0, 0, none⟩ = some (.int .i64 m)) (w0 : A.Rs w a0 len0 z0) (l0 : len0 ≤ cap0) (m0 : cap0 ≤ maxLen) :
    Calls Tryd.prog 3 #[.slice a0 len0 cap0] w fun e w' => e = .returned (.bool true) ∧ Below w.heap.size w w' := by
  have HW := A.hide w0
  have HM := A.hide hm
  clear w0 hm
  go_enter Tryd.func3, Tryd.ntmps3
  go_wp2_with fail
  refine (A.alive_any m w HM.out).mono ?_
  rintro e u1 ⟨rfl, hb1⟩
  have HW1 := A.hide (A.rs_below hb1 HW.out)
  have HB1 := A.hide hb1
  clear hb1 HW HM
  go_wp2_with fail
  refine (A.rgreatG_any a0 len0 cap0 z0 u1 l0 m0 HW1.out).mono ?_
  rintro e u2 ⟨rfl, hb2⟩
  have HW2 := A.hide (A.rs_below hb2 HW1.out)
  have HB2 := A.hide (HB1.out.trans (hb2.mono HB1.out.size))
  clear hb2 HW1 HB1
  cases hg : A.greatG z0 with
  | true =>
    clear hg
    go_wp2
    go_ret
    exact ⟨rfl, HB2.out⟩
  | false =>
    obtain ⟨z, hz, hn⟩ := A.rs_trim HW2.out hg
    have HZ := A.hide hz
    have HN := A.hide (show ∀ x ∈ z, x.n ≤ 1000 from fun x hx => by have := hn x hx; omega)
    clear hz hn hg HW2
    go_wp2_with fail
    refine (A.rightG_any a0 len0 cap0 z u2 l0 m0 HZ.out).mono ?_
    rintro e u3 ⟨rfl, hb3⟩
    have HZ3 := A.hide (A.rs_below hb3 HZ.out)
    have HB3 := A.hide (HB2.out.trans (hb3.mono HB2.out.size))
    clear hb3 HZ HB2
    go_wp2_with fail
    refine (A.rrightG_any a0 len0 cap0 z u3 l0 m0 HN.out HZ3.out).mono ?_
    rintro e u4 ⟨rfl, hb4⟩
    have HB4 := A.hide (HB3.out.trans (hb4.mono HB3.out.size))
    clear hb4
    cases A.rightG z with
    | true =>
      go_wp2
      go_ret
      exact ⟨rfl, HB4.out⟩
    | false =>
      go_wp2
      go_ret
      exact ⟨rfl, HB4.out⟩

set_option maxRecDepth 100000 in
theorem lifted (os : Os) (started : os.Started) (H : Type) (enc : TypeId × Value → H) :
    ReturnsInHanded {} Tryd.checked os 3 .any (fun w args => (Rows.rulesRightSpec.pre enc Tryd.prog Tryd.f3 [] false w args ∧ laidMetH Tryd.prog Rows.rulesRightRow.laid w) ∧ sizedMet enc Tryd.prog Tryd.f3 (OpenSpec.ofChange Rows.rulesRightSpec) false w args) (Rows.rulesRightSpec.post enc Tryd.prog Tryd.f3 false true false false) := by
  refine A.of_laid_shaped (C := Tryd.checked) (X := fun w _ => laidMetH Tryd.prog Rows.rulesRightRow.laid w) (fun _ _ _ hh h => h.of_heap hh) A.own started (by kernel_rfl) Tryd.func3
    (ChangeSpec.witness_shaped (enc := enc) (C := Tryd.checked) (os := os) (X := fun w _ => laidMetH Tryd.prog Rows.rulesRightRow.laid w) false ({ World.doorLaid Tryd.prog 19 os with heap := (World.doorLaid Tryd.prog 19 os).heap.setIfInBounds 1 (.cells A.firstRow 101 (0, 0)) } : World) #[.slice none 0 0] 8 rfl (World.shaped_of_RefB (by kernel_rfl) (by kernel_rfl)) (by kernel_rfl) (by kernel_rfl) (by kernel_rfl) (A.met os _)) ?_
  intro W base args ds gs before hval0 hW hsh
  obtain ⟨m, hm⟩ := A.maxLen_some hsh
  have hval : ∀ (j : Nat) t v, Tryd.f3.params[j]? = some t → args[j]? = some v → Value.okWide Tryd.prog W .any base t v := hval0
  have hW' := hW
  obtain ⟨p, q, hA0, hV, rfl, hfz, hnd⟩ := hW
  have hA : DataW.TrodAll enc Tryd.prog W 0 (fun _ => true) true Tryd.f3.params.toList args.toList ds p := hA0
  rw [Tryd.params3] at hA hval
  obtain ⟨v0, vs0, d0, ds0, p0, q0, hargs, rfl, rfl, h0, r0⟩ := trodAll_cons hA
  obtain ⟨rfl, rfl, rfl⟩ := trodAll_nil r0
  obtain rfl : args = #[v0] := by cases args; simp_all
  obtain ⟨rfl, rfl⟩ := trodVars_none hV
  obtain ⟨a0, len0, cap0, rfl⟩ := okWide_slice Tryd.underlying22 (hval 0 22 v0 rfl rfl)
  have k0 := h0
  have lt0 : ∀ x ∈ p0, x.block < W.heap.size := by obtain ⟨m, hm⟩ := k0; exact DataW.trod_lt m _ _ _ hm
  obtain ⟨z0, w0, l0, m0⟩ : ∃ zs : List A.Rl, A.Rs W a0 len0 zs ∧ len0 ≤ cap0 ∧ cap0 ≤ maxLen := by obtain ⟨fuel, hf⟩ := h0; exact A.open_rules hf
  clear hA0 hval0
  refine (walk a0 len0 cap0 z0 m W hm w0 l0 m0).mono fun e W' ⟨he, bel⟩ => ?_
  subst he
  exact ⟨_, rfl, _, _, _, [], _, [], hW', trodAll_mk1 (shut_bool Tryd.underlying4 _), (trodAll_cons_mk (Below.trod A.laidOut (by kernel_rfl) (of_decide_eq_true (by kernel_rfl)) k0 bel lt0) trodAll_mk0), rfl, bel.frame _, fun h => by cases h⟩

theorem over : Rows.rulesRightRow.holds Tryd.pinned (OpenSpec.ofChange Rows.rulesRightSpec) :=
  OpenClaim.holds_of_wide 3 Tryd.f3 rfl rfl rfl rfl rfl rfl rfl ⟨rfl, rfl, rfl, rfl, rfl⟩ rfl rfl rfl rfl rfl (by kernel_rfl) Tryd.func3 (by kernel_rfl)
    (of_decide_eq_true (by kernel_rfl)) (by unfold Func.isWrapper; first | (rw [if_pos (by decide +kernel)]; kernel_rfl) | (rw [if_neg (by decide +kernel)]; exact ⟨rfl, rfl⟩))
    (fun os started H enc _ => lifted os started H enc)

/-- The statement: the tied card. -/
theorem proved : Rows.RulesRightCardSaid :=
  Claim7.holds_tied_plain_at .later [] [.data, .pinned] true Rows.rulesRightCard.stood.harness false
    over (fun _ h => by cases h) (by kernel_rfl) (fun _ h => by cases h) rulesRight_row_tie rfl ⟨rfl, rfl⟩ (by kernel_rfl) rfl
    (fun f fn hf hfn => by
      obtain rfl : f = 3 := Option.some.inj ((show Tryd.prog.funcNamed Rows.rulesRightRow.func = some 3 by kernel_rfl).symm.trans hf) |>.symm
      obtain rfl : fn = Tryd.f3 := (Option.some.inj (Tryd.func3.symm.trans hfn)).symm
      exact ⟨by kernel_rfl, fun j t ht => by
        rw [Tryd.params3] at ht
        have hmem : t ∈ [22] := by simpa using Array.mem_of_getElem? ht
        have hall : ([22].all fun u => !Tryd.prog.wantsStandIn u) = true := by kernel_rfl
        exact (show Tryd.prog.wantsStandIn t = false by simpa using List.all_eq_true.1 hall t hmem)⟩)
    (by kernel_rfl)
#print axioms proved
end Go.Proofs.YtgjjmcgmdlfdaaaDoor.rulesRight
