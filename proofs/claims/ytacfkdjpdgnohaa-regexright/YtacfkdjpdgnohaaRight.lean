/-
  For every expression the program tells whether it may be, how many nodes it has and how deep it is, as the document does.
  Conditions: none.
-/
import Derived.Test.YtacfkdjpdgnohaaSf
import Derived.OpenShut
import Derived.ShutString
import Derived.ChangeOld
import Derived.Below
namespace Go.Proofs.Ytacfkdjpdgnohaa.regexRight
open Go.ChangeShapes Go.WideShapes Go.ChangeAt Go.RowKit
open Go.ChangeMaps (open_string shut_string)
set_option linter.unusedVariables false

theorem own : ownKnob Try.prog.godebug = none := by kernel_rfl
theorem laidOut : laidOutB Try.prog = true := by kernel_rfl

set_option maxRecDepth 100000 in
set_option maxHeartbeats 6400000 in
theorem walk (v0 : Value) (n0 : Nat) (t0 : A.Ex n0) (w : World) (w0 : A.Rx w n0 t0 v0) :
    Calls Try.prog 3 #[v0] w fun e w' => e = .returned (.bool true) ∧ Below w.heap.size w w' := by
  obtain ⟨c0, c1, c2, rfl⟩ := A.rx_form w0
  have HB0 := A.hide ((Below.refl w.heap.size w).alloc (Nat.le_refl _) (.cells #[c0, c1, c2] 25))
  have HP := A.hide (A.box3 w c0 c1 c2 25)
  have HX := A.hide (A.rx_below HB0.out n0 t0 _ w0)
  clear w0
  go_enter Try.func3, Try.ntmps3
  go_wp2_with fail
  obtain ⟨p0, p1, p2⟩ := HP.out
  clear HP
  generalize w.alloc (.cells #[c0, c1, c2] 25) = W at *
  obtain ⟨q, hq⟩ : ∃ q, w.heap.size = q := ⟨_, rfl⟩
  rw [hq] at p0 p1 p2 HB0 ⊢
  have HQ := A.hide hq
  clear hq
  refine (A.alive_any W).mono ?_
  rintro e u1 ⟨rfl, hb1⟩
  have r0 := (hb1.cell (p := ⟨q, 0, none⟩) (A.cell_lt p0)).trans p0
  have r1 := (hb1.cell (p := ⟨q, 1, none⟩) (A.cell_lt p1)).trans p1
  have r2 := (hb1.cell (p := ⟨q, 2, none⟩) (A.cell_lt p2)).trans p2
  have HX1 := A.hide (A.rx_below hb1 n0 t0 _ HX.out)
  have HB1 := A.hide (HB0.out.trans (hb1.mono (by have := HB0.out.size; rw [HQ.out] at this; exact this)))
  clear hb1 p0 p1 p2 HX HB0
  go_wp2_with fail
  refine (A.rgreat_any n0 t0 _ 30 u1 (by omega) HX1.out).mono ?_
  rintro e u2 ⟨rfl, hb2⟩
  have p0 := (hb2.cell (p := ⟨q, 0, none⟩) (A.cell_lt r0)).trans r0
  have p1 := (hb2.cell (p := ⟨q, 1, none⟩) (A.cell_lt r1)).trans r1
  have p2 := (hb2.cell (p := ⟨q, 2, none⟩) (A.cell_lt r2)).trans r2
  have HX2 := A.hide (A.rx_below hb2 n0 t0 _ HX1.out)
  have HB2 := A.hide (HB1.out.trans (hb2.mono (Nat.le_trans (by rw [HQ.out]; exact Nat.le_refl _) HB1.out.size)))
  clear hb2 r0 r1 r2 HX1 HB1
  cases hg : A.greatE n0 t0 30
  · obtain ⟨t, ht⟩ := A.rx_trim 30 n0 t0 _ HX2.out hg
    have HT2 := A.hide ht
    clear ht hg HX2
    have hsz : q ≤ u2.heap.size := Nat.le_trans (by rw [HQ.out]; exact Nat.le_refl _) HB2.out.size
    go_wp2_with fail
    refine (A.rright_any 30 t _ u2 (by omega) HT2.out).mono ?_
    rintro e u3 ⟨rfl, hb3⟩
    have r0 := (hb3.cell (p := ⟨q, 0, none⟩) (A.cell_lt p0)).trans p0
    have r1 := (hb3.cell (p := ⟨q, 1, none⟩) (A.cell_lt p1)).trans p1
    have r2 := (hb3.cell (p := ⟨q, 2, none⟩) (A.cell_lt p2)).trans p2
    have HT3 := A.hide (A.rx_below hb3 30 t _ HT2.out)
    have HB3 := A.hide (HB2.out.trans (hb3.mono hsz))
    have hz3 : q ≤ u3.heap.size := Nat.le_trans hsz hb3.size
    clear hb3 p0 p1 p2 HT2 HB2 hsz
    have HN := A.hide (show A.nodesR 30 t = if A.rightE 30 t = true then A.nodesE 30 t else 0 from rfl)
    have HD := A.hide (show A.deepR 30 t = if A.rightE 30 t = true then A.deepE 30 t 12 else 0 from rfl)
    cases hr : A.rightE 30 t
    · rw [hr] at HN HD
      have HR := A.hide hr
      clear hr
      go_wp2_with fail
      refine (A.right_any 30 t _ u3 HT3.out).mono ?_
      rintro e u4 ⟨rfl, hb4⟩
      rw [HR.out]
      have p0 := (hb4.cell (p := ⟨q, 0, none⟩) (A.cell_lt r0)).trans r0
      have p1 := (hb4.cell (p := ⟨q, 1, none⟩) (A.cell_lt r1)).trans r1
      have p2 := (hb4.cell (p := ⟨q, 2, none⟩) (A.cell_lt r2)).trans r2
      have HT4 := A.hide (A.rx_below hb4 30 t _ HT3.out)
      have HB4 := A.hide (HB3.out.trans (hb4.mono hz3))
      have hz4 : q ≤ u4.heap.size := Nat.le_trans hz3 hb4.size
      clear hb4 r0 r1 r2 HT3 HB3 hz3
      go_wp2_with fail
      refine (A.nodes_any 30 t _ u4 HT4.out).mono ?_
      rintro e u5 ⟨rfl, hb5⟩
      rw [show A.nodesR 30 t = 0 from HN.out]
      have r0 := (hb5.cell (p := ⟨q, 0, none⟩) (A.cell_lt p0)).trans p0
      have r1 := (hb5.cell (p := ⟨q, 1, none⟩) (A.cell_lt p1)).trans p1
      have r2 := (hb5.cell (p := ⟨q, 2, none⟩) (A.cell_lt p2)).trans p2
      have HT5 := A.hide (A.rx_below hb5 30 t _ HT4.out)
      have HB5 := A.hide (HB4.out.trans (hb5.mono hz4))
      have hz5 : q ≤ u5.heap.size := Nat.le_trans hz4 hb5.size
      clear hb5 p0 p1 p2 HT4 HB4 hz4
      go_wp2_with fail
      refine (A.deep_any 30 t _ u5 HT5.out).mono ?_
      rintro e u6 ⟨rfl, hb6⟩
      rw [show A.deepR 30 t = 0 from HD.out]
      have HB6 := A.hide (HB5.out.trans (hb6.mono hz5))
      clear hb6 r0 r1 r2 HT5 HB5
      go_wp2
      go_ret
      exact ⟨rfl, by rw [HQ.out]; exact HB6.out⟩
    · rw [hr] at HN HD
      have HR := A.hide hr
      clear hr
      go_wp2_with fail
      refine (A.rnodes_any 30 t _ u3 (by omega) HT3.out).mono ?_
      rintro e u3a ⟨rfl, hb3⟩
      have p0 := (hb3.cell (p := ⟨q, 0, none⟩) (A.cell_lt r0)).trans r0
      have p1 := (hb3.cell (p := ⟨q, 1, none⟩) (A.cell_lt r1)).trans r1
      have p2 := (hb3.cell (p := ⟨q, 2, none⟩) (A.cell_lt r2)).trans r2
      have HT3a := A.hide (A.rx_below hb3 30 t _ HT3.out)
      have HB3a := A.hide (HB3.out.trans (hb3.mono hz3))
      have hz3a : q ≤ u3a.heap.size := Nat.le_trans hz3 hb3.size
      clear hb3 r0 r1 r2 HT3 HB3 hz3
      go_wp2_with fail
      refine (A.rdeep_any 30 t _ 12 u3a (by omega) HT3a.out).mono ?_
      rintro e u3b ⟨rfl, hb3⟩
      have r0 := (hb3.cell (p := ⟨q, 0, none⟩) (A.cell_lt p0)).trans p0
      have r1 := (hb3.cell (p := ⟨q, 1, none⟩) (A.cell_lt p1)).trans p1
      have r2 := (hb3.cell (p := ⟨q, 2, none⟩) (A.cell_lt p2)).trans p2
      have HT3 := A.hide (A.rx_below hb3 30 t _ HT3a.out)
      have HB3 := A.hide (HB3a.out.trans (hb3.mono hz3a))
      have hz3 : q ≤ u3b.heap.size := Nat.le_trans hz3a hb3.size
      clear hb3 p0 p1 p2 HT3a HB3a hz3a
      go_wp2_with fail
      refine (A.right_any 30 t _ u3b HT3.out).mono ?_
      rintro e u4 ⟨rfl, hb4⟩
      rw [HR.out]
      have p0 := (hb4.cell (p := ⟨q, 0, none⟩) (A.cell_lt r0)).trans r0
      have p1 := (hb4.cell (p := ⟨q, 1, none⟩) (A.cell_lt r1)).trans r1
      have p2 := (hb4.cell (p := ⟨q, 2, none⟩) (A.cell_lt r2)).trans r2
      have HT4 := A.hide (A.rx_below hb4 30 t _ HT3.out)
      have HB4 := A.hide (HB3.out.trans (hb4.mono hz3))
      have hz4 : q ≤ u4.heap.size := Nat.le_trans hz3 hb4.size
      clear hb4 r0 r1 r2 HT3 HB3 hz3
      go_wp2_with fail
      refine (A.nodes_any 30 t _ u4 HT4.out).mono ?_
      rintro e u5 ⟨rfl, hb5⟩
      rw [show A.nodesR 30 t = A.nodesE 30 t from HN.out]
      have r0 := (hb5.cell (p := ⟨q, 0, none⟩) (A.cell_lt p0)).trans p0
      have r1 := (hb5.cell (p := ⟨q, 1, none⟩) (A.cell_lt p1)).trans p1
      have r2 := (hb5.cell (p := ⟨q, 2, none⟩) (A.cell_lt p2)).trans p2
      have HT5 := A.hide (A.rx_below hb5 30 t _ HT4.out)
      have HB5 := A.hide (HB4.out.trans (hb5.mono hz4))
      have hz5 : q ≤ u5.heap.size := Nat.le_trans hz4 hb5.size
      clear hb5 p0 p1 p2 HT4 HB4 hz4
      go_wp2_with fail
      refine (A.deep_any 30 t _ u5 HT5.out).mono ?_
      rintro e u6 ⟨rfl, hb6⟩
      rw [show A.deepR 30 t = A.deepE 30 t 12 from HD.out]
      have HB6 := A.hide (HB5.out.trans (hb6.mono hz5))
      clear hb6 r0 r1 r2 HT5 HB5
      go_wp2
      go_ret
      exact ⟨A.ret_bool (by simp), by rw [HQ.out]; exact HB6.out⟩
  · clear hg
    go_wp2
    go_ret
    exact ⟨rfl, by rw [HQ.out]; exact HB2.out⟩

set_option maxRecDepth 100000 in
theorem lifted (os : Os) (started : os.Started) (H : Type) (enc : TypeId × Value → H) :
    ReturnsInHanded {} Try.checked os 3 .any (Rows.regexRightSpec.pre6 enc Try.prog Try.f3 Rows.regexRightRow.domain false) (Rows.regexRightSpec.post enc Try.prog Try.f3 false true false false) := by
  refine returnsInHanded_of_change (C := Try.checked) own started (by kernel_rfl) Try.func3
    (ChangeSpec.witness6 (enc := enc) (C := Try.checked) false ⟨#[], #[.agg #[.int .u8 0, .int .u16 0, .slice none 0 0]], []⟩ 8 (by kernel_rfl) (by kernel_rfl) (by kernel_rfl) (by kernel_rfl)) ?_
  intro W base args ds gs before hval0 hW hcnd _
  have hval : ∀ (j : Nat) t v, Try.f3.params[j]? = some t → args[j]? = some v → Value.okWide Try.prog W .any base t v := hval0
  have hW' := hW
  obtain ⟨p, q, hA0, hV, rfl, hfz, hnd⟩ := hW
  have hA : DataW.TrodAll enc Try.prog W 0 (fun _ => true) true Try.f3.params.toList args.toList ds p := hA0
  rw [Try.params3] at hA hval
  obtain ⟨v0, vs0, d0, ds0, p0, q0, hargs, rfl, rfl, h0, r0⟩ := trodAll_cons hA
  obtain ⟨rfl, rfl, rfl⟩ := trodAll_nil r0
  obtain rfl : args = #[v0] := by cases args; simp_all
  obtain ⟨rfl, rfl⟩ := trodVars_none hV
  obtain ⟨cs0, rfl⟩ := A.okWide_ex (hval 0 25 v0 rfl rfl)
  have k0 := h0
  have lt0 : ∀ x ∈ p0, x.block < W.heap.size := by obtain ⟨m, hm⟩ := k0; exact DataW.trod_lt m _ _ _ hm
  obtain ⟨n0, t0, w0⟩ : ∃ (n : Nat) (t : A.Ex n), A.Rx W n t (.agg cs0) := by obtain ⟨fuel, hf⟩ := h0; exact A.open_arg hf
  clear hA0 hval0
  refine (walk (.agg cs0) n0 t0 W w0).mono fun e W' ⟨he, bel⟩ => ?_
  subst he
  exact ⟨_, rfl, _, _, _, [], _, [], hW', trodAll_mk1 (shut_bool Try.underlying4 _), (trodAll_cons_mk (Below.trod laidOut (by kernel_rfl) (of_decide_eq_true (by kernel_rfl)) k0 bel lt0) trodAll_mk0), rfl, bel.frame _, fun h => by cases h⟩

theorem over : Rows.regexRightRow.holds Try.pinned (OpenSpec.ofChange Rows.regexRightSpec) :=
  OpenClaim.holds_of_wide 3 Try.f3 rfl rfl rfl rfl rfl rfl rfl ⟨rfl, rfl, rfl, rfl, rfl⟩ rfl rfl rfl rfl rfl (by kernel_rfl) Try.func3 (by kernel_rfl)
    (of_decide_eq_true (by kernel_rfl)) (by unfold Func.isWrapper; first | (rw [if_pos (by decide +kernel)]; kernel_rfl) | (rw [if_neg (by decide +kernel)]; exact ⟨rfl, rfl⟩))
    (fun os started H enc _ => lifted os started H enc)

/-- The statement. -/
theorem proved : Rows.RegexRightSaid := over
#print axioms proved
end Go.Proofs.Ytacfkdjpdgnohaa.regexRight
