/-
  OctetRows returns true for every input: octet's rows of numbers, what it puts, and its check sums are the document's.
  Conditions: none.
-/
import Derived.Test.YtpniapegamobmaaN
import Derived.OpenShut
import Derived.ShutString
import Derived.ChangeOld
import Derived.Below
namespace Go.Proofs.Ytpniapegamobmaa.octetRows
open Go.ChangeShapes Go.WideShapes Go.ChangeAt Go.RowKit
open Go.ChangeMaps (open_string shut_string)
set_option linter.unusedVariables false

theorem own : ownKnob Try.prog.godebug = none := by kernel_rfl
theorem laidOut : laidOutB Try.prog = true := by kernel_rfl

set_option maxHeartbeats 1600000 in
theorem walk (a0 : Option Addr) (len0 cap0 : Nat) (z0 : List Int) (a1 : Int) (a2 : Int) (a3 : Int) (w : World) (w0 : A.IsRow .u8 w a0 len0 cap0 z0) (w1 : (Lit.int .i64 a1).wf = true) (w2 : (Lit.int .i64 a2).wf = true) (w3 : (Lit.int .i64 a3).wf = true) :
    Calls Try.prog 5 #[.slice a0 len0 cap0, .int .i64 a1, .int .i64 a2, .int .i64 a3] w fun e w' => e = .returned (.bool true) ∧ Below w.heap.size w w' := by
  obtain ⟨hs, hl, hm⟩ := A.seg_of_row w0
  clear w0 w1 w2 w3
  generalize z0.take len0 = zs at *
  by_cases h5 : len0 ≤ 5000
  · obtain ⟨l, e1⟩ : ∃ l, l = A.rowOf zs a1 a2 a3 := ⟨_, rfl⟩
    obtain ⟨m, e2⟩ : ∃ m, l.length = m := ⟨_, rfl⟩
    have hm5 : m ≤ 5000 := by rw [← e2, e1]; have := A.rowOf_le zs a1 a2 a3; rw [hs.1] at this; omega
    obtain ⟨r, f1⟩ : ∃ r, r = A.putOf a2 a3 := ⟨_, rfl⟩
    obtain ⟨q, f2⟩ : ∃ q, r.length = q := ⟨_, rfl⟩
    have hq5 : q ≤ 5000 := by rw [← f2, f1]; have := A.putOf_le a2 a3; omega
    have E1 := A.hide e1
    have E2 := A.hide e2
    have F1 := A.hide f1
    have F2 := A.hide f2
    clear e1 e2 f1 f2
    go_enter Try.func5, Try.ntmps5
    go_wp2_with fail
    refine (A.alive_any _).mono ?_
    rintro e w1 ⟨rfl, hb1⟩
    have hs1 := hs.below hb1
    clear hs
    go_wp2_with fail
    refine (A.row_all _ _ _ zs _ _ _ _ h5 hl hs1 l m E1.out E2.out).mono ?_
    rintro e w2 ⟨y1, c1, rfl, hy1, hb2⟩
    have hs2 := hs1.below hb2
    have hb2' := hb1.trans (hb2.mono hb1.size)
    clear hb2 hb1 hs1
    go_wp2_with fail
    refine (A.rrow_all _ _ _ zs _ _ _ _ h5 hl hm hs2 l m E1.out E2.out).mono ?_
    rintro e w3 ⟨y2, c2, rfl, hy2, hb3⟩
    have hs3 := hs2.below hb3
    have hy1' := hy1.below hb3
    have hb3' := hb2'.trans (hb3.mono hb2'.size)
    clear hb3 hb2' hs2 hy1
    go_wp2_with fail
    refine (A.ints_same _ _ _ _ _ l _ hm5 hy1' hy2).mono ?_
    rintro e w4 ⟨rfl, hb4⟩
    have hs4 := hs3.below hb4
    have hb4' := hb3'.trans (hb4.mono hb3'.size)
    clear hb4 hb3' hs3 hy1' hy2
    go_wp2_with fail
    refine (A.put_all _ _ _ r q F1.out F2.out).mono ?_
    rintro e w5 ⟨y3, c3, rfl, hy3, hb5⟩
    have hs5 := hs4.below hb5
    have hb5' := hb4'.trans (hb5.mono hb4'.size)
    clear hb5 hb4' hs4
    go_wp2_with fail
    refine (A.rput_all _ _ _ r q F1.out F2.out).mono ?_
    rintro e w6 ⟨y4, c4, rfl, hy4, hb6⟩
    have hs6 := hs5.below hb6
    have hy3' := hy3.below hb6
    have hb6' := hb5'.trans (hb6.mono hb5'.size)
    clear hb6 hb5' hs5 hy3
    go_wp2_with fail
    refine (A.bytes_same _ _ _ _ _ r _ hq5 hy3' hy4).mono ?_
    rintro e w7 ⟨rfl, hb7⟩
    have hs7 := hs6.below hb7
    have hb7' := hb6'.trans (hb7.mono hb6'.size)
    clear hb7 hb6' hs6 hy3' hy4
    go_wp2_with fail
    refine (A.sum_any _ _ _ zs _ hs7 hl hm h5).mono ?_
    rintro e w8 ⟨rfl, rfl⟩
    go_wp2_with fail
    refine (A.rsum_any _ _ _ zs _ hs7 hl hm h5).mono ?_
    rintro e w9 ⟨rfl, rfl⟩
    go_wp2_with fail
    go_ret
    exact ⟨rfl, hb7'⟩
  · go_enter Try.func5, Try.ntmps5
    go_wp2_with fail
    refine (A.alive_any _).mono ?_
    rintro e w1 ⟨rfl, hb1⟩
    clear hs
    go_wp2_with fail
    go_ret
    exact ⟨rfl, hb1⟩

/-! ### THE ROW's STEP: WRITTEN OUT: LEAVE IT -/
set_option maxRecDepth 100000 in
theorem lifted (os : Os) (started : os.Started) (H : Type) (enc : TypeId × Value → H) :
    ReturnsInHanded {} Try.checked os 5 .any (Rows.octetRowsSpec.pre6 enc Try.prog Try.f5 Rows.octetRowsRow.domain false) (Rows.octetRowsSpec.post enc Try.prog Try.f5 false true false false) := by
  refine returnsInHanded_of_change (C := Try.checked) own started (by kernel_rfl) Try.func5
    (ChangeSpec.witness6 (enc := enc) (C := Try.checked) false ⟨#[], #[.slice none 0 0, .int .i64 0, .int .i64 0, .int .i64 0], []⟩ 8 (by kernel_rfl) (by kernel_rfl) (by kernel_rfl) (by kernel_rfl)) ?_
  intro W base args ds gs before hval0 hW hcnd _
  have hval : ∀ (j : Nat) t v, Try.f5.params[j]? = some t → args[j]? = some v → Value.okWide Try.prog W .any base t v := hval0
  have hW' := hW
  obtain ⟨p, q, hA0, hV, rfl, hfz, hnd⟩ := hW
  have hA : DataW.TrodAll enc Try.prog W 0 (fun _ => true) true Try.f5.params.toList args.toList ds p := hA0
  rw [Try.params5] at hA hval
  obtain ⟨v0, vs0, d0, ds0, p0, q0, hargs, rfl, rfl, h0, r0⟩ := trodAll_cons hA
  obtain ⟨v1, vs1, d1, ds1, p1, q1, rfl, rfl, rfl, h1, r1⟩ := trodAll_cons r0
  obtain ⟨v2, vs2, d2, ds2, p2, q2, rfl, rfl, rfl, h2, r2⟩ := trodAll_cons r1
  obtain ⟨v3, vs3, d3, ds3, p3, q3, rfl, rfl, rfl, h3, r3⟩ := trodAll_cons r2
  obtain ⟨rfl, rfl, rfl⟩ := trodAll_nil r3
  obtain rfl : args = #[v0, v1, v2, v3] := by cases args; simp_all
  obtain ⟨rfl, rfl⟩ := trodVars_none hV
  obtain ⟨a0, len0, cap0, rfl⟩ := okWide_slice Try.underlying26 (hval 0 26 v0 rfl rfl)
  have k0 := h0
  have lt0 : ∀ x ∈ p0, x.block < W.heap.size := by obtain ⟨m, hm⟩ := k0; exact DataW.trod_lt m _ _ _ hm
  obtain ⟨z0, w0⟩ : ∃ zs, A.IsRow .u8 W a0 len0 cap0 zs := by
    obtain ⟨fuel, hf⟩ := h0
    rcases open_ints Try.underlying26 Try.underlying5 (by kernel_rfl) hf with ⟨hcs, _⟩ | ⟨x, l, c, zs, hcs, _, hl, hm, hz, _, hcell, hwz⟩
    · simp [Value.cells] at hcs
      obtain ⟨rfl, rfl, rfl⟩ := hcs
      exact ⟨[], .inl ⟨rfl, rfl, rfl, rfl⟩⟩
    · simp [Value.cells] at hcs
      obtain ⟨rfl, rfl, rfl⟩ := hcs
      exact ⟨zs, .inr ⟨_, rfl, hl, hm, by simpa using hz, hcell, hwz⟩⟩
  obtain ⟨a1, rfl, rfl, rfl, w1⟩ := open_int Try.underlying3 (hval 1 3 v1 rfl rfl) h1
  obtain ⟨a2, rfl, rfl, rfl, w2⟩ := open_int Try.underlying3 (hval 2 3 v2 rfl rfl) h2
  obtain ⟨a3, rfl, rfl, rfl, w3⟩ := open_int Try.underlying3 (hval 3 3 v3 rfl rfl) h3
  clear hA0 hval0
  refine (walk a0 len0 cap0 z0 a1 a2 a3 W w0 w1 w2 w3).mono fun e W' ⟨he, bel⟩ => ?_
  subst he
  exact ⟨_, rfl, _, _, _, [], _, [], hW', trodAll_mk1 (shut_bool Try.underlying4 _), (trodAll_cons_mk (Below.trod laidOut (by kernel_rfl) (of_decide_eq_true (by kernel_rfl)) k0 bel lt0) (trodAll_cons_mk (shut_int Try.underlying3 w1) (trodAll_cons_mk (shut_int Try.underlying3 w2) (trodAll_cons_mk (shut_int Try.underlying3 w3) trodAll_mk0)))), rfl, bel.frame _, fun h => by cases h⟩

theorem over : Rows.octetRowsRow.holds Try.pinned (OpenSpec.ofChange Rows.octetRowsSpec) :=
  OpenClaim.holds_of_wide 5 Try.f5 rfl rfl rfl rfl rfl rfl rfl ⟨rfl, rfl, rfl, rfl, rfl⟩ rfl rfl rfl rfl rfl (by kernel_rfl) Try.func5 (by kernel_rfl)
    (of_decide_eq_true (by kernel_rfl)) (by unfold Func.isWrapper; first | (rw [if_pos (by decide +kernel)]; kernel_rfl) | (rw [if_neg (by decide +kernel)]; exact ⟨rfl, rfl⟩))
    (fun os started H enc _ => lifted os started H enc)

/-- ████ THE STATEMENT ████ -/
theorem proved : Rows.OctetRowsSaid := over
#print axioms proved
end Go.Proofs.Ytpniapegamobmaa.octetRows
