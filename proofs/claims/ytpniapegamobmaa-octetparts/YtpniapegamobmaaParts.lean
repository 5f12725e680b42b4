/-
  OctetParts returns true for every input: octet's numbers of two and of four bytes, and its rows, are made of their parts.
  Conditions: none.
-/
import Derived.Test.YtpniapegamobmaaJ
import Derived.OpenShut
import Derived.ShutString
import Derived.ChangeOld
import Derived.Below
namespace Go.Proofs.Ytpniapegamobmaa.octetParts
open Go.ChangeShapes Go.WideShapes Go.ChangeAt Go.RowKit
open Go.ChangeMaps (open_string shut_string)
set_option linter.unusedVariables false

theorem own : ownKnob Try.prog.godebug = none := by kernel_rfl
theorem laidOut : laidOutB Try.prog = true := by kernel_rfl

set_option maxHeartbeats 1600000 in
theorem walk (a0 : Option Addr) (len0 cap0 : Nat) (z0 : List Int) (a1 : Int) (w : World) (w0 : A.IsRow .u8 w a0 len0 cap0 z0) (w1 : (Lit.int .i64 a1).wf = true) :
    Calls Try.prog 7 #[.slice a0 len0 cap0, .int .i64 a1] w fun e w' => e = .returned (.bool true) ∧ Below w.heap.size w w' := by
  obtain ⟨hs, hl, hm⟩ := A.seg_of_row w0
  clear w0 w1
  generalize z0.take len0 = zs at *
  by_cases h5 : len0 ≤ 5000 ∧ 0 ≤ a1 ∧ a1 ≤ 5000
  · obtain ⟨h5, ha0, ha5⟩ := h5
    obtain ⟨p, rfl⟩ := Int.eq_ofNat_of_zero_le ha0
    cases hi : A.inB len0 (p : Int) 4
    · have HI := A.hide hi
      clear hi
      have HE := A.hide (show A.numAt zs (p : Int) 4 = 0 by unfold A.numAt; rw [hs.1, HI.out]; rfl)
      go_enter Try.func7, Try.ntmps7
      go_wp2_with fail
      refine (A.alive_any _).mono ?_
      rintro e w1 ⟨rfl, hb1⟩
      have hs1 := hs.below hb1
      clear hs
      go_wp2_with fail
      refine (A.u32_any _ _ _ _ _ _ hs1 hl hm).mono ?_
      rintro e w2 ⟨rfl, rfl⟩
      rw [HI.out, HE.out]
      go_wp2_with fail
      go_ret
      exact ⟨rfl, hb1⟩
    · have HI := A.hide hi
      have hd : p + 4 ≤ len0 := by unfold A.inB at hi; have := of_decide_eq_true hi; omega
      clear hi
      obtain ⟨y0, y1, y2, y3, b0, b1, b2, b3, e1, e2, e3, e4, e5, e6, e7⟩ := A.parts zs p (by rw [hs.1]; exact hd) hs.2.1
      have E1 := A.hide e1
      have E2 := A.hide e2
      have E3 := A.hide e3
      have E4 := A.hide e4
      have E5 := A.hide e5
      have E6 := A.hide e6
      have E7 := A.hide e7
      clear e1 e2 e3 e4 e5 e6 e7
      obtain ⟨b00, b01⟩ := b0
      obtain ⟨b10, b11⟩ := b1
      obtain ⟨b20, b21⟩ := b2
      obtain ⟨b30, b31⟩ := b3
      go_enter Try.func7, Try.ntmps7
      go_wp2_with fail
      refine (A.alive_any _).mono ?_
      rintro e w1 ⟨rfl, hb1⟩
      have hs1 := hs.below hb1
      go_wp2_with fail
      refine (A.u32_any _ _ _ _ _ _ hs1 hl hm).mono ?_
      rintro e w2 ⟨rfl, rfl⟩
      rw [HI.out, E1.out]
      go_wp2_with fail
      refine (A.u16_any _ _ _ _ _ _ hs1 hl hm).mono ?_
      rintro e w2 ⟨rfl, rfl⟩
      rw [E2.out]
      go_wp2_with fail
      refine (A.u16_any _ _ _ _ _ _ hs1 hl hm).mono ?_
      rintro e w2 ⟨rfl, rfl⟩
      rw [E3.out]
      go_wp2_with fail
      refine (A.u8_any _ _ _ _ _ _ hs1 hl hm).mono ?_
      rintro e w2 ⟨rfl, rfl⟩
      rw [E4.out]
      go_wp2_with fail
      refine (A.u8_any _ _ _ _ _ _ hs1 hl hm).mono ?_
      rintro e w2 ⟨rfl, rfl⟩
      rw [E5.out]
      go_wp2_with fail
      refine (A.row_yes _ len0 cap0 p 2 2 zs _ h5 hl hs1 (by omega) (by omega) (A.rowB_yes (by omega) (by omega))).mono ?_
      rintro e w3 ⟨rfl, hrow, hb3⟩
      have hb4 := hb1.trans (hb3.mono hb1.size)
      have r0 := hrow.cell (i := 0) (by omega)
      have r1 := hrow.cell (i := 1) (by omega)
      simp only [E6.out] at r0
      simp only [E7.out] at r1
      clear hrow hb3 hs1 hb1
      go_wp2_with fail
      go_ret
      exact ⟨rfl, hb4⟩
  · go_enter Try.func7, Try.ntmps7
    go_wp2_with fail
    refine (A.alive_any _).mono ?_
    rintro e w1 ⟨rfl, hb1⟩
    clear hs
    go_wp2_with fail
    all_goals go_ret
    all_goals exact ⟨rfl, hb1⟩

/-! ### THE ROW's STEP: WRITTEN OUT: LEAVE IT -/
set_option maxRecDepth 100000 in
theorem lifted (os : Os) (started : os.Started) (H : Type) (enc : TypeId × Value → H) :
    ReturnsInHanded {} Try.checked os 7 .any (Rows.octetPartsSpec.pre6 enc Try.prog Try.f7 Rows.octetPartsRow.domain false) (Rows.octetPartsSpec.post enc Try.prog Try.f7 false true false false) := by
  refine returnsInHanded_of_change (C := Try.checked) own started (by kernel_rfl) Try.func7
    (ChangeSpec.witness6 (enc := enc) (C := Try.checked) false ⟨#[], #[.slice none 0 0, .int .i64 0], []⟩ 8 (by kernel_rfl) (by kernel_rfl) (by kernel_rfl) (by kernel_rfl)) ?_
  intro W base args ds gs before hval0 hW hcnd _
  have hval : ∀ (j : Nat) t v, Try.f7.params[j]? = some t → args[j]? = some v → Value.okWide Try.prog W .any base t v := hval0
  have hW' := hW
  obtain ⟨p, q, hA0, hV, rfl, hfz, hnd⟩ := hW
  have hA : DataW.TrodAll enc Try.prog W 0 (fun _ => true) true Try.f7.params.toList args.toList ds p := hA0
  rw [Try.params7] at hA hval
  obtain ⟨v0, vs0, d0, ds0, p0, q0, hargs, rfl, rfl, h0, r0⟩ := trodAll_cons hA
  obtain ⟨v1, vs1, d1, ds1, p1, q1, rfl, rfl, rfl, h1, r1⟩ := trodAll_cons r0
  obtain ⟨rfl, rfl, rfl⟩ := trodAll_nil r1
  obtain rfl : args = #[v0, v1] := by cases args; simp_all
  obtain ⟨rfl, rfl⟩ := trodVars_none hV
  obtain ⟨a0, len0, cap0, rfl⟩ := okWide_slice Try.underlying26 (hval 0 26 v0 rfl rfl)
  have k0 := h0
  have lt0 : ∀ x ∈ p0, x.block < W.heap.size := by obtain ⟨m, hm⟩ := k0; exact DataW.trod_lt m _ _ _ hm
  obtain ⟨z0, w0⟩ : ∃ zs, A.IsRow .u8 W a0 len0 cap0 zs := by
    obtain ⟨fuel, hf⟩ := h0
    rcases open_ints Try.underlying26 Try.underlying5 (by kernel_rfl) hf with ⟨hcs, _⟩ | ⟨x, l, c, zs, hcs, _, hl, hm, hz, _, hcell, hwz⟩
    · simp [Value.cells] at hcs
      obtain ⟨rfl, rfl, rfl⟩ := hcs
      exact ⟨[], .inl ⟨rfl, rfl, rfl, rfl⟩⟩
    · simp [Value.cells] at hcs
      obtain ⟨rfl, rfl, rfl⟩ := hcs
      exact ⟨zs, .inr ⟨_, rfl, hl, hm, by simpa using hz, hcell, hwz⟩⟩
  obtain ⟨a1, rfl, rfl, rfl, w1⟩ := open_int Try.underlying3 (hval 1 3 v1 rfl rfl) h1
  clear hA0 hval0
  refine (walk a0 len0 cap0 z0 a1 W w0 w1).mono fun e W' ⟨he, bel⟩ => ?_
  subst he
  exact ⟨_, rfl, _, _, _, [], _, [], hW', trodAll_mk1 (shut_bool Try.underlying4 _), (trodAll_cons_mk (Below.trod laidOut (by kernel_rfl) (of_decide_eq_true (by kernel_rfl)) k0 bel lt0) (trodAll_cons_mk (shut_int Try.underlying3 w1) trodAll_mk0)), rfl, bel.frame _, fun h => by cases h⟩

theorem over : Rows.octetPartsRow.holds Try.pinned (OpenSpec.ofChange Rows.octetPartsSpec) :=
  OpenClaim.holds_of_wide 7 Try.f7 rfl rfl rfl rfl rfl rfl rfl ⟨rfl, rfl, rfl, rfl, rfl⟩ rfl rfl rfl rfl rfl (by kernel_rfl) Try.func7 (by kernel_rfl)
    (of_decide_eq_true (by kernel_rfl)) (by unfold Func.isWrapper; first | (rw [if_pos (by decide +kernel)]; kernel_rfl) | (rw [if_neg (by decide +kernel)]; exact ⟨rfl, rfl⟩))
    (fun os started H enc _ => lifted os started H enc)

/-- ████ THE STATEMENT ████ -/
theorem proved : Rows.OctetPartsSaid := over
#print axioms proved
end Go.Proofs.Ytpniapegamobmaa.octetParts
