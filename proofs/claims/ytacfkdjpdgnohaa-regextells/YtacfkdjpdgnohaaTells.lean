/-
  For every expression the program tells whether it has the empty word, what its words begin with, and the turned one, as the document does.
  Conditions: none.
-/
import Derived.Test.YtacfkdjpdgnohaaSf
import Derived.OpenShut
import Derived.ShutString
import Derived.ChangeOld
import Derived.Below
import Derived.Deep.RegionHeld3
namespace Go.Proofs.Ytacfkdjpdgnohaa.regexTells
open Go.ChangeShapes Go.WideShapes Go.ChangeAt Go.RowKit
open Go.ChangeMaps (open_string shut_string)
set_option linter.unusedVariables false

theorem own : ownKnob Try.prog.godebug = none := by kernel_rfl
theorem laidOut : laidOutB Try.prog = true := by kernel_rfl

/-- What stands in memory while the last line is reckoned. -/
structure Sv (w : World) (q : Nat) (r : A.Nd) (t : A.Ex 30) : Prop where
  rx : A.Rx w 30 t (.agg #[.int .u8 r.k, .int .u16 r.s, .slice r.a r.l r.c])
  cells : w.cell? ⟨q, 0, none⟩ = some (.int .u8 r.k) ∧ w.cell? ⟨q, 1, none⟩ = some (.int .u16 r.s) ∧ w.cell? ⟨q, 2, none⟩ = some (.slice r.a r.l r.c)
theorem Sv.below {w w' : World} {q : Nat} {r : A.Nd} {t : A.Ex 30} (h : Sv w q r t) (hb : Below w.heap.size w w') : Sv w' q r t := by
  obtain ⟨h1, c1, c2, c3⟩ := h
  exact ⟨A.rx_below hb 30 t _ h1, (hb.cell (p := ⟨q, 0, none⟩) (A.cell_lt c1)).trans c1, (hb.cell (p := ⟨q, 1, none⟩) (A.cell_lt c2)).trans c2, (hb.cell (p := ⟨q, 2, none⟩) (A.cell_lt c3)).trans c3⟩
set_option maxRecDepth 100000 in
set_option maxHeartbeats 12800000 in
theorem walk (v0 : Value) (n0 : Nat) (t0 : A.Ex n0) (w : World) (w0 : A.Rx w n0 t0 v0) :
    Calls Try.prog 4 #[v0] w fun e w' => e = .returned (.bool true) ∧ Below w.heap.size w w' := by
  obtain ⟨c0, c1, c2, rfl⟩ := A.rx_form w0
  have HB0 := A.hide ((Below.refl w.heap.size w).alloc (Nat.le_refl _) (.cells #[c0, c1, c2] 25))
  have HP := A.hide (A.box3 w c0 c1 c2 25)
  have HX := A.hide (A.rx_below HB0.out n0 t0 _ w0)
  clear w0
  go_enter Try.func4, Try.ntmps4
  go_wp2_with fail
  obtain ⟨p0, p1, p2⟩ := HP.out
  clear HP
  generalize w.alloc (.cells #[c0, c1, c2] 25) = W at *
  obtain ⟨q, hq⟩ : ∃ q, w.heap.size = q := ⟨_, rfl⟩
  rw [hq] at p0 p1 p2 HB0 ⊢
  have HQ := A.hide hq
  clear hq
  refine (A.alive_any W).mono ?_
  rintro e u1 ⟨rfl, hb1⟩
  have r0 := (hb1.cell (p := ⟨q, 0, none⟩) (A.cell_lt p0)).trans p0
  have r1 := (hb1.cell (p := ⟨q, 1, none⟩) (A.cell_lt p1)).trans p1
  have r2 := (hb1.cell (p := ⟨q, 2, none⟩) (A.cell_lt p2)).trans p2
  have HX1 := A.hide (A.rx_below hb1 n0 t0 _ HX.out)
  have HB1 := A.hide (HB0.out.trans (hb1.mono (by have := HB0.out.size; rw [HQ.out] at this; exact this)))
  clear hb1 p0 p1 p2 HX HB0
  go_wp2_with fail
  refine (A.rgreat_any n0 t0 _ 30 u1 (by omega) HX1.out).mono ?_
  rintro e u2 ⟨rfl, hb2⟩
  have p0 := (hb2.cell (p := ⟨q, 0, none⟩) (A.cell_lt r0)).trans r0
  have p1 := (hb2.cell (p := ⟨q, 1, none⟩) (A.cell_lt r1)).trans r1
  have p2 := (hb2.cell (p := ⟨q, 2, none⟩) (A.cell_lt r2)).trans r2
  have HX2 := A.hide (A.rx_below hb2 n0 t0 _ HX1.out)
  have HB2 := A.hide (HB1.out.trans (hb2.mono (Nat.le_trans (by rw [HQ.out]; exact Nat.le_refl _) HB1.out.size)))
  clear hb2 r0 r1 r2 HX1 HB1
  cases hg : A.greatE n0 t0 30
  · obtain ⟨t, ht⟩ := A.rx_trim 30 n0 t0 _ HX2.out hg
    have HT2 := A.hide ht
    clear ht hg HX2
    have hsz : q ≤ u2.heap.size := Nat.le_trans (by rw [HQ.out]; exact Nat.le_refl _) HB2.out.size
    go_wp2_with fail
    refine (A.rright_any 30 t _ u2 (by omega) HT2.out).mono ?_
    rintro e u3 ⟨rfl, hb3⟩
    have r0 := (hb3.cell (p := ⟨q, 0, none⟩) (A.cell_lt p0)).trans p0
    have r1 := (hb3.cell (p := ⟨q, 1, none⟩) (A.cell_lt p1)).trans p1
    have r2 := (hb3.cell (p := ⟨q, 2, none⟩) (A.cell_lt p2)).trans p2
    have HT3 := A.hide (A.rx_below hb3 30 t _ HT2.out)
    have HB3 := A.hide (HB2.out.trans (hb3.mono hsz))
    have hz3 : q ≤ u3.heap.size := Nat.le_trans hsz hb3.size
    clear hb3 p0 p1 p2 HT2 HB2 hsz
    cases hr : A.rightE 30 t
    · have HR := A.hide hr
      have HF := A.hide (show A.firstR 30 t = 0 from by unfold A.firstR; rw [hr]; rfl)
      clear hr
      go_wp2_with fail
      refine (A.turned_no 30 t _ u3 HT3.out HR.out).mono ?_
      rintro e u4 ⟨rfl, hb4⟩
      have p0 := (hb4.cell (p := ⟨q, 0, none⟩) (A.cell_lt r0)).trans r0
      have p1 := (hb4.cell (p := ⟨q, 1, none⟩) (A.cell_lt r1)).trans r1
      have p2 := (hb4.cell (p := ⟨q, 2, none⟩) (A.cell_lt r2)).trans r2
      have bA : Below u4.heap.size u4 (u4.alloc (.cells #[.int .u8 0, .int .u16 0, .slice none 0 0] 25)) := (Below.refl _ u4).alloc (Nat.le_refl _) _
      have HT4 := A.hide (A.rx_below bA 30 t _ (A.rx_below hb4 30 t _ HT3.out))
      have HB4 := A.hide ((HB3.out.trans (hb4.mono hz3)).trans (bA.mono (Nat.le_trans hz3 hb4.size)))
      have HC := A.hide (And.intro (A.cell_alloc p0 (.cells #[.int .u8 0, .int .u16 0, .slice none 0 0] 25)) (And.intro (A.cell_alloc p1 (.cells #[.int .u8 0, .int .u16 0, .slice none 0 0] 25)) (A.cell_alloc p2 (.cells #[.int .u8 0, .int .u16 0, .slice none 0 0] 25))))
      have HD := A.hide (A.box3 u4 (.int .u8 0) (.int .u16 0) (.slice none 0 0) 25)
      have hz4 : q ≤ (u4.alloc (.cells #[.int .u8 0, .int .u16 0, .slice none 0 0] 25)).heap.size := Nat.le_trans hz3 (Nat.le_trans hb4.size bA.size)
      have HZ4 := A.hide hz4
      have x0 := HC.out.1
      have x1 := HC.out.2.1
      have x2 := HC.out.2.2
      clear hb4 r0 r1 r2 p0 p1 p2 HT3 HB3 hz3 bA hz4
      go_wp2_with fail
      obtain ⟨y0, y1, y2⟩ := HD.out
      clear HC HD
      generalize u4.alloc (.cells #[.int .u8 0, .int .u16 0, .slice none 0 0] 25) = U at *
      generalize u4.heap.size = qt at *
      refine (A.empty_any 30 t _ U HT4.out).mono ?_
      rintro e u5 ⟨rfl, hb5⟩
      rw [HR.out]
      have r0 := (hb5.cell (p := ⟨q, 0, none⟩) (A.cell_lt x0)).trans x0
      have r1 := (hb5.cell (p := ⟨q, 1, none⟩) (A.cell_lt x1)).trans x1
      have r2 := (hb5.cell (p := ⟨q, 2, none⟩) (A.cell_lt x2)).trans x2
      have s0 := (hb5.cell (p := ⟨qt, 0, none⟩) (A.cell_lt y0)).trans y0
      have s1 := (hb5.cell (p := ⟨qt, 1, none⟩) (A.cell_lt y1)).trans y1
      have s2 := (hb5.cell (p := ⟨qt, 2, none⟩) (A.cell_lt y2)).trans y2
      have HT5 := A.hide (A.rx_below hb5 30 t _ HT4.out)
      have HB5 := A.hide (HB4.out.trans (hb5.mono HZ4.out))
      have HZ5 := A.hide (Nat.le_trans HZ4.out hb5.size)
      clear hb5 x0 x1 x2 y0 y1 y2 HT4 HB4 HZ4
      go_wp2_with fail
      refine (A.first_any 30 t _ u5 HT5.out).mono ?_
      rintro e u6 ⟨rfl, hb6⟩
      rw [HF.out]
      have y0 := (hb6.cell (p := ⟨qt, 0, none⟩) (A.cell_lt s0)).trans s0
      have y1 := (hb6.cell (p := ⟨qt, 1, none⟩) (A.cell_lt s1)).trans s1
      have y2 := (hb6.cell (p := ⟨qt, 2, none⟩) (A.cell_lt s2)).trans s2
      have HB6 := A.hide (HB5.out.trans (hb6.mono HZ5.out))
      clear hb6 r0 r1 r2 s0 s1 s2 HT5 HB5
      go_wp2
      go_ret
      exact ⟨rfl, by rw [HQ.out]; exact HB6.out⟩
    · have HR := A.hide hr
      have hfull := A.rx_full 30 t _ HT3.out
      have HRN := A.hide (show A.realN 30 t ≤ 100 from by have := ((A.right_iff hfull).1 hr).1; omega)
      have HSAME := A.hide (A.same_self 30 (A.turnE 30 t) 13 (A.full_turn 30 t hfull))
      have HF := A.hide (show A.firstR 30 t = A.firstE 30 t from by unfold A.firstR; rw [if_pos hr])
      clear hr hfull
      obtain ⟨kx, sx, ax, lx, cx, rfl, rfl, rfl⟩ := A.rx_cells HT3.out
      have HV := A.hide (show Sv u3 q ⟨kx, sx, ax, lx, cx⟩ t from ⟨HT3.out, r0, r1, r2⟩)
      have HSH := A.hide (A.right_shapes HR.out)
      have HBW := HB3
      have HZW := A.hide hz3
      clear HT3 HB3 hz3
      go_wp2_with fail
      go_region_held3 (fun w' => w'.cell? ⟨q, 0, none⟩ = some (.int .u8 kx) ∧ w'.cell? ⟨q, 1, none⟩ = some (.int .u16 sx) ∧ w'.cell? ⟨q, 2, none⟩ = some (.slice ax lx cx)) (first | assumption | go_keep) ((first
        | (go_at_call 21; refine (A.rsame_any 30 (A.turnE 30 t) 30 (A.turnE 30 t) _ _ 13 _ (by omega) (A.tr_rx 30 _ y5 S5 hy5b) (A.tr_rx 30 _ y6 S6 hy6)).mono ?_; rintro e v7 ⟨rfl, hb7⟩; have V7 := A.hide (V6.out.below hb7); have k7 := V7.out.cells; rw [HSAME.out])
        | (go_at_call 22; refine (A.rturn_any 30 t _ _ V5.out.rx HRN.out).mono ?_; rintro e v6 ⟨y6, S6, rfl, hy6, -, -, hb6⟩; have V6 := A.hide (V5.out.below hb6); have k6 := V6.out.cells; have hy5b := A.tr_keep 30 _ y5 S5 (fun j hj => hb6.block j (A.tr_lt 30 _ y5 S5 hy5 j hj)) hy5)
        | (go_at_call 16; refine (A.turned_yes 30 t _ _ V4.out.rx HR.out).mono ?_; rintro e v5 ⟨y5, S5, rfl, hy5, -, -, hb5⟩; have V5 := A.hide (V4.out.below hb5); have k5 := V5.out.cells)
        | (go_at_call 20; refine (A.rfirst_any 30 t _ _ V3.out.rx HSH.out).mono ?_; rintro e v4 ⟨rfl, hb4⟩; have V4 := A.hide (V3.out.below hb4); have k4 := V4.out.cells)
        | (go_at_call 18; refine (A.first_any 30 t _ _ V2.out.rx).mono ?_; rintro e v3 ⟨rfl, hb3⟩; have V3 := A.hide (V2.out.below hb3); have k3 := V3.out.cells; rw [HF.out])
        | (go_at_call 19; refine (A.hasNil_any 30 t _ _ V1.out.rx HSH.out).mono ?_; rintro e v2 ⟨rfl, hb2⟩; have V2 := A.hide (V1.out.below hb2); have k2 := V2.out.cells)
        | (go_at_call 17; refine (A.empty_any 30 t _ _ (HV.out.below (A.below_drew1 u3)).rx).mono ?_; rintro e v1 ⟨rfl, hb1⟩; have V1 := A.hide ((HV.out.below (A.below_drew1 u3)).below hb1); have k1 := V1.out.cells; rw [HR.out])))
      have B1 := HBW.out.drew.trans (hb1.mono HZW.out)
      have Z1 := Nat.le_trans HZW.out hb1.size
      have B2 := B1.trans (hb2.mono Z1)
      have Z2 := Nat.le_trans Z1 hb2.size
      have B3 := B2.trans (hb3.mono Z2)
      have Z3 := Nat.le_trans Z2 hb3.size
      have B4 := B3.trans (hb4.mono Z3)
      have Z4 := Nat.le_trans Z3 hb4.size
      have B5 := B4.trans (hb5.mono Z4)
      have Z5 := Nat.le_trans Z4 hb5.size
      have B6 := B5.trans (hb6.mono Z5)
      have Z6 := Nat.le_trans Z5 hb6.size
      have B7 := B6.trans (hb7.mono Z6)
      have HBZ := A.hide B7
      clear B1 B2 B3 B4 B5 B6 B7 Z1 Z2 Z3 Z4 Z5 Z6 hb1 hb2 hb3 hb4 hb5 hb6 hb7 k1 k2 k3 k4 k5 k6 k7 hy5 hy6 hy5b r0 r1 r2
      go_wp2
      go_ret
      exact ⟨A.ret_bool (by simp), by rw [HQ.out]; exact HBZ.out⟩
  · clear hg
    go_wp2
    go_ret
    exact ⟨rfl, by rw [HQ.out]; exact HB2.out⟩

set_option maxRecDepth 100000 in
theorem lifted (os : Os) (started : os.Started) (H : Type) (enc : TypeId × Value → H) :
    ReturnsInHanded {} Try.checked os 4 .any (Rows.regexTellsSpec.pre6 enc Try.prog Try.f4 Rows.regexTellsRow.domain false) (Rows.regexTellsSpec.post enc Try.prog Try.f4 false true false false) := by
  refine returnsInHanded_of_change (C := Try.checked) own started (by kernel_rfl) Try.func4
    (ChangeSpec.witness6 (enc := enc) (C := Try.checked) false ⟨#[], #[.agg #[.int .u8 0, .int .u16 0, .slice none 0 0]], []⟩ 8 (by kernel_rfl) (by kernel_rfl) (by kernel_rfl) (by kernel_rfl)) ?_
  intro W base args ds gs before hval0 hW hcnd _
  have hval : ∀ (j : Nat) t v, Try.f4.params[j]? = some t → args[j]? = some v → Value.okWide Try.prog W .any base t v := hval0
  have hW' := hW
  obtain ⟨p, q, hA0, hV, rfl, hfz, hnd⟩ := hW
  have hA : DataW.TrodAll enc Try.prog W 0 (fun _ => true) true Try.f4.params.toList args.toList ds p := hA0
  rw [Try.params4] at hA hval
  obtain ⟨v0, vs0, d0, ds0, p0, q0, hargs, rfl, rfl, h0, r0⟩ := trodAll_cons hA
  obtain ⟨rfl, rfl, rfl⟩ := trodAll_nil r0
  obtain rfl : args = #[v0] := by cases args; simp_all
  obtain ⟨rfl, rfl⟩ := trodVars_none hV
  obtain ⟨cs0, rfl⟩ := A.okWide_ex (hval 0 25 v0 rfl rfl)
  have k0 := h0
  have lt0 : ∀ x ∈ p0, x.block < W.heap.size := by obtain ⟨m, hm⟩ := k0; exact DataW.trod_lt m _ _ _ hm
  obtain ⟨n0, t0, w0⟩ : ∃ (n : Nat) (t : A.Ex n), A.Rx W n t (.agg cs0) := by obtain ⟨fuel, hf⟩ := h0; exact A.open_arg hf
  clear hA0 hval0
  refine (walk (.agg cs0) n0 t0 W w0).mono fun e W' ⟨he, bel⟩ => ?_
  subst he
  exact ⟨_, rfl, _, _, _, [], _, [], hW', trodAll_mk1 (shut_bool Try.underlying4 _), (trodAll_cons_mk (Below.trod laidOut (by kernel_rfl) (of_decide_eq_true (by kernel_rfl)) k0 bel lt0) trodAll_mk0), rfl, bel.frame _, fun h => by cases h⟩

theorem over : Rows.regexTellsRow.holds Try.pinned (OpenSpec.ofChange Rows.regexTellsSpec) :=
  OpenClaim.holds_of_wide 4 Try.f4 rfl rfl rfl rfl rfl rfl rfl ⟨rfl, rfl, rfl, rfl, rfl⟩ rfl rfl rfl rfl rfl (by kernel_rfl) Try.func4 (by kernel_rfl)
    (of_decide_eq_true (by kernel_rfl)) (by unfold Func.isWrapper; first | (rw [if_pos (by decide +kernel)]; kernel_rfl) | (rw [if_neg (by decide +kernel)]; exact ⟨rfl, rfl⟩))
    (fun os started H enc _ => lifted os started H enc)

/-- The statement. -/
theorem proved : Rows.RegexTellsSaid := over
#print axioms proved
end Go.Proofs.Ytacfkdjpdgnohaa.regexTells
