/-
  A word that an expression has begins with one of its first categories, or is empty, as the program tells.
  Conditions: none.
-/
import Derived.Test.YtacfkdjpdgnohaaSf
import Derived.OpenShut
import Derived.ShutString
import Derived.ChangeOld
import Derived.Below
import Derived.Deep.RegionHeld3
namespace Go.Proofs.Ytacfkdjpdgnohaa.regexBegins
open Go.ChangeShapes Go.WideShapes Go.ChangeAt Go.RowKit
open Go.ChangeMaps (open_string shut_string)
set_option linter.unusedVariables false

theorem own : ownKnob Try.prog.godebug = none := by kernel_rfl
theorem laidOut : laidOutB Try.prog = true := by kernel_rfl

theorem has_first {n : Nat} {t : A.Ex n} {word : List Int} {c : Int} (h : A.hasE n t word = true) (hc : word[0]? = some c) : A.inS (A.firstE n t) c = true := by
  have hl := (List.getElem?_eq_some_iff.1 hc).1
  obtain ⟨c', h1, h2⟩ := A.mt_first word n t 0 word.length ((A.has_iff n t word).1 h) hl
  rw [hc] at h1
  cases h1
  exact h2
theorem has_nil {n : Nat} {t : A.Ex n} {word : List Int} (h : A.hasE n t word = true) (h0 : word.length = 0) : A.emptyE n t = true := by
  rw [List.length_eq_zero_iff.1 h0, A.has_empty] at h
  exact h
set_option maxRecDepth 100000 in
set_option maxHeartbeats 6400000 in
theorem walk (v0 : Value) (n0 : Nat) (t0 : A.Ex n0) (a1 : Option Addr) (len1 cap1 : Nat) (z1 : List Int) (w : World) (w0 : A.Rx w n0 t0 v0) (w1 : A.Wd w a1 z1) (e1 : z1.length = len1) (l1 : len1 ≤ cap1) (m1 : cap1 ≤ maxLen) :
    Calls Try.prog 7 #[v0, .slice a1 len1 cap1] w fun e w' => e = .returned (.bool true) ∧ Below w.heap.size w w' := by
  obtain ⟨c0, c1, c2, rfl⟩ := A.rx_form w0
  have HB0 := A.hide ((Below.refl w.heap.size w).alloc (Nat.le_refl _) (.cells #[c0, c1, c2] 25))
  have HP := A.hide (A.box3 w c0 c1 c2 25)
  have HX := A.hide (A.rx_below HB0.out n0 t0 _ w0)
  have HW := A.hide (A.wd_below HB0.out w1)
  have HE := A.hide e1
  have hlm : len1 ≤ maxLen := Nat.le_trans l1 m1
  unfold maxLen at hlm
  clear w0 w1 e1 l1 m1
  go_enter Try.func7, Try.ntmps7
  go_wp2_with fail
  obtain ⟨p0, p1, p2⟩ := HP.out
  clear HP
  generalize w.alloc (.cells #[c0, c1, c2] 25) = W at *
  obtain ⟨q, hq⟩ : ∃ q, w.heap.size = q := ⟨_, rfl⟩
  rw [hq] at p0 p1 p2 HB0 ⊢
  have HQ := A.hide hq
  have hzW : q ≤ W.heap.size := by have := HB0.out.size; omega
  clear hq
  refine (A.alive_any W).mono ?_
  rintro e u1 ⟨rfl, hb1⟩
  have r0 := (hb1.cell (p := ⟨q, 0, none⟩) (A.cell_lt p0)).trans p0
  have r1 := (hb1.cell (p := ⟨q, 1, none⟩) (A.cell_lt p1)).trans p1
  have r2 := (hb1.cell (p := ⟨q, 2, none⟩) (A.cell_lt p2)).trans p2
  have HX1 := A.hide (A.rx_below hb1 n0 t0 _ HX.out)
  have HW1 := A.hide (A.wd_below hb1 HW.out)
  have HB1 := A.hide (HB0.out.trans (hb1.mono hzW))
  have hz1 : q ≤ u1.heap.size := Nat.le_trans hzW hb1.size
  clear hb1 p0 p1 p2 HX HB0 HW hzW
  go_wp2_with fail
  refine (A.rgreat_any n0 t0 _ 30 u1 (by omega) HX1.out).mono ?_
  rintro e u2 ⟨rfl, hb2⟩
  have p0 := (hb2.cell (p := ⟨q, 0, none⟩) (A.cell_lt r0)).trans r0
  have p1 := (hb2.cell (p := ⟨q, 1, none⟩) (A.cell_lt r1)).trans r1
  have p2 := (hb2.cell (p := ⟨q, 2, none⟩) (A.cell_lt r2)).trans r2
  have HX2 := A.hide (A.rx_below hb2 n0 t0 _ HX1.out)
  have HW2 := A.hide (A.wd_below hb2 HW1.out)
  have HB2 := A.hide (HB1.out.trans (hb2.mono hz1))
  have hz2 : q ≤ u2.heap.size := Nat.le_trans hz1 hb2.size
  clear hb2 r0 r1 r2 HX1 HB1 HW1 hz1
  cases hg : A.greatE n0 t0 30
  · obtain ⟨t, ht⟩ := A.rx_trim 30 n0 t0 _ HX2.out hg
    have HT2 := A.hide ht
    clear ht hg HX2
    by_cases hl : 30 < len1
    · have d1 : decide ((30 : Int) < (len1 : Int)) = true := by simp; omega
      go_wp2
      go_ret
      exact ⟨rfl, by rw [HQ.out]; exact HB2.out⟩
    · have d1 : decide ((30 : Int) < (len1 : Int)) = false := by simp; omega
      go_wp2_with fail
      refine (A.right_any 30 t _ u2 HT2.out).mono ?_
      rintro e u3 ⟨rfl, hb3⟩
      have r0 := (hb3.cell (p := ⟨q, 0, none⟩) (A.cell_lt p0)).trans p0
      have r1 := (hb3.cell (p := ⟨q, 1, none⟩) (A.cell_lt p1)).trans p1
      have r2 := (hb3.cell (p := ⟨q, 2, none⟩) (A.cell_lt p2)).trans p2
      have HT3 := A.hide (A.rx_below hb3 30 t _ HT2.out)
      have HW3 := A.hide (A.wd_below hb3 HW2.out)
      have HB3 := A.hide (HB2.out.trans (hb3.mono hz2))
      have hz3 : q ≤ u3.heap.size := Nat.le_trans hz2 hb3.size
      clear hb3 p0 p1 p2 HT2 HB2 HW2 hz2
      cases hr : A.rightE 30 t
      · clear hr
        go_wp2
        go_ret
        exact ⟨rfl, by rw [HQ.out]; exact HB3.out⟩
      · have HR := A.hide hr
        clear hr
        go_wp2_with fail
        refine (A.has_any z1 30 t _ a1 len1 cap1 u3 HE.out (by omega) HT3.out (A.right_shapes HR.out) HW3.out).mono ?_
        rintro e u4 ⟨rfl, hb4⟩
        have p0 := (hb4.cell (p := ⟨q, 0, none⟩) (A.cell_lt r0)).trans r0
        have p1 := (hb4.cell (p := ⟨q, 1, none⟩) (A.cell_lt r1)).trans r1
        have p2 := (hb4.cell (p := ⟨q, 2, none⟩) (A.cell_lt r2)).trans r2
        have HT4 := A.hide (A.rx_below hb4 30 t _ HT3.out)
        have HW4 := A.hide (A.wd_below hb4 HW3.out)
        have HB4 := A.hide (HB3.out.trans (hb4.mono hz3))
        have hz4 : q ≤ u4.heap.size := Nat.le_trans hz3 hb4.size
        clear hb4 r0 r1 r2 HT3 HB3 HW3 hz3
        cases hh : A.hasE 30 t z1
        · clear hh
          go_wp2
          go_ret
          exact ⟨rfl, by rw [HQ.out]; exact HB4.out⟩
        · have HH := A.hide hh
          clear hh
          by_cases hl0 : len1 = 0
          · have HEM := A.hide (has_nil HH.out (HE.out.trans hl0))
            have d0 : ((len1 : Int) == 0) = true := by simp; omega
            clear hl0
            go_wp2_with fail
            refine (A.empty_any 30 t _ u4 HT4.out).mono ?_
            rintro e u5 ⟨rfl, hb5⟩
            rw [HR.out, HEM.out]
            have HB5 := A.hide (HB4.out.trans (hb5.mono hz4))
            clear hb5
            go_wp2
            go_ret
            exact ⟨rfl, by rw [HQ.out]; exact HB5.out⟩
          · have d0 : ((len1 : Int) == 0) = false := by simp; omega
            have hc : z1[0]? = some (z1[0]'(by have := HE.out; omega)) := by simp
            generalize z1[0]'(by have := HE.out; omega) = c at hc
            obtain ⟨b, off, rfl, hcell⟩ := HW4.out 0 c hc
            have hin := has_first HH.out hc
            have hlt := A.first_lt 30 t (A.rx_sets 30 t _ HT4.out)
            have HFR := A.hide (show A.firstR 30 t = A.firstE 30 t from by unfold A.firstR; rw [if_pos HR.out])
            generalize A.firstE 30 t = fs at *
            have hin2 := hin
            unfold A.inS at hin2
            simp only [Bool.and_eq_true, decide_eq_true_eq] at hin2
            have g0 : decide (0 ≤ c) = true := by simp; omega
            have g1 : decide (c < 16) = true := by simp; omega
            have gc0 : 0 ≤ c := hin2.1
            have gc1 : c < 16 := hin2.2.1
            have hbit : (bits BinOp.and IntKind.u16 ((fs : Int) / 2 ^ c.toNat) 1 == 1) = true := by rw [A.bits_one fs c hlt, A.bit_at fs c gc0 gc1]; exact hin
            have HBT := A.hide hbit
            have HMN := A.hide (show min (IntKind.u64.wrap c).toNat 16 = c.toNat from by rw [show IntKind.u64.wrap c = c % 18446744073709551616 by simp [IntKind.wrap, IntKind.bits, IntKind.signed]]; omega)
            clear hbit
            rw [Nat.add_zero] at hcell
            have i1 : (0 : Int) < (len1 : Int) := by omega
            have i2 : 0 < len1 := by omega
            clear hc hin hin2 hl0
            go_wp2_with fail
            go_region_held3 (fun w' => w'.cell? ⟨b, off, none⟩ = some (.int .i64 c) ∧ w'.cell? ⟨q, 0, none⟩ = some c0 ∧ w'.cell? ⟨q, 1, none⟩ = some c1 ∧ w'.cell? ⟨q, 2, none⟩ = some c2) (first | assumption | go_keep) ((go_at_call 18; refine (A.first_any 30 t _ _ (A.rx_below (A.below_drew1 u4) 30 t _ HT4.out)).mono ?_; rintro e u5 ⟨rfl, hb5⟩; have k1 := And.intro ((hb5.cell (p := ⟨b, off, none⟩) (A.cell_lt hcell)).trans hcell) (And.intro ((hb5.cell (p := ⟨q, 0, none⟩) (A.cell_lt p0)).trans p0) (And.intro ((hb5.cell (p := ⟨q, 1, none⟩) (A.cell_lt p1)).trans p1) ((hb5.cell (p := ⟨q, 2, none⟩) (A.cell_lt p2)).trans p2))); rw [HFR.out]))
            have HB5 := A.hide (HB4.out.drew.trans (hb5.mono hz4))
            clear hb5 k1
            go_wp2
            go_ret
            exact ⟨A.ret_bool (by rw [HMN.out]; exact HBT.out), by rw [HQ.out]; exact HB5.out⟩
  · clear hg
    go_wp2
    go_ret
    exact ⟨rfl, by rw [HQ.out]; exact HB2.out⟩

set_option maxRecDepth 100000 in
theorem lifted (os : Os) (started : os.Started) (H : Type) (enc : TypeId × Value → H) :
    ReturnsInHanded {} Try.checked os 7 .any (Rows.regexBeginsSpec.pre6 enc Try.prog Try.f7 Rows.regexBeginsRow.domain false) (Rows.regexBeginsSpec.post enc Try.prog Try.f7 false true false false) := by
  refine returnsInHanded_of_change (C := Try.checked) own started (by kernel_rfl) Try.func7
    (ChangeSpec.witness6 (enc := enc) (C := Try.checked) false ⟨#[], #[.agg #[.int .u8 0, .int .u16 0, .slice none 0 0], .slice none 0 0], []⟩ 8 (by kernel_rfl) (by kernel_rfl) (by kernel_rfl) (by kernel_rfl)) ?_
  intro W base args ds gs before hval0 hW hcnd _
  have hval : ∀ (j : Nat) t v, Try.f7.params[j]? = some t → args[j]? = some v → Value.okWide Try.prog W .any base t v := hval0
  have hW' := hW
  obtain ⟨p, q, hA0, hV, rfl, hfz, hnd⟩ := hW
  have hA : DataW.TrodAll enc Try.prog W 0 (fun _ => true) true Try.f7.params.toList args.toList ds p := hA0
  rw [Try.params7] at hA hval
  obtain ⟨v0, vs0, d0, ds0, p0, q0, hargs, rfl, rfl, h0, r0⟩ := trodAll_cons hA
  obtain ⟨v1, vs1, d1, ds1, p1, q1, rfl, rfl, rfl, h1, r1⟩ := trodAll_cons r0
  obtain ⟨rfl, rfl, rfl⟩ := trodAll_nil r1
  obtain rfl : args = #[v0, v1] := by cases args; simp_all
  obtain ⟨rfl, rfl⟩ := trodVars_none hV
  obtain ⟨cs0, rfl⟩ := A.okWide_ex (hval 0 25 v0 rfl rfl)
  have k0 := h0
  have lt0 : ∀ x ∈ p0, x.block < W.heap.size := by obtain ⟨m, hm⟩ := k0; exact DataW.trod_lt m _ _ _ hm
  obtain ⟨n0, t0, w0⟩ : ∃ (n : Nat) (t : A.Ex n), A.Rx W n t (.agg cs0) := by obtain ⟨fuel, hf⟩ := h0; exact A.open_arg hf
  obtain ⟨a1, len1, cap1, rfl⟩ := okWide_slice Try.underlying36 (hval 1 36 v1 rfl rfl)
  have k1 := h1
  have lt1 : ∀ x ∈ p1, x.block < W.heap.size := by obtain ⟨m, hm⟩ := k1; exact DataW.trod_lt m _ _ _ hm
  obtain ⟨z1, w1, e1, l1, m1⟩ : ∃ zs : List Int, A.Wd W a1 zs ∧ zs.length = len1 ∧ len1 ≤ cap1 ∧ cap1 ≤ maxLen := by obtain ⟨fuel, hf⟩ := h1; exact A.open_words hf
  clear hA0 hval0
  refine (walk (.agg cs0) n0 t0 a1 len1 cap1 z1 W w0 w1 e1 l1 m1).mono fun e W' ⟨he, bel⟩ => ?_
  subst he
  exact ⟨_, rfl, _, _, _, [], _, [], hW', trodAll_mk1 (shut_bool Try.underlying4 _), (trodAll_cons_mk (Below.trod laidOut (by kernel_rfl) (of_decide_eq_true (by kernel_rfl)) k0 bel lt0) (trodAll_cons_mk (Below.trod laidOut (by kernel_rfl) (of_decide_eq_true (by kernel_rfl)) k1 bel lt1) trodAll_mk0)), rfl, bel.frame _, fun h => by cases h⟩

theorem over : Rows.regexBeginsRow.holds Try.pinned (OpenSpec.ofChange Rows.regexBeginsSpec) :=
  OpenClaim.holds_of_wide 7 Try.f7 rfl rfl rfl rfl rfl rfl rfl ⟨rfl, rfl, rfl, rfl, rfl⟩ rfl rfl rfl rfl rfl (by kernel_rfl) Try.func7 (by kernel_rfl)
    (of_decide_eq_true (by kernel_rfl)) (by unfold Func.isWrapper; first | (rw [if_pos (by decide +kernel)]; kernel_rfl) | (rw [if_neg (by decide +kernel)]; exact ⟨rfl, rfl⟩))
    (fun os started H enc _ => lifted os started H enc)

/-- The statement. -/
theorem proved : Rows.RegexBeginsSaid := over
#print axioms proved
end Go.Proofs.Ytacfkdjpdgnohaa.regexBegins
