/-
  TrieGets returns true for every input: what every code has, of all ranges, and how often it was asked, is what the document tells; and a trie of ranges that are not right is nil.
  Conditions: none.
-/
import Derived.Test.YtooiomfcemceiaaL
import Derived.OpenShut
import Derived.ShutString
import Derived.ChangeOld
import Derived.Below
namespace Go.Proofs.Ytooiomfcemceiaa.trieGets
open Go.ChangeShapes Go.WideShapes Go.ChangeAt Go.RowKit
open Go.ChangeMaps (open_string shut_string)
set_option linter.unusedVariables false

theorem own : ownKnob Try.prog.godebug = none := by kernel_rfl
theorem laidOut : laidOutB Try.prog = true := by kernel_rfl

set_option maxHeartbeats 800000 in
theorem walk_far (a0 : Option Addr) (len0 cap0 : Nat) (a1 : Option Addr) (len1 cap1 : Nat) (w : World) (h5 : 100 < len0 ∨ 100 < len1) :
    Calls Try.prog 3 #[.slice a0 len0 cap0, .slice a1 len1 cap1] w fun e w' => e = .returned (.bool true) ∧ Below w.heap.size w w' := by
  by_cases h6 : 100 < len0
  · go_enter Try.func3, Try.ntmps3
    go_wp2_with fail
    refine (A.alive_any _).mono ?_
    rintro e w1 ⟨rfl, hb1⟩
    go_wp2_with fail
    go_ret
    exact ⟨rfl, hb1⟩
  · have h7 : 100 < len1 := by omega
    clear h5
    go_enter Try.func3, Try.ntmps3
    go_wp2_with fail
    refine (A.alive_any _).mono ?_
    rintro e w1 ⟨rfl, hb1⟩
    go_wp2_with fail
    go_ret
    exact ⟨rfl, hb1⟩

set_option maxRecDepth 100000 in
set_option maxHeartbeats 1600000 in
theorem walk_no (a0 : Option Addr) (len0 cap0 : Nat) (z0 : List A.Rg) (a1 : Option Addr) (len1 cap1 : Nat) (w : World) (w0 : A.SegR w a0 len0 z0) (h0 : ¬ 100 < len0) (h1 : ¬ 100 < len1) (hr : A.rightB 255 z0 len0 = false) :
    Calls Try.prog 3 #[.slice a0 len0 cap0, .slice a1 len1 cap1] w fun e w' => e = .returned (.bool true) ∧ Below w.heap.size w w' := by
  have R := A.hide hr
  clear hr
  have hnot : ∀ (x : Bool) (w : World), (Op.unary .not (.bool x)).run Try.prog w = .ok (.bool (!x)) w := fun _ _ => rfl
  go_enter Try.func3, Try.ntmps3
  go_wp2_with fail
  refine (A.alive_any _).mono ?_
  rintro e v1 ⟨rfl, hb1⟩
  have hs1 := w0.below hb1
  clear w0
  go_wp2_with fail
  refine (A.new_no _ _ _ z0 _ (by unfold maxLen; omega) hs1 R.out).mono ?_
  rintro e v2 ⟨rfl, hb2⟩
  have hb3 := hb1.trans (hb2.mono hb1.size)
  have hs2 := hs1.below hb2
  clear hs1 hb1 hb2
  go_wp2_with fail
  refine (A.rright_any _ _ _ _ z0 _ (by unfold maxLen; omega) hs2).mono ?_
  rintro e v3 ⟨rfl, hb4⟩
  have hb5 := hb3.trans (hb4.mono hb3.size)
  clear hb3 hb4 hs2
  rw [R.out]
  go_wp2_with fail
  refine (A.getnil_any _ _).mono ?_
  rintro e v4 ⟨rfl, hw⟩
  rw [hw]
  clear hw
  go_wp2_with fail
  refine (A.blocksnil_any _).mono ?_
  rintro e v4 ⟨rfl, hw⟩
  rw [hw]
  clear hw
  go_wp2_with fail
  refine (A.askednil_any _).mono ?_
  rintro e v4 ⟨rfl, hw⟩
  rw [hw]
  clear hw
  go_wp2_with fail
  refine (A.builtnil_any _).mono ?_
  rintro e v4 ⟨rfl, hw⟩
  rw [hw]
  clear hw
  go_wp2
  go_ret
  exact ⟨rfl, hb5⟩

set_option maxRecDepth 100000 in
set_option maxHeartbeats 3200000 in
theorem walk_yes (a0 : Option Addr) (len0 cap0 : Nat) (z0 : List A.Rg) (a1 : Option Addr) (len1 cap1 : Nat) (z1 : List Int) (w : World) (w0 : A.SegR w a0 len0 z0) (w1 : A.SegC w a1 len1 z1) (h0 : ¬ 100 < len0) (h1 : ¬ 100 < len1) (hr : A.rightB 255 z0 len0 = true) :
    Calls Try.prog 3 #[.slice a0 len0 cap0, .slice a1 len1 cap1] w fun e w' => e = .returned (.bool true) ∧ Below w.heap.size w w' := by
  have R := A.hide hr
  have HR := A.hide (A.rt_of_right hr)
  clear hr
  have hnot : ∀ (x : Bool) (w : World), (Op.unary .not (.bool x)).run Try.prog w = .ok (.bool (!x)) w := fun _ _ => rfl
  have W0 := A.hide w0
  have W1 := A.hide w1
  clear w0 w1
  go_enter Try.func3, Try.ntmps3
  go_wp2_with fail
  refine (A.alive_any _).mono ?_
  rintro e v1 ⟨rfl, hb1⟩
  go_wp2_with fail
  refine (A.new_yes _ _ _ z0 _ (by omega) (W0.out.below hb1) R.out).mono ?_
  rintro e v3 ⟨tb, rfl, ht, hb3, hlt⟩
  have HLT := A.hide (Nat.le_trans hb1.size hlt)
  have hb4 := hb1.trans (hb3.mono hb1.size)
  clear hb3 hlt hb1
  go_wp2_with fail
  refine (A.rright_any _ _ _ _ z0 _ (by unfold maxLen; omega) (W0.out.below hb4)).mono ?_
  rintro e v4 ⟨rfl, hb5⟩
  have hb6 := hb4.trans (hb5.mono hb4.size)
  have ht6 := A.tr_below ht hb5
  clear hb4 hb5 ht
  rw [R.out]
  go_wp2_with fail
  refine (A.built_any z0 len0 _ tb _ false ht6).mono ?_
  rintro e v5 ⟨rfl, hw⟩
  rw [hw]
  clear hw
  go_wp2_with fail
  go_loopw [6] (fun i wr => ∃ k : Nat, k ≤ len1 ∧ i = .int .i64 k ∧ A.Tr z0 len0 wr tb (k : Int) (decide (0 < k)) ∧ Below w.heap.size w wr) (fun i _ => len1 - (intOf i).toNat)
  case atStart => exact ⟨0, Nat.zero_le _, rfl, ht6, hb6⟩
  case round =>
    obtain ⟨k, hk, rfl, ht, hb⟩ := hrel
    clear ht6 hb6
    by_cases hlt : k < len1
    · obtain ⟨b, off, rfl, hc⟩ := W1.out.leads (by omega)
      have CW := A.hide (hc k hlt)
      clear hc
      generalize z1.getD k 0 = c at *
      have c0 := (hb.cell (p := ⟨b, off + k, none⟩) (A.cell_lt CW.out)).trans CW.out
      have i1 : (0 : Int) ≤ (k : Int) := by omega
      have i2 : (k : Int) < (len1 : Int) := by omega
      have hwr : IntKind.i64.wrap ((k : Int) + 1) = (k : Int) + 1 := by rw [IntKind.wrap_i64]; omega
      generalize hhv : A.hv z0 len0 c = v
      have HV := A.hide hhv
      clear hhv
      have HT := A.hide ht
      have HBB := A.hide hb
      clear ht hb
      go_wp2_with fail
      go_region_held3 (fun w' => w'.cell? ⟨b, off + k, none⟩ = some (.int .i32 c)) (first | assumption | go_keep)
        ((first
          | (go_at_call 10; refine (A.get_any z0 len0 _ tb _ _ c (A.tr_drew HT.out) (by omega) HR.out (by omega) (by omega)).mono ?_; rintro e v7 ⟨rfl, ht7, hg7⟩; rw [HV.out]; have hb7 := A.below_grown (A.below_drew' HBB.out) hg7 HBB.out.size HLT.out; have c7 := (hb7.cell (p := ⟨b, off + k, none⟩) (A.cell_lt CW.out)).trans CW.out)
          | (go_at_call 14; refine (A.rget_any a0 len0 cap0 c z0 _ (by unfold maxLen; omega) (W0.out.below hb7)).mono ?_; rintro e v8 ⟨rfl, hw8⟩; rw [HV.out, hw8])
          | (go_at_call 12; refine (A.asked_any z0 len0 _ tb _ true ht7).mono ?_; rintro e v9 ⟨rfl, hw9⟩; rw [hw9])
          | (go_at_call 13; refine (A.built_any z0 len0 _ tb _ true ht7).mono ?_; rintro e v10 ⟨rfl, hw10⟩; rw [hw10])))
      clear hw8 hw9 hw10 hg7 c7
      go_wp2
      go_roundw
      case rel => exact ⟨k + 1, by omega, by go_num, by rw [show decide (0 < k + 1) = true by simp]; exact ht7, hb7⟩
      case measure => simp [intOf]; omega
    · have e : k = len1 := by omega
      subst e
      go_wp2_with fail
      go_loopw [7, 8] (fun n i wr => ∃ j t : Nat, j ≤ len0 ∧ i = .int .i64 j ∧ n = .int .i64 t ∧ t ≤ 100 + 6 * j ∧ A.Tr z0 len0 wr tb (t : Int) (decide (0 < t)) ∧ Below w.heap.size w wr) (fun _ i _ => len0 - (intOf i).toNat)
      case atStart => exact ⟨0, k, Nat.zero_le _, rfl, rfl, by omega, ht, hb⟩
      case round =>
        obtain ⟨j, t, hj, rfl, rfl, htt, ht, hb⟩ := hrel
        by_cases hlt2 : j < len0
        · obtain ⟨b, off, rfl, hc⟩ := W0.out.leads (by omega)
          have CW := A.hide (hc j hlt2)
          have HSW := A.hide W0.out
          obtain ⟨o1, o2, o3, o4, o5⟩ := HR.out.1 j hlt2
          clear hc
          generalize (A.at' z0 j).f = f at *
          generalize (A.at' z0 j).t = tt at *
          have i1 : (0 : Int) ≤ (j : Int) := by omega
          have i2 : (j : Int) < (len0 : Int) := by omega
          go_wp2_with fail
          go_loopw [7, 9] (fun n z wi => ∃ m t : Nat, m ≤ 3 ∧ z = .int .i32 ((m : Int) - 1) ∧ n = .int .i64 t ∧ t ≤ 100 + 6 * j + 2 * m ∧ A.Tr z0 len0 wi tb (t : Int) (decide (0 < t)) ∧ Below w.heap.size w wi) (fun _ z _ => (3 - intOf z).toNat)
          case atStart => exact ⟨0, t, by omega, rfl, rfl, by omega, ht, hb⟩
          case round =>
            obtain ⟨m, t, hm, rfl, rfl, htt, ht, hb⟩ := hrel
            obtain ⟨z, hz⟩ : ∃ z : Int, z = (m : Int) - 1 := ⟨_, rfl⟩
            rw [← hz]
            by_cases hlt3 : m < 3
            · have z1' : -1 ≤ z := by omega
              have z2' : z < 2 := by omega
              have HZ := A.hide hz
              clear hz
              obtain ⟨c0, c1, c2⟩ := A.seg_keep hb CW.out
              generalize hhv : A.hv z0 len0 (f + z) = v
              have HV1 := A.hide hhv
              clear hhv
              generalize hhv : A.hv z0 len0 (tt + z) = v'
              have HV2 := A.hide hhv
              clear hhv
              have hw1 : IntKind.i32.wrap (f + z) = f + z := by rw [IntKind.wrap_i32]; omega
              have hw2 : IntKind.i32.wrap (tt + z) = tt + z := by rw [IntKind.wrap_i32]; omega
              have HT := A.hide ht
              have HBB := A.hide hb
              clear ht hb
              go_wp2_with fail
              go_region_held3 (fun w' => w'.cell? ⟨b, off + j * 3, none⟩ = some (.int .i32 f) ∧ w'.cell? ⟨b, off + j * 3 + 1, none⟩ = some (.int .i32 tt)) (first | assumption | go_keep)
                ((first
                  | (go_at_call 10; refine (A.get_any z0 len0 _ tb _ _ (tt + z) ht7 (by omega) HR.out (by omega) (by omega)).mono ?_; rintro e v9 ⟨rfl, ht9, hg9⟩; rw [HV2.out]; have hb9 := A.below_grown hb7 hg9 hb7.size HLT.out; have c9 := A.seg_two hb9 CW.out)
                  | (go_at_call 10; refine (A.get_any z0 len0 _ tb _ _ (f + z) (A.tr_drew HT.out) (by omega) HR.out (by omega) (by omega)).mono ?_; rintro e v7 ⟨rfl, ht7, hg7⟩; rw [HV1.out]; have hb7 := A.below_grown (A.below_drew' HBB.out) hg7 HBB.out.size HLT.out; have c7 := A.seg_two hb7 CW.out)
                  | (go_at_call 14; refine (A.rget_any _ len0 cap0 (tt + z) z0 _ (by unfold maxLen; omega) (HSW.out.below hb9)).mono ?_; rintro e v10 ⟨rfl, hw10⟩; rw [HV2.out, hw10])
                  | (go_at_call 14; refine (A.rget_any _ len0 cap0 (f + z) z0 _ (by unfold maxLen; omega) (HSW.out.below hb7)).mono ?_; rintro e v8 ⟨rfl, hw8⟩; rw [HV1.out, hw8])))
              clear hw8 hw10 hg7 hg9 c7 c9 ht7 hb7
              go_wp2
              go_roundw
              case rel => exact ⟨m + 1, t + 2, by omega, by have := HZ.out; go_num, by go_num, by omega, by rw [show decide (0 < t + 2) = true by simp]; exact A.tr_num ht9 (by omega), hb9⟩
              case measure => simp [intOf]; omega
            · have e : m = 3 := by omega
              subst e
              subst hz
              go_wp2
              go_roundw
              case rel => exact ⟨j + 1, t, by omega, by go_num, rfl, by omega, ht, hb⟩
              case measure => simp [intOf]; omega
        · have e : j = len0 := by omega
          subst e
          go_wp2_with fail
          refine (A.asked_any z0 _ _ tb _ _ ht).mono ?_
          rintro e v5 ⟨rfl, hw⟩
          rw [hw]
          clear hw
          go_wp2
          go_ret
          exact ⟨A.ret_bool (by simp), hb⟩

theorem walk (a0 : Option Addr) (len0 cap0 : Nat) (z0 : List A.Rg) (a1 : Option Addr) (len1 cap1 : Nat) (z1 : List Int) (w : World) (w0 : A.SegR w a0 len0 z0) (l0 : len0 ≤ cap0) (m0 : cap0 ≤ maxLen) (w1 : A.SegC w a1 len1 z1) (l1 : len1 ≤ cap1) (m1 : cap1 ≤ maxLen) :
    Calls Try.prog 3 #[.slice a0 len0 cap0, .slice a1 len1 cap1] w fun e w' => e = .returned (.bool true) ∧ Below w.heap.size w w' := by
  by_cases h : 100 < len0 ∨ 100 < len1
  · exact walk_far a0 len0 cap0 a1 len1 cap1 w h
  · cases hr : A.rightB 255 z0 len0
    · exact walk_no a0 len0 cap0 z0 a1 len1 cap1 w w0 (by omega) (by omega) hr
    · exact walk_yes a0 len0 cap0 z0 a1 len1 cap1 z1 w w0 w1 (by omega) (by omega) hr

set_option maxRecDepth 100000 in
theorem lifted (os : Os) (started : os.Started) (H : Type) (enc : TypeId × Value → H) :
    ReturnsInHanded {} Try.checked os 3 .any (Rows.trieGetsSpec.pre6 enc Try.prog Try.f3 Rows.trieGetsRow.domain false) (Rows.trieGetsSpec.post enc Try.prog Try.f3 false true false false) := by
  refine returnsInHanded_of_change (C := Try.checked) own started (by kernel_rfl) Try.func3
    (ChangeSpec.witness6 (enc := enc) (C := Try.checked) false ⟨#[], #[.slice none 0 0, .slice none 0 0], []⟩ 8 (by kernel_rfl) (by kernel_rfl) (by kernel_rfl) (by kernel_rfl)) ?_
  intro W base args ds gs before hval0 hW hcnd _
  have hval : ∀ (j : Nat) t v, Try.f3.params[j]? = some t → args[j]? = some v → Value.okWide Try.prog W .any base t v := hval0
  have hW' := hW
  obtain ⟨p, q, hA0, hV, rfl, hfz, hnd⟩ := hW
  have hA : DataW.TrodAll enc Try.prog W 0 (fun _ => true) true Try.f3.params.toList args.toList ds p := hA0
  rw [Try.params3] at hA hval
  obtain ⟨v0, vs0, d0, ds0, p0, q0, hargs, rfl, rfl, h0, r0⟩ := trodAll_cons hA
  obtain ⟨v1, vs1, d1, ds1, p1, q1, rfl, rfl, rfl, h1, r1⟩ := trodAll_cons r0
  obtain ⟨rfl, rfl, rfl⟩ := trodAll_nil r1
  obtain rfl : args = #[v0, v1] := by cases args; simp_all
  obtain ⟨rfl, rfl⟩ := trodVars_none hV
  obtain ⟨a0, len0, cap0, rfl⟩ := okWide_slice Try.underlying22 (hval 0 22 v0 rfl rfl)
  have k0 := h0
  have lt0 : ∀ x ∈ p0, x.block < W.heap.size := by obtain ⟨m, hm⟩ := k0; exact DataW.trod_lt m _ _ _ hm
  obtain ⟨z0, w0, l0, m0⟩ : ∃ zs, A.SegR W a0 len0 zs ∧ len0 ≤ cap0 ∧ cap0 ≤ maxLen := by obtain ⟨fuel, hf⟩ := h0; exact A.open_ranges hf
  obtain ⟨a1, len1, cap1, rfl⟩ := okWide_slice Try.underlying23 (hval 1 23 v1 rfl rfl)
  have k1 := h1
  have lt1 : ∀ x ∈ p1, x.block < W.heap.size := by obtain ⟨m, hm⟩ := k1; exact DataW.trod_lt m _ _ _ hm
  obtain ⟨z1, w1, l1, m1⟩ : ∃ zs, A.SegC W a1 len1 zs ∧ len1 ≤ cap1 ∧ cap1 ≤ maxLen := by obtain ⟨fuel, hf⟩ := h1; exact A.open_codes hf
  clear hA0 hval0
  refine (walk a0 len0 cap0 z0 a1 len1 cap1 z1 W w0 l0 m0 w1 l1 m1).mono fun e W' ⟨he, bel⟩ => ?_
  subst he
  exact ⟨_, rfl, _, _, _, [], _, [], hW', trodAll_mk1 (shut_bool Try.underlying4 _), (trodAll_cons_mk (Below.trod laidOut (by kernel_rfl) (of_decide_eq_true (by kernel_rfl)) k0 bel lt0) (trodAll_cons_mk (Below.trod laidOut (by kernel_rfl) (of_decide_eq_true (by kernel_rfl)) k1 bel lt1) trodAll_mk0)), rfl, bel.frame _, fun h => by cases h⟩

theorem over : Rows.trieGetsRow.holds Try.pinned (OpenSpec.ofChange Rows.trieGetsSpec) :=
  OpenClaim.holds_of_wide 3 Try.f3 rfl rfl rfl rfl rfl rfl rfl ⟨rfl, rfl, rfl, rfl, rfl⟩ rfl rfl rfl rfl rfl (by kernel_rfl) Try.func3 (by kernel_rfl)
    (of_decide_eq_true (by kernel_rfl)) (by unfold Func.isWrapper; first | (rw [if_pos (by decide +kernel)]; kernel_rfl) | (rw [if_neg (by decide +kernel)]; exact ⟨rfl, rfl⟩))
    (fun os started H enc _ => lifted os started H enc)

/-- The statement. -/
theorem proved : Rows.TrieGetsSaid := over
#print axioms proved
end Go.Proofs.Ytooiomfcemceiaa.trieGets
