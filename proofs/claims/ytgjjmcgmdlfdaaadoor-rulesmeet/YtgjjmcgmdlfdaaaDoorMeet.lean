/-
  For every text and every list of categories: what is read of the text is right, and categories come back from their word.
  Conditions: none. (The row lists two tables of the library; the card ties them to the program's text.)
-/
import Derived.Test.YtgjjmcgmdlfdaaaDoorSf
import Derived.Test.YtgjjmcgmdlfdaaaDoorTie
import Derived.Test.YtgjjmcgmdlfdaaaDoorCards
import Derived.SevenTiedAt
import Derived.OpenShut
import Derived.ShutString
import Derived.ChangeOld
import Derived.Below
namespace Go.Proofs.YtgjjmcgmdlfdaaaDoor.rulesMeet
open Go.ChangeShapes Go.WideShapes Go.ChangeAt Go.RowKit
open Go.ChangeMaps (open_string shut_string)
set_option linter.unusedVariables false

theorem parse_cases (s : ByteArray) : (∃ n f, A.parseF s = (none, n, f) ∧ (f = 1 ∨ f = 6)) ∨ (∃ l, A.parseF s = (some l, 0, 0) ∧ A.rightG l = true) := by
  unfold A.parseF
  by_cases h : 16 ≤ Lib.countB s A.nlB
  · rw [if_pos h]
    exact .inl ⟨0, 1, rfl, .inl rfl⟩
  · rw [if_neg h]
    obtain ⟨R, hR⟩ : ∃ R, A.readL [] 0 (A.linesB s) = R := ⟨_, rfl⟩
    rw [hR]
    obtain ⟨o, n⟩ := R
    cases o with
    | none => exact .inl ⟨n, 6, rfl, .inr rfl⟩
    | some l =>
      obtain ⟨_, r, e1, e2, e3⟩ := A.readL_good _ _ _ _ _ hR
      refine .inr ⟨l, rfl, ?_⟩
      have hl := A.lines_len s
      simp only [List.nil_append] at e1
      subst e1
      unfold A.rightG
      rw [e3]
      simp
      omega

set_option maxRecDepth 100000 in
set_option maxHeartbeats 6400000 in
theorem walk (s0 : ByteArray) (a1 : Option Addr) (len1 cap1 : Nat) (z1 : List Int) (m : Int) (w : World) (hm : w.cell? ⟨0, 0, none⟩ = some (.int .i64 m)) (w0 : s0.size ≤ maxLen) (w1 : A.Wd w a1 z1) (e1 : z1.length = len1) (l1 : len1 ≤ cap1) (m1 : cap1 ≤ maxLen) :
    Calls Tryd.prog 5 #[.string s0, .slice a1 len1 cap1] w fun e w' => e = .returned (.bool true) ∧ Below w.heap.size w w' := by
  unfold maxLen at w0 m1
  have HW := A.hide w1
  have HM := A.hide hm
  have HE := A.hide e1
  clear w1 hm e1
  go_enter Tryd.func5, Tryd.ntmps5
  go_wp2_with fail
  refine (A.alive_any m w HM.out).mono ?_
  rintro e u1 ⟨rfl, hb1⟩
  have HM1 := A.hide ((hb1.cell (A.cell_lt HM.out)).trans HM.out)
  have HW1 := A.hide (A.wd_below hb1 HW.out)
  have HB1 := A.hide hb1
  clear hb1 HW HM
  by_cases h400 : s0.size ≤ 400
  · have h400' : ¬ (400 : Int) < (s0.size : Int) := by omega
    by_cases h200 : len1 ≤ 200
    · have h200' : ¬ (200 : Int) < (len1 : Int) := by omega
      go_wp2_with fail
      refine (A.parse_any s0 m u1 (by omega) HM1.out).mono ?_
      intro e u2 hout
      have main : ∃ (a : Option Addr) (len cap n f : Nat) (l : List A.Rl), e = .returned (.tuple #[.slice a len cap, .int .i64 n, .int .i64 f]) ∧ len ≤ cap ∧ cap ≤ maxLen ∧ A.Rs u2 a len l ∧ Below u1.heap.size u1 u2 ∧ ((f = 0 ∧ n = 0 ∧ A.rightG l = true) ∨ (f ≠ 0 ∧ len = 0 ∧ A.rightG l = false)) := by
        rcases parse_cases s0 with ⟨n, f, hp, hf⟩ | ⟨l, hp, hr⟩
        · rw [hp] at hout
          obtain ⟨rfl, hb⟩ := hout
          exact ⟨none, 0, 0, n, f, [], rfl, Nat.le_refl _, by unfold maxLen; omega, ⟨rfl, .inl rfl⟩, hb, .inr ⟨by omega, rfl, rfl⟩⟩
        · rw [hp] at hout
          obtain ⟨a, len, cap, rfl, h1, h2, h3, h4⟩ := hout
          exact ⟨a, len, cap, 0, 0, l, rfl, h1, h2, h3, h4, .inl ⟨rfl, rfl, hr⟩⟩
      clear hout
      obtain ⟨a, len, cap, n, f, l, rfl, hc1, hc2, hrs, hb2, hcase⟩ := main
      have HRS := A.hide hrs
      have HW2 := A.hide (A.wd_below hb2 HW1.out)
      have HB2 := A.hide (HB1.out.trans (hb2.mono HB1.out.size))
      clear hrs hb2 HW1 HB1 HM1
      go_wp2_with fail
      refine (A.rightG_any a len cap l u2 hc1 hc2 HRS.out).mono ?_
      rintro e u3 ⟨rfl, hb3⟩
      have HW3 := A.hide (A.wd_below hb3 HW2.out)
      have HB3 := A.hide (HB2.out.trans (hb3.mono HB2.out.size))
      clear hb3 HW2 HB2 HRS
      rcases hcase with ⟨rfl, rfl, hr⟩ | ⟨hf, rfl, hr⟩
      · rw [hr]
        clear hr
        go_wp2_with fail
        refine (A.word_any a1 len1 cap1 z1 u3 HE.out (by omega) HW3.out).mono ?_
        rintro e u4 ⟨rfl, hb4⟩
        have HW4 := A.hide (A.wd_below hb4 HW3.out)
        have HB4 := A.hide (HB3.out.trans (hb4.mono HB3.out.size))
        clear hb4 HW3 HB3
        cases hall : z1.all A.catOk with
        | false =>
          have hwf : A.wordF z1 = { data := #[] } := by unfold A.wordF; rw [hall]; rfl
          rw [hwf]
          clear hwf hall
          go_wp2_with fail
          refine (A.cats_any { data := #[] } u4 (by decide)).mono ?_
          intro e u5 hout
          unfold A.OutC at hout
          rw [if_pos (by decide +kernel)] at hout
          obtain ⟨a5, cap5, rfl, -, -, -, hb5⟩ := hout
          have HB5 := A.hide (HB4.out.trans (hb5.mono HB4.out.size))
          clear hb5
          go_wp2
          go_ret
          exact ⟨rfl, HB5.out⟩
        | true =>
          obtain ⟨hc1', hc2', hc3'⟩ := A.cats_word hall
          have HCW := A.hide (And.intro hc1' hc2')
          have hws : (A.wordF z1).size = len1 := hc3'.trans HE.out
          obtain ⟨x, hx⟩ : ∃ x, A.wordF z1 = x := ⟨_, rfl⟩
          rw [hx] at HCW hws ⊢
          clear hall hc1' hc2' hc3' hx
          go_wp2_with fail
          refine (A.cats_any x u4 (by omega)).mono ?_
          intro e u5 hout
          unfold A.OutC at hout
          rw [if_pos HCW.out.2, HCW.out.1, hws] at hout
          obtain ⟨a5, cap5, rfl, -, -, hwd5, hb5⟩ := hout
          have HB5 := A.hide (HB4.out.trans (hb5.mono HB4.out.size))
          have HW5 := A.hide (A.wd_below hb5 HW4.out)
          have HV5 := A.hide hwd5
          clear hb5 hwd5 HW4 HB4
          by_cases h0 : len1 = 0
          · subst h0
            go_wp2
            go_ret
            exact ⟨rfl, HB5.out⟩
          · have h0' : ((len1 : Int) == 0) = false := by simp; omega
            go_wp2_with fail
            refine (A.ints_same a5 a1 len1 cap5 cap1 z1 u5 HE.out (by omega) HV5.out HW5.out).mono ?_
            rintro e u6 ⟨rfl, hb6⟩
            have HB6 := A.hide (HB5.out.trans (hb6.mono HB5.out.size))
            clear hb6
            go_wp2
            go_ret
            exact ⟨rfl, HB6.out⟩
      · rw [hr]
        have hf1 : ((f : Int) == 0) = false := by simp; omega
        have hf2 : ((f : Int) != 0) = true := by simp; omega
        clear hr
        go_wp2_with fail
        refine (A.word_any a1 len1 cap1 z1 u3 HE.out (by omega) HW3.out).mono ?_
        rintro e u4 ⟨rfl, hb4⟩
        have HW4 := A.hide (A.wd_below hb4 HW3.out)
        have HB4 := A.hide (HB3.out.trans (hb4.mono HB3.out.size))
        clear hb4 HW3 HB3
        cases hall : z1.all A.catOk with
        | false =>
          have hwf : A.wordF z1 = { data := #[] } := by unfold A.wordF; rw [hall]; rfl
          rw [hwf]
          clear hwf hall
          go_wp2_with fail
          refine (A.cats_any { data := #[] } u4 (by decide)).mono ?_
          intro e u5 hout
          unfold A.OutC at hout
          rw [if_pos (by decide +kernel)] at hout
          obtain ⟨a5, cap5, rfl, -, -, -, hb5⟩ := hout
          have HB5 := A.hide (HB4.out.trans (hb5.mono HB4.out.size))
          clear hb5
          go_wp2
          go_ret
          exact ⟨rfl, HB5.out⟩
        | true =>
          obtain ⟨hc1', hc2', hc3'⟩ := A.cats_word hall
          have HCW := A.hide (And.intro hc1' hc2')
          have hws : (A.wordF z1).size = len1 := hc3'.trans HE.out
          obtain ⟨x, hx⟩ : ∃ x, A.wordF z1 = x := ⟨_, rfl⟩
          rw [hx] at HCW hws ⊢
          clear hall hc1' hc2' hc3' hx
          go_wp2_with fail
          refine (A.cats_any x u4 (by omega)).mono ?_
          intro e u5 hout
          unfold A.OutC at hout
          rw [if_pos HCW.out.2, HCW.out.1, hws] at hout
          obtain ⟨a5, cap5, rfl, -, -, hwd5, hb5⟩ := hout
          have HB5 := A.hide (HB4.out.trans (hb5.mono HB4.out.size))
          have HW5 := A.hide (A.wd_below hb5 HW4.out)
          have HV5 := A.hide hwd5
          clear hb5 hwd5 HW4 HB4
          by_cases h0 : len1 = 0
          · subst h0
            go_wp2
            go_ret
            exact ⟨rfl, HB5.out⟩
          · have h0' : ((len1 : Int) == 0) = false := by simp; omega
            go_wp2_with fail
            refine (A.ints_same a5 a1 len1 cap5 cap1 z1 u5 HE.out (by omega) HV5.out HW5.out).mono ?_
            rintro e u6 ⟨rfl, hb6⟩
            have HB6 := A.hide (HB5.out.trans (hb6.mono HB5.out.size))
            clear hb6
            go_wp2
            go_ret
            exact ⟨rfl, HB6.out⟩
    · have h200' : (200 : Int) < (len1 : Int) := by omega
      go_wp2
      go_ret
      exact ⟨rfl, HB1.out⟩
  · have h400' : (400 : Int) < (s0.size : Int) := by omega
    go_wp2
    go_ret
    exact ⟨rfl, HB1.out⟩

set_option maxRecDepth 100000 in
theorem lifted (os : Os) (started : os.Started) (H : Type) (enc : TypeId × Value → H) :
    ReturnsInHanded {} Tryd.checked os 5 .any (fun w args => (Rows.rulesMeetSpec.pre enc Tryd.prog Tryd.f5 [] false w args ∧ laidMetH Tryd.prog Rows.rulesMeetRow.laid w) ∧ sizedMet enc Tryd.prog Tryd.f5 (OpenSpec.ofChange Rows.rulesMeetSpec) false w args) (Rows.rulesMeetSpec.post enc Tryd.prog Tryd.f5 false true false false) := by
  refine A.of_laid_shaped (C := Tryd.checked) (X := fun w _ => laidMetH Tryd.prog Rows.rulesMeetRow.laid w) (fun _ _ _ hh h => h.of_heap hh) A.own started (by kernel_rfl) Tryd.func5
    (ChangeSpec.witness_shaped (enc := enc) (C := Tryd.checked) (os := os) (X := fun w _ => laidMetH Tryd.prog Rows.rulesMeetRow.laid w) false ({ World.doorLaid Tryd.prog 19 os with heap := (World.doorLaid Tryd.prog 19 os).heap.setIfInBounds 1 (.cells A.firstRow 101 (0, 0)) } : World) #[.string { data := #[] }, .slice none 0 0] 8 rfl (World.shaped_of_RefB (by kernel_rfl) (by kernel_rfl)) (by kernel_rfl) (by kernel_rfl) (by kernel_rfl) (A.met os _)) ?_
  intro W base args ds gs before hval0 hW hsh
  obtain ⟨m, hm⟩ := A.maxLen_some hsh
  have hval : ∀ (j : Nat) t v, Tryd.f5.params[j]? = some t → args[j]? = some v → Value.okWide Tryd.prog W .any base t v := hval0
  have hW' := hW
  obtain ⟨p, q, hA0, hV, rfl, hfz, hnd⟩ := hW
  have hA : DataW.TrodAll enc Tryd.prog W 0 (fun _ => true) true Tryd.f5.params.toList args.toList ds p := hA0
  rw [Tryd.params5] at hA hval
  obtain ⟨v0, vs0, d0, ds0, p0, q0, hargs, rfl, rfl, h0, r0⟩ := trodAll_cons hA
  obtain ⟨v1, vs1, d1, ds1, p1, q1, rfl, rfl, rfl, h1, r1⟩ := trodAll_cons r0
  obtain ⟨rfl, rfl, rfl⟩ := trodAll_nil r1
  obtain rfl : args = #[v0, v1] := by cases args; simp_all
  obtain ⟨rfl, rfl⟩ := trodVars_none hV
  obtain ⟨s0, rfl, rfl, rfl, w0⟩ := open_string Tryd.underlying9 (hval 0 9 v0 rfl rfl) h0
  obtain ⟨a1, len1, cap1, rfl⟩ := okWide_slice Tryd.underlying25 (hval 1 25 v1 rfl rfl)
  have k1 := h1
  have lt1 : ∀ x ∈ p1, x.block < W.heap.size := by obtain ⟨m, hm⟩ := k1; exact DataW.trod_lt m _ _ _ hm
  obtain ⟨z1, w1, e1, l1, m1⟩ : ∃ zs : List Int, A.Wd W a1 zs ∧ zs.length = len1 ∧ len1 ≤ cap1 ∧ cap1 ≤ maxLen := by obtain ⟨fuel, hf⟩ := h1; exact A.open_words hf
  clear hA0 hval0
  refine (walk s0 a1 len1 cap1 z1 m W hm w0 w1 e1 l1 m1).mono fun e W' ⟨he, bel⟩ => ?_
  subst he
  exact ⟨_, rfl, _, _, _, [], _, [], hW', trodAll_mk1 (shut_bool Tryd.underlying4 _), (trodAll_cons_mk (shut_string Tryd.underlying9 w0) (trodAll_cons_mk (Below.trod A.laidOut (by kernel_rfl) (of_decide_eq_true (by kernel_rfl)) k1 bel lt1) trodAll_mk0)), rfl, bel.frame _, fun h => by cases h⟩

theorem over : Rows.rulesMeetRow.holds Tryd.pinned (OpenSpec.ofChange Rows.rulesMeetSpec) :=
  OpenClaim.holds_of_wide 5 Tryd.f5 rfl rfl rfl rfl rfl rfl rfl ⟨rfl, rfl, rfl, rfl, rfl⟩ rfl rfl rfl rfl rfl (by kernel_rfl) Tryd.func5 (by kernel_rfl)
    (of_decide_eq_true (by kernel_rfl)) (by unfold Func.isWrapper; first | (rw [if_pos (by decide +kernel)]; kernel_rfl) | (rw [if_neg (by decide +kernel)]; exact ⟨rfl, rfl⟩))
    (fun os started H enc _ => lifted os started H enc)

/-- The statement: the tied card. -/
theorem proved : Rows.RulesMeetCardSaid :=
  Claim7.holds_tied_plain_at .later [] [.data, .pinned] true Rows.rulesMeetCard.stood.harness false
    over (fun _ h => by cases h) (by kernel_rfl) (fun _ h => by cases h) rulesMeet_row_tie rfl ⟨rfl, rfl⟩ (by kernel_rfl) rfl
    (fun f fn hf hfn => by
      obtain rfl : f = 5 := Option.some.inj ((show Tryd.prog.funcNamed Rows.rulesMeetRow.func = some 5 by kernel_rfl).symm.trans hf) |>.symm
      obtain rfl : fn = Tryd.f5 := (Option.some.inj (Tryd.func5.symm.trans hfn)).symm
      exact ⟨by kernel_rfl, fun j t ht => by
        rw [Tryd.params5] at ht
        have hmem : t ∈ [9, 25] := by simpa using Array.mem_of_getElem? ht
        have hall : ([9, 25].all fun u => !Tryd.prog.wantsStandIn u) = true := by kernel_rfl
        exact (show Tryd.prog.wantsStandIn t = false by simpa using List.all_eq_true.1 hall t hmem)⟩)
    (by kernel_rfl)
#print axioms proved
end Go.Proofs.YtgjjmcgmdlfdaaaDoor.rulesMeet
