/-
  For every right grammar: its first rules are a right grammar, and with its first rule once more it is none.
  Conditions: none. (The row lists two tables of the library; the card ties them to the program's text.)
-/
import Derived.Test.YtgjjmcgmdlfdaaaDoorVc
import Derived.Test.YtgjjmcgmdlfdaaaDoorTie
import Derived.Test.YtgjjmcgmdlfdaaaDoorCards
import Derived.SevenTiedAt
import Derived.OpenShut
import Derived.ShutString
import Derived.ChangeOld
import Derived.Below
namespace Go.Proofs.YtgjjmcgmdlfdaaaDoor.rulesPrefix
open Go.ChangeShapes Go.WideShapes Go.ChangeAt Go.RowKit
open Go.ChangeMaps (open_string shut_string)
set_option linter.unusedVariables false

set_option maxRecDepth 100000 in
set_option maxHeartbeats 12800000 in
theorem walk (a0 : Option Addr) (len0 cap0 : Nat) (z0 : List A.Rl) (a1 : Int) (m : Int) (w : World) (hm : w.cell? ⟨0, 0, none⟩ = some (.int .i64 m)) (w0 : A.Rs w a0 len0 z0) (l0 : len0 ≤ cap0) (m0 : cap0 ≤ maxLen) (w1 : (Lit.int .u8 a1).wf = true) :
    Calls Tryd.prog 6 #[.slice a0 len0 cap0, .int .u8 a1] w fun e w' => e = .returned (.bool true) ∧ Below w.heap.size w w' := by
  obtain ⟨i0, hi0, hz0, hz1, hz2⟩ := info_parts A.info42
  have hb8 := bounds_u8 w1
  have HW := A.hide w0
  have HM := A.hide hm
  clear w0 hm w1
  go_enter Tryd.func6, Tryd.ntmps6
  go_wp2_with fail
  refine (A.alive_any m w HM.out).mono ?_
  rintro e u1 ⟨rfl, hb1⟩
  have HW1 := A.hide (A.rs_below hb1 HW.out)
  have HB1 := A.hide hb1
  clear hb1 HW HM
  go_wp2_with fail
  refine (A.rgreatG_any a0 len0 cap0 z0 u1 l0 m0 HW1.out).mono ?_
  rintro e u2 ⟨rfl, hb2⟩
  have HW2 := A.hide (A.rs_below hb2 HW1.out)
  have HB2 := A.hide (HB1.out.trans (hb2.mono HB1.out.size))
  clear hb2 HW1 HB1
  cases hg : A.greatG z0 with
  | true =>
    clear hg
    go_wp2
    go_ret
    exact ⟨rfl, HB2.out⟩
  | false =>
    clear hg
    go_wp2_with fail
    refine (A.rightG_any a0 len0 cap0 z0 u2 l0 m0 HW2.out).mono ?_
    rintro e u3 ⟨rfl, hb3⟩
    have HW3 := A.hide (A.rs_below hb3 HW2.out)
    have HB3 := A.hide (HB2.out.trans (hb3.mono HB2.out.size))
    clear hb3 HW2 HB2
    cases hr : A.rightG z0 with
    | false =>
      clear hr
      go_wp2
      go_ret
      exact ⟨rfl, HB3.out⟩
    | true =>
      have hlen : 1 ≤ len0 ∧ len0 ≤ 16 := by
        have h := hr
        unfold A.rightG at h
        simp only [Bool.and_eq_true, decide_eq_true_eq] at h
        rw [HW3.out.1] at h
        exact h.1
      have HR := A.hide hr
      obtain ⟨k0, hk0⟩ : ∃ k0 : Nat, a1.toNat % len0 = k0 := ⟨_, rfl⟩
      have hk1 : k0 < len0 := by rw [← hk0]; exact Nat.mod_lt _ (by omega)
      have hmod : Int.tmod a1 (len0 : Int) = (k0 : Int) := by
        rw [← hk0]
        obtain ⟨n, rfl⟩ : ∃ n : Nat, a1 = (n : Int) := ⟨a1.toNat, by omega⟩
        simp [Int.tmod_eq_emod_of_nonneg]
      have hlne : ¬ (len0 : Int) = 0 := by omega
      clear hr
      obtain ⟨x0, b, off, k, s, a', l', c, rfl, hx0, p0, p1, p2, p3, p4, p5, p6⟩ := A.rs_open HW3.out (i := 0) (by omega)
      obtain ⟨ps, hps, hcell, hrx⟩ := A.rs_cells (A.rs_take HW3.out (1 + k0) (by omega))
      have hpl : ps.length = 1 + k0 := by
        have := congrArg List.length hps
        rw [List.length_map, List.length_take, HW3.out.1] at this
        omega
      have HCL := A.hide (show (A.cellsQ ps).length = (1 + k0) * 5 by rw [A.cellsQ_len, hpl])
      have HCE := A.hide (show ∀ j u, (A.cellsQ ps)[j]? = some u → u3.cell? ((⟨b, off, none⟩ : Addr).add j) = some u from fun j u hj => by
        have e : (⟨b, off, none⟩ : Addr).add j = ⟨b, off + j, none⟩ := by
          simp only [Addr.add]
          split
          · rename_i h; rw [h]; rfl
          · rfl
        rw [e]
        exact hcell j u hj)
      have HRX := A.hide hrx
      have HPS := A.hide hps
      have HPL := A.hide hpl
      have HRX0 := A.hide (show x0.nm.size ≤ maxLen ∧ A.Rx u3 x0.n x0.t (.agg #[.int .u8 k, .int .u16 s, .slice a' l' c]) from ⟨p5, p6⟩)
      have HX0 := A.hide hx0
      have hcap : cap0 ≤ 9223372036854775807 := m0
      have i1 : (0 : Int) ≤ 1 + (k0 : Int) := by omega
      have i2 : (1 : Int) + (k0 : Int) ≤ (cap0 : Int) := by omega
      have i3 : (0 : Int) < (len0 : Int) := by omega
      simp only [Nat.zero_mul, Nat.add_zero] at p0 p1 p2 p3 p4
      clear hps hcell hrx hpl p5 p6 hx0
      go_wp2_with (at_builtin; refine wpList_append_lies _ rfl _ _ 22 rfl u3.heap.size 42 i0 (.agg #[.string { data := #[] }, .int .u8 0, .int .u16 0, .slice none 0 0, .bool false]) 5 56 Tryd.underlying22 hi0 hz0 hz1 hz2 rfl (by omega) (.slice none 0 0) 0 [] rfl (World.ownsRow_nil _ _ _ _) ⟨b, off, none⟩ (1 + k0) cap0 (A.cellsQ ps) rfl HCL.out HCE.out (A.cellsQ_one' ps) (by omega) (by unfold maxLen; omega) (by omega) (Nat.le_refl _) u3.heap.size rfl ?_)
      intro g cap w4 hown4 hgrow4 hat4 hlt4
      have hb4 : Below u3.heap.size u3 w4 := ⟨hgrow4.os, hgrow4.tape, hgrow4.output, hgrow4.size, fun j hj => hgrow4.block j hj (by simp [Value.ownBlock])⟩
      have q0 := (hb4.cell (A.cell_lt p0)).trans p0
      have q1 := (hb4.cell (A.cell_lt p1)).trans p1
      have q2 := (hb4.cell (A.cell_lt p2)).trans p2
      have q3 := (hb4.cell (A.cell_lt p3)).trans p3
      have q4 := (hb4.cell (A.cell_lt p4)).trans p4
      have HB4 := A.hide hb4
      have HO4 := A.hide (hown4.alloc (.cells #[.string x0.nm, .int .u8 k, .int .u16 s, .slice a' l' c, .bool x0.br] 42))
      have HNW := A.hide (A.one_newQ w4 x0 ⟨k, s, a', l', c⟩ 42)
      have HBZ := A.hide (show u3.heap.size ≤ (w4.alloc (.cells #[.string x0.nm, .int .u8 k, .int .u16 s, .slice a' l' c, .bool x0.br] 42)).heap.size by have := hb4.size; simp; omega)
      have HBA := A.hide (hb4.alloc hb4.size (.cells #[.string x0.nm, .int .u8 k, .int .u16 s, .slice a' l' c, .bool x0.br] 42))
      have HOL := A.hide (show ∀ j, (Value.slice (some ⟨g, 0, none⟩) (1 + k0) cap).ownBlock = some j → u3.heap.size ≤ j from fun j hj => (hown4.lt j hj).1)
      clear hown4 hgrow4 hat4 hlt4 hb4 p0 p1 p2 p3 p4 HCE
      go_wp2_with (at_builtin; refine wpList_append_lies _ rfl _ _ 22 rfl u3.heap.size 42 i0 (.agg #[.string { data := #[] }, .int .u8 0, .int .u16 0, .slice none 0 0, .bool false]) 5 56 Tryd.underlying22 hi0 hz0 hz1 hz2 rfl (by omega) (.slice (some ⟨g, 0, none⟩) (1 + k0) cap) (1 + k0) (A.cellsQ ps) rfl HO4.out ⟨w4.heap.size, 0, none⟩ 1 1 (A.cellsP (x0, ⟨k, s, a', l', c⟩)) rfl rfl HNW.out (A.cellsP_one' _) (by omega) (by unfold maxLen; omega) (by omega) HBZ.out (w4.heap.size + 1) (by simp) ?_)
      intro g2 cap2 w5 hown5 hgrow5 hat5 hlt5
      have hb5 : Below u3.heap.size u3 w5 := HBA.out.grown hgrow5 HBZ.out HOL.out
      have hrs5 : ∃ a2 c2, (Value.slice (some ⟨g2, 0, none⟩) (1 + k0 + 1) cap2) = .slice a2 (1 + k0 + 1) c2 ∧ 1 + k0 + 1 ≤ c2 ∧ c2 ≤ maxLen ∧ A.Rs w5 a2 (1 + k0 + 1) (z0.take (1 + k0) ++ [x0]) := by
        have hlen5 : (ps ++ [(x0, (⟨k, s, a', l', c⟩ : A.Nd))]).length = 1 + k0 + 1 := by rw [List.length_append, HPL.out]; rfl
        have ho : w5.ownsRow u3.heap.size 42 5 (.slice (some ⟨g2, 0, none⟩) (1 + k0 + 1) cap2) (ps ++ [(x0, (⟨k, s, a', l', c⟩ : A.Nd))]).length (A.cellsQ (ps ++ [(x0, (⟨k, s, a', l', c⟩ : A.Nd))])) := by
          rw [hlen5, A.cellsQ_app, A.cellsQ_one]
          exact hown5
        obtain ⟨a2, c2, e1, e2, e3, e4⟩ := A.own_rs ho (fun p hp => by
          rcases List.mem_append.1 hp with hp | hp
          · obtain ⟨h1, h2⟩ := HRX.out p hp
            exact ⟨h1, A.rx_below hb5 _ _ _ h2⟩
          · have e : p = (x0, (⟨k, s, a', l', c⟩ : A.Nd)) := by simpa using hp
            subst e
            exact ⟨HRX0.out.1, A.rx_below hb5 _ _ _ HRX0.out.2⟩)
        rw [hlen5] at e1 e2 e4
        rw [List.map_append, HPS.out] at e4
        exact ⟨a2, c2, e1, e2, e3, e4⟩
      obtain ⟨a2, c2, e1, e2, e3, e4⟩ := hrs5
      simp only [Value.slice.injEq, true_and] at e1
      obtain ⟨rfl, rfl⟩ := e1
      have HRS5 := A.hide e4
      have HRT5 := A.hide (A.rs_below hb5 (A.rs_take HW3.out (1 + k0) (by omega)))
      have HB5 := A.hide (HB3.out.trans (hb5.mono HB3.out.size))
      have hc5 : cap2 ≤ maxLen := e3
      have HT1 := A.hide (A.right_take HR.out (k := 1 + k0) (by omega) (by rw [HW3.out.1]; omega))
      have HT2 := A.hide (A.right_twice (l := z0) (k := 1 + k0) (by omega) HX0.out)
      clear hown5 hgrow5 hat5 hlt5 hb5 e4 q0 q1 q2 q3 q4 HO4 HNW HBZ HBA HOL HB4
      go_wp2_with fail
      refine (A.rightG_any _ (1 + k0) cap0 (z0.take (1 + k0)) w5 (by omega) m0 HRT5.out).mono ?_
      rintro e u6 ⟨rfl, hb6⟩
      rw [HT1.out]
      have HRS6 := A.hide (A.rs_below hb6 HRS5.out)
      have HB6 := A.hide (HB5.out.trans (hb6.mono HB5.out.size))
      clear hb6 HRS5 HRT5 HB5
      go_wp2_with fail
      refine (A.rightG_any _ (1 + k0 + 1) cap2 (z0.take (1 + k0) ++ [x0]) u6 e2 hc5 HRS6.out).mono ?_
      rintro e u7 ⟨rfl, hb7⟩
      rw [HT2.out]
      have HB7 := A.hide (HB6.out.trans (hb7.mono HB6.out.size))
      clear hb7
      go_wp2
      go_ret
      exact ⟨rfl, HB7.out⟩

set_option maxRecDepth 100000 in
theorem lifted (os : Os) (started : os.Started) (H : Type) (enc : TypeId × Value → H) :
    ReturnsInHanded {} Tryd.checked os 6 .any (fun w args => (Rows.rulesPrefixSpec.pre enc Tryd.prog Tryd.f6 [] false w args ∧ laidMetH Tryd.prog Rows.rulesPrefixRow.laid w) ∧ sizedMet enc Tryd.prog Tryd.f6 (OpenSpec.ofChange Rows.rulesPrefixSpec) false w args) (Rows.rulesPrefixSpec.post enc Tryd.prog Tryd.f6 false true false false) := by
  refine A.of_laid_shaped (C := Tryd.checked) (X := fun w _ => laidMetH Tryd.prog Rows.rulesPrefixRow.laid w) (fun _ _ _ hh h => h.of_heap hh) A.own started (by kernel_rfl) Tryd.func6
    (ChangeSpec.witness_shaped (enc := enc) (C := Tryd.checked) (os := os) (X := fun w _ => laidMetH Tryd.prog Rows.rulesPrefixRow.laid w) false ({ World.doorLaid Tryd.prog 19 os with heap := (World.doorLaid Tryd.prog 19 os).heap.setIfInBounds 1 (.cells A.firstRow 101 (0, 0)) } : World) #[.slice none 0 0, .int .u8 0] 8 rfl (World.shaped_of_RefB (by kernel_rfl) (by kernel_rfl)) (by kernel_rfl) (by kernel_rfl) (by kernel_rfl) (A.met os _)) ?_
  intro W base args ds gs before hval0 hW hsh
  obtain ⟨m, hm⟩ := A.maxLen_some hsh
  have hval : ∀ (j : Nat) t v, Tryd.f6.params[j]? = some t → args[j]? = some v → Value.okWide Tryd.prog W .any base t v := hval0
  have hW' := hW
  obtain ⟨p, q, hA0, hV, rfl, hfz, hnd⟩ := hW
  have hA : DataW.TrodAll enc Tryd.prog W 0 (fun _ => true) true Tryd.f6.params.toList args.toList ds p := hA0
  rw [Tryd.params6] at hA hval
  obtain ⟨v0, vs0, d0, ds0, p0, q0, hargs, rfl, rfl, h0, r0⟩ := trodAll_cons hA
  obtain ⟨v1, vs1, d1, ds1, p1, q1, rfl, rfl, rfl, h1, r1⟩ := trodAll_cons r0
  obtain ⟨rfl, rfl, rfl⟩ := trodAll_nil r1
  obtain rfl : args = #[v0, v1] := by cases args; simp_all
  obtain ⟨rfl, rfl⟩ := trodVars_none hV
  obtain ⟨a0, len0, cap0, rfl⟩ := okWide_slice Tryd.underlying22 (hval 0 22 v0 rfl rfl)
  have k0 := h0
  have lt0 : ∀ x ∈ p0, x.block < W.heap.size := by obtain ⟨m, hm⟩ := k0; exact DataW.trod_lt m _ _ _ hm
  obtain ⟨z0, w0, l0, m0⟩ : ∃ zs : List A.Rl, A.Rs W a0 len0 zs ∧ len0 ≤ cap0 ∧ cap0 ≤ maxLen := by obtain ⟨fuel, hf⟩ := h0; exact A.open_rules hf
  obtain ⟨a1, rfl, rfl, rfl, w1⟩ := open_int Tryd.underlying5 (hval 1 5 v1 rfl rfl) h1
  clear hA0 hval0
  refine (walk a0 len0 cap0 z0 a1 m W hm w0 l0 m0 w1).mono fun e W' ⟨he, bel⟩ => ?_
  subst he
  exact ⟨_, rfl, _, _, _, [], _, [], hW', trodAll_mk1 (shut_bool Tryd.underlying4 _), (trodAll_cons_mk (Below.trod A.laidOut (by kernel_rfl) (of_decide_eq_true (by kernel_rfl)) k0 bel lt0) (trodAll_cons_mk (shut_int Tryd.underlying5 w1) trodAll_mk0)), rfl, bel.frame _, fun h => by cases h⟩

theorem over : Rows.rulesPrefixRow.holds Tryd.pinned (OpenSpec.ofChange Rows.rulesPrefixSpec) :=
  OpenClaim.holds_of_wide 6 Tryd.f6 rfl rfl rfl rfl rfl rfl rfl ⟨rfl, rfl, rfl, rfl, rfl⟩ rfl rfl rfl rfl rfl (by kernel_rfl) Tryd.func6 (by kernel_rfl)
    (of_decide_eq_true (by kernel_rfl)) (by unfold Func.isWrapper; first | (rw [if_pos (by decide +kernel)]; kernel_rfl) | (rw [if_neg (by decide +kernel)]; exact ⟨rfl, rfl⟩))
    (fun os started H enc _ => lifted os started H enc)

/-- The statement: the tied card. -/
theorem proved : Rows.RulesPrefixCardSaid :=
  Claim7.holds_tied_plain_at .later [] [.data, .pinned] true Rows.rulesPrefixCard.stood.harness false
    over (fun _ h => by cases h) (by kernel_rfl) (fun _ h => by cases h) rulesPrefix_row_tie rfl ⟨rfl, rfl⟩ (by kernel_rfl) rfl
    (fun f fn hf hfn => by
      obtain rfl : f = 6 := Option.some.inj ((show Tryd.prog.funcNamed Rows.rulesPrefixRow.func = some 6 by kernel_rfl).symm.trans hf) |>.symm
      obtain rfl : fn = Tryd.f6 := (Option.some.inj (Tryd.func6.symm.trans hfn)).symm
      exact ⟨by kernel_rfl, fun j t ht => by
        rw [Tryd.params6] at ht
        have hmem : t ∈ [22, 5] := by simpa using Array.mem_of_getElem? ht
        have hall : ([22, 5].all fun u => !Tryd.prog.wantsStandIn u) = true := by kernel_rfl
        exact (show Tryd.prog.wantsStandIn t = false by simpa using List.all_eq_true.1 hall t hmem)⟩)
    (by kernel_rfl)
#print axioms proved
end Go.Proofs.YtgjjmcgmdlfdaaaDoor.rulesPrefix
