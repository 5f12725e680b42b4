/- The program's find. -/
import Derived.Test.YthkollnlmnbidaaGi
namespace Go.Proofs.Ythkollnlmnbidaa.A
open Go.RowKit Go.Maps
set_option linter.unusedVariables false

set_option maxRecDepth 100000 in
set_option maxHeartbeats 3200000 in
theorem sfind_any (base n q m C d : Nat) (cl : Nat → Int) (fv nv rv : Value) (fd : List Int) (nx : List (List Int)) (ru : List Int) (nx0 : List (List Int)) (ru0 : List Int) (z : Int) (w : World) (hcl : IsCls nx0 ru0 n cl) (h : Sn w base n q m C d cl fv nv rv fd nx ru) (hz1 : -1 ≤ z) (hz2 : z < (n : Int)) (hl : fd.length ≤ 5000) :
    Calls Try.prog 34 #[.pointer (some ⟨q, 0, none⟩), .int .i64 z] w fun e w' => e = .returned (.int .i64 (findF (SL cl n fd) (clsD (AC cl) (GC cl) n z)).2) ∧ (∃ fv' r, Sn w' base n q m C d cl fv' nv rv (fd ++ r) nx ru ∧ SL cl n (fd ++ r) = (findF (SL cl n fd) (clsD (AC cl) (GC cl) n z)).1 ∧ r.length ≤ 1) ∧ Kn base w w' := by
  obtain ⟨i3, hi3, hz3, hs3, hb3⟩ := info_parts info3
  obtain ⟨q0, q1, q2, qz⟩ := q_cells h.blk
  have HSN := hide h
  have HCL := hide hcl
  have HIK := hide h.ik
  have HLT := hide (sn_lt h)
  clear hcl
  by_cases hcz : cF cl z = -1
  · have HE := hide (find_no HCL.out hcz (SL cl n fd))
    have d0 : ((-1 : Int) == -1) = true := by simp
    clear h qz
    go_enter Try.func34, Try.ntmps34
    go_wp2_with fail
    refine (classOf_any C n cl z w HIK.out hz1 hz2).mono ?_
    rw [hcz]
    clear hcz
    rintro e w1 ⟨rfl, hw1⟩
    rw [hw1]
    clear hw1
    go_wp2
    go_ret
    exact ⟨by rw [HE.out]; rfl, ⟨fv, [], by rw [List.append_nil]; exact HSN.out, by rw [HE.out, List.append_nil], by simp⟩, Kn.refl _ _⟩
  · have hzn : z ≠ -1 := fun e => hcz (by subst e; exact cF_no cl)
    obtain ⟨t, rfl⟩ : ∃ t : Nat, z = t := ⟨z.toNat, by omega⟩
    have htn : t < n := by omega
    have hct := HCL.out.rng t htn
    rw [cF_at] at hcz
    have d0 : (cl t == -1) = false := by simp [hcz]
    have HCT := hide hcz
    have HKY := hide (key3 hct.1 (show cl t ≤ 10000 by omega))
    obtain ⟨xf, cf, hfv⟩ := own_form h.f
    obtain ⟨D, hown, htie⟩ := h.map
    have HTI := hide htie
    have HC1 := hide (classOf_any C n cl (t : Int) w HIK.out hz1 hz2)
    rw [cF_at] at HC1
    obtain ⟨nf, hnf⟩ : ∃ nf, fd.length = nf := ⟨_, rfl⟩
    have HNF := hide hnf
    rw [hnf] at hfv hown hl
    subst hfv
    clear h qz htie hcz hzn hnf
    by_cases hm : cl t ∈ KL cl fd
    · have hhas : Maps.has D (kN (cl t)) = true := by rw [(HTI.out (cl t) hct.1 (by omega)).1]; simp [hm]
      have hat0 := (HTI.out (cl t) hct.1 (by omega)).2 hm
      have HE := hide (find_old HCL.out HSN.out.rng htn HCT.out hm)
      clear hm
      generalize (KL cl fd).idxOf (cl t) = ix at *
      go_enter Try.func34, Try.ntmps34
      go_wp2_with fail
      refine HC1.out.mono ?_
      rintro e w1 ⟨rfl, hw1⟩
      rw [hw1]
      clear hw1
      go_wp2_with (at_lookup; refine wpList_lookup_own_ok_int _ rfl _ _ 43 rfl 3 3 .i64 law3 Try.underlying43 Try.underlying3 (zero3 _) m nf D rfl hown _ _ rfl HKY.out ?_; intro c hat hwc; rw [hhas]; obtain rfl : c = (ix : Int) := by (rw [hat0] at hat; injection hat with h1; injection h1 with _ h2; exact h2.symm))
      go_ret
      exact ⟨by rw [HE.out]; rfl, ⟨_, [], by rw [List.append_nil]; exact HSN.out, by rw [HE.out, List.append_nil], by simp⟩, Kn.refl _ _⟩
    · have hhas : Maps.has D (kN (cl t)) = false := by rw [(HTI.out (cl t) hct.1 (by omega)).1]; simp [hm]
      have HE := hide (find_new HCL.out HSN.out.rng htn HCT.out hm)
      have HTN := hide (show TieN (KL cl (fd ++ [(t : Int)])) (D.put (kN (cl t)) (.lit (.int .i64 (nf : Nat)))) from by
        have h1 := tieN_new HTI.out hown.isMap hct.1 (by omega) hm
        rw [kl_len, HNF.out] at h1
        have e : KL cl (fd ++ [(t : Int)]) = KL cl fd ++ [cl t] := by simp [KL]
        rw [e]; exact h1)
      clear hm
      go_enter Try.func34, Try.ntmps34
      go_wp2_with fail
      refine HC1.out.mono ?_
      rintro e w1 ⟨rfl, hw1⟩
      rw [hw1]
      clear hw1
      go_wp2_with (first
        | (at_lookup; refine wpList_lookup_own_ok_int _ rfl _ _ 43 rfl 3 3 .i64 law3 Try.underlying43 Try.underlying3 (zero3 _) m nf D rfl hown _ _ rfl HKY.out ?_; intro c hat hwc; rw [hhas])
        | (at_mapUpdate; refine wpList_mapUpdate_own _ rfl _ _ _ 43 rfl 3 3 law3 Try.underlying43 _ m nf D rfl hown (by unfold maxLen; omega) _ _ _ rfl rfl HKY.out _ [] (plainElem_int Try.underlying3 (WalkArith.wf_i64 (by omega))) ?_; intro w2 hown2 hg2; have HG2 := hide hg2; have HO2 := hide hown2; have hlt2 := HLT.out; have hb2 := (hg2.block q hlt2.1 (fun e => hlt2.2.2.2.2.2.1 (Option.some.inj e))).trans HSN.out.blk; obtain ⟨k0, k1, k2, kz⟩ := q_cells hb2; have kz1 := kz 1; have HB2 := hide hb2; have HOW := hide (show w2.ownsRow base 3 1 (.slice xf nf cf) nf (fd.map (Value.int .i64)) from by
              have h1 := own_move (w' := w2) HSN.out.f (fun k hk => hg2.block k (own_type HSN.out.f hk).2.1 (fun e => by
                obtain ⟨es, cc, hmm⟩ := HLT.out.2.2.2.2.2.2.2.2
                obtain ⟨_, _, cs, h'⟩ := own_type HSN.out.f hk
                have e2 := Option.some.inj e
                rw [e2, hmm] at h'; cases h'))
              rw [HNF.out] at h1
              exact h1); have HSZ := hide (show base ≤ (w2.alloc (.cells #[.int .i64 (t : Int)] 3)).heap.size by have := hlt2.2.2.2.2.1; have := hg2.size; simp; omega); clear hown2 hg2 hlt2 hb2 kz q0 q1 q2 hown)
        | (at_builtin; refine wpList_append_lies _ rfl _ _ 23 rfl base 3 i3 (.int .i64 0) 1 8 Try.underlying23 hi3 hz3 hs3 hb3 rfl (by decide) _ nf (fd.map (Value.int .i64)) rfl (HOW.out.alloc _) ⟨_, 0, none⟩ 1 1 [.int .i64 (t : Int)] rfl rfl (one_new _ _ _) (fun u hu => by simp only [List.mem_singleton] at hu; subst hu; rfl) (by decide) (by unfold maxLen; omega) (by omega) HSZ.out _ rfl ?_; intro g' cap' w3 hown3 hg3 hat3 hlt3; have HG3 := hide hg3; have HO3 := hide hown3; have HA3 := hide hat3; have hb4 := (hg3.block q (by have := (Array.getElem?_eq_some_iff.1 HB2.out).1; simp; omega) (fun e => own_not HOW.out HB2.out (by decide) e.symm)).trans ((Below.heap_alloc _ _ _ (Array.getElem?_eq_some_iff.1 HB2.out).1).trans HB2.out); obtain ⟨r0, r1, r2, rz⟩ := q_cells hb4; have rz1 := rz 1; clear hg3 hown3 hat3 hb4 rz k0 k1 k2 kz1))
      go_ret
      have hz := sn_find (w1 := w2) (w2 := w3) (g := g') (cap := cap') (t := t) HSN.out HG2.out (by rw [HNF.out]; exact HO2.out) HTN.out htn HG3.out (by rw [HNF.out]; exact HO3.out) (by
        rcases HA3.out with h | h
        · exact .inl h
        · right
          have : (w2.alloc (.cells #[.int .i64 (t : Int)] 3)).heap.size = w2.heap.size + 1 := by simp
          omega)
      rw [HNF.out] at hz
      exact ⟨by rw [HE.out, HNF.out]; rfl, ⟨_, [(t : Int)], hz.1, by rw [HE.out], by simp⟩, hz.2⟩
end Go.Proofs.Ythkollnlmnbidaa.A
