/- The program's Match of a machine that may be. -/
import Derived.Test.YtldeofdjhpfdaaaPf
namespace Go.Proofs.Ytldeofdjhpfdaaa.A
open Go.RowKit

theorem zero_new (w : World) : Wd (w.alloc (.cells #[.int .i64 0] 3)) (some ⟨w.heap.size, 0, none⟩) [0] := fun i c hc => by
  match i with
  | 0 =>
    have e : (0 : Int) = c := by simpa using hc
    subst e
    exact ⟨_, _, rfl, by simp⟩
  | i + 1 => simp at hc
theorem run_zero {fs : List (List Int)} {ss : List Nat} {ts : List Int} {N : Nat} {word : List Int} {g : Nat → Bool} (h : IsCl fs N (tblB [0] 1) g) : IsRun fs ss ts N word 0 g :=
  isCl_congr (fun j _ => by
    rw [Bool.eq_iff_iff]
    simp [tblB]
    constructor
    · intro h; omega
    · intro h; omega) h
theorem run_next {fs : List (List Int)} {ss : List Nat} {ts : List Int} {N : Nat} {word : List Int} {k : Nat} {c : Int} {g g' : Nat → Bool} (hc : word[k]? = some c) (h : IsRun fs ss ts N word k g)
    (h' : IsCl fs N (tblB (lstL (stpB ss ts c (tblB (lstL g N) (lstL g N).length) N) N) (lstL (stpB ss ts c (tblB (lstL g N) (lstL g N).length) N) N).length) g') : IsRun fs ss ts N word (k + 1) g' := by
  refine ⟨g, h, isCl_congr (fun j hj => ?_) h'⟩
  rw [tbl_lst _ _ _ hj, show word.getD k 0 = c by rw [List.getD_eq_getElem?_getD, hc]; rfl]
  exact stp_congr (fun i hi => tbl_lst _ _ _ hi) j

set_option maxRecDepth 100000 in
set_option maxHeartbeats 6400000 in
theorem pmatch_yes (a0 a1 a2 a3 : Option Addr) (N c0 c1 c2 c3 : Nat) (fs : List (List Int)) (ss : List Nat) (ts rs : List Int) (a : Option Addr) (len cap : Nat) (word : List Int) (w : World) (hm : Mach fs ss ts rs N) (hn : Nm w a0 a1 a2 a3 fs ss ts rs) (hz : word.length = len) (hl : len ≤ maxLen) (hW : Wd w a word) :
    Calls Try.prog 17 #[.agg #[.slice a0 N c0, .slice a1 N c1, .slice a2 N c2, .slice a3 N c3], .slice a len cap] w fun e w' =>
      ∃ g, IsRun fs ss ts N word len g ∧ e = .returned (.int .i64 (endR rs g N)) ∧ Below w.heap.size w w' := by
  unfold maxLen at hl
  have HBX := hide (bx_new w (.slice a0 N c0) (.slice a1 N c1) (.slice a2 N c2) (.slice a3 N c3))
  obtain ⟨p0, p1, p2, p3⟩ := HBX.out
  have hb0 := ((Below.refl w.heap.size w).alloc (Nat.le_refl _) (.cells #[.slice a0 N c0, .slice a1 N c1, .slice a2 N c2, .slice a3 N c3] 29))
  have HN := hide (nm_below hb0 hn)
  have HW := hide (wd_below hb0 hW)
  have HB := hide hb0
  have HZ := hide (show w.heap.size < (w.alloc (.cells #[.slice a0 N c0, .slice a1 N c1, .slice a2 N c2, .slice a3 N c3] 29)).heap.size by simp)
  have HM := hide hm
  have HMOST := hide (show N ≤ 10000 by have := hm.most; omega)
  have HWL := hide hz
  clear hn hb0 hW hm hz
  go_enter Try.func17, Try.ntmps17
  go_wp2_with fail
  generalize w.alloc (.cells #[.slice a0 N c0, .slice a1 N c1, .slice a2 N c2, .slice a3 N c3] 29) = W0 at *
  generalize hP : w.heap.size = P at *
  refine (pright_any a0 a1 a2 a3 N N N N c0 c1 c2 c3 fs ss ts rs _ HM.out.lf HM.out.ls HM.out.lt HM.out.lr HN.out.len HN.out.free HN.out.set HN.out.to HN.out.rule).mono ?_
  rintro e w1 ⟨rfl, hb1⟩
  have HB1 := hide hb1
  obtain ⟨q0, q1, q2, q3⟩ := bx_below hb1 HZ.out HBX.out
  have HNA := hide (nm_below ((Below.refl w1.heap.size w1).alloc (Nat.le_refl _) (.cells #[.int .i64 0] 3)) (nm_below hb1 HN.out))
  have HBA := hide (hb1.alloc hb1.size (.cells #[.int .i64 0] 3))
  have HZA := hide (zero_new w1)
  clear hb1 p0 p1 p2 p3
  rw [mach_right HM.out]
  go_wp2_with fail
  clear q0 q1 q2 q3
  generalize w1.alloc (.cells #[.int .i64 0] 3) = w1A at *
  refine (closed_any a0 N c0 _ _ _ _ 1 1 fs [0] w1A HMOST.out HM.out.lf HNA.out.len HNA.out.free HM.out.free rfl (by decide) HZA.out).mono ?_
  rintro e w2 ⟨g0, v, hcl, rfl, ho, hb2⟩
  have HR0 := hide (run_zero (ss := ss) (ts := ts) (word := word) hcl)
  have HB2 := hide (HBA.out.trans (hb2.mono HBA.out.size))
  have HPP := hide (show P ≤ w1A.heap.size by have := HBA.out.size; have := HZ.out; omega)
  have HO := hide (own_low ho HPP.out)
  clear hcl ho hb2
  go_wp2_with fail
  go_loopw [5, 7, 16] (fun v _ i wr => ∃ (k : Nat) (g : Nat → Bool), k ≤ len ∧ i = .int .i64 k ∧ IsRun fs ss ts N word k g ∧ wr.ownsRow P 3 1 v (lstL g N).length ((lstL g N).map (Value.int .i64)) ∧ Below W0.heap.size W0 wr) (fun _ _ i _ => len - (intOf i).toNat)
  case atStart => exact ⟨0, g0, Nat.zero_le _, rfl, HR0.out, HO.out, HB2.out⟩
  case round =>
    obtain ⟨k, g, hk, rfl, hrun, hown, hb⟩ := hrel
    have HRUN := hide hrun
    have HOWN := hide hown
    have HBW := hide hb
    clear hrun hown hb
    obtain ⟨a', cap', rfl, hW'⟩ := own_slice HOWN.out
    have HW' := hide hW'
    clear hW'
    have HNW := hide (nm_below HBW.out HN.out)
    obtain ⟨p0, p1, p2, p3⟩ := bx_below HBW.out HZ.out HBX.out
    have hle := lstL_le g N
    have HLE := hide hle
    obtain ⟨m, hm⟩ : ∃ m, (lstL g N).length = m := ⟨_, rfl⟩
    have HMM := hide hm
    rw [hm] at hle
    by_cases hlt : k < len
    · obtain ⟨c, hc⟩ : ∃ c, word[k]? = some c := ⟨_, List.getElem?_eq_getElem (by rw [HWL.out]; exact hlt)⟩
      obtain ⟨cb, co, rfl, kc⟩ := wd_below HBW.out HW.out k c hc
      have HC := hide hc
      have i1 : (0 : Int) ≤ (k : Int) := by omega
      have i2 : (k : Int) < (len : Int) := by omega
      clear hc
      by_cases m0 : m = 0
      · have HST := hide (run_stop HRUN.out (lst_nil (by rw [HMM.out]; exact m0)) (len - k))
        rw [hm]
        subst m0
        clear hm
        go_wp2_with fail
        refine (leastRule_any _ _ _ a3 a' N c3 0 cap' rs [] wr (by omega) HM.out.lr rfl HNW.out.rule (fun i c hc => by simp at hc) (fun z hz => by cases hz)).mono ?_
        rintro e w3 ⟨rfl, hb3⟩
        have HB3 := hide (HBW.out.trans (hb3.mono HBW.out.size))
        clear hb3 p0 p1 p2 p3 kc
        obtain ⟨gs, hgs, hg0⟩ := HST.out
        have HGS := hide hgs
        have HE := hide (show lstR rs [] = endR rs gs N by
          rw [← least_same HM.out.lr HM.out.rule, show lstL gs N = [] from List.eq_nil_iff_forall_not_mem.2 (fun z hz => by obtain ⟨j, _, hj, e⟩ := (lst_mem gs N z).1 hz; rw [hg0 j hj] at e; cases e)])
        clear hgs hg0
        go_wp2
        go_ret
        exact ⟨gs, by have := HGS.out; rw [show k + (len - k) = len by omega] at this; exact this, by rw [← HE.out]; rfl, hP ▸ (HB.out.trans (HB3.out.mono (by rw [← hP]; exact HB.out.size)))⟩
      · have ym : ((m : Int) == 0) = false := by simp; omega
        have HA1 := hide (stepped_any a0 a1 a2 N c0 c1 c2 (.slice a3 N c3) a' m cap' ss ts (lstL g N) c wr.drew HMOST.out HM.out.ls HM.out.lt (sts_below (below_drew1 wr) HNW.out.set) (wd_below (below_drew1 wr) HNW.out.to) HM.out.to HMM.out (by have := HMOST.out; unfold maxLen; omega) (wd_below (below_drew1 wr) HW'.out))
        rw [hm]
        clear hm
        go_wp2_with fail
        clear kc
        go_region_held3 (fun w' => w'.cell? ⟨P, 0, none⟩ = some (.slice a0 N c0) ∧ w'.cell? ⟨P, 1, none⟩ = some (.slice a1 N c1) ∧ w'.cell? ⟨P, 2, none⟩ = some (.slice a2 N c2) ∧ w'.cell? ⟨P, 3, none⟩ = some (.slice a3 N c3)) (first | assumption | go_keep) ((first
          | (go_at_call 39; refine (closed_any a0 N c0 _ _ _ a2' _ cap2' fs _ w3 HMOST.out HM.out.lf HNW.out.len (fs_below HB3.out HN.out.free) HM.out.free rfl (by have := lstL_le (stpB ss ts c (tblB (lstL g N) m) N) N; have := HMOST.out; unfold maxLen; omega) HW2'.out).mono ?_; rintro e w4 ⟨g4, v4, hcl4, rfl, ho4, hb4⟩; have HB4 := hide (HB3.out.trans (hb4.mono HB3.out.size)); have k9 := bx_below HB4.out HZ.out HBX.out)
          | (go_at_call 35; refine HA1.out.mono ?_; rintro e w3 ⟨v3, rfl, ho3, hb3⟩; obtain ⟨a2', cap2', rfl, hW2'⟩ := own_slice ho3; have HW2' := hide hW2'; have HB3 := hide (HBW.out.trans ((below_drew1 wr).mono HBW.out.size |>.trans (hb3.mono HBW.out.size))); have k8 := bx_below HB3.out HZ.out HBX.out)))
        have HNX := hide (run_next HC.out HRUN.out (by rw [HMM.out]; exact hcl4))
        have HO4 := hide (own_low ho4 (show P ≤ w3.heap.size by have := HB3.out.size; have := HZ.out; omega))
        clear hcl4 ho4 hb4 k9 k8 p0 p1 p2 p3 hb3 ho3 hW2' HA1
        go_wp2
        go_roundw
        case rel => exact ⟨k + 1, g4, by omega, by go_num, HNX.out, HO4.out, HB4.out⟩
        case measure => simp [intOf]; omega
    · have e : k = len := by omega
      subst e
      rw [hm]
      clear hm
      go_wp2_with fail
      refine (leastRule_any _ _ _ a3 a' N c3 m cap' rs (lstL g N) wr (by have := HMOST.out; omega) HM.out.lr HMM.out HNW.out.rule HW'.out (fun z hz => by obtain ⟨j, _, hj, _⟩ := (lst_mem g N z).1 hz; omega)).mono ?_
      rintro e w3 ⟨rfl, hb3⟩
      have HB3 := hide (HBW.out.trans (hb3.mono HBW.out.size))
      have HE := hide (least_same (g := g) HM.out.lr HM.out.rule)
      clear hb3 p0 p1 p2 p3
      go_wp2
      go_ret
      exact ⟨g, HRUN.out, by rw [← HE.out]; rfl, hP ▸ (HB.out.trans (HB3.out.mono (by rw [← hP]; exact HB.out.size)))⟩

end Go.Proofs.Ytldeofdjhpfdaaa.A
