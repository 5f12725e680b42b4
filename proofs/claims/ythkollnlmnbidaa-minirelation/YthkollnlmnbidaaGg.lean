/- The program's classes of states. -/
import Derived.Test.YthkollnlmnbidaaGf
import Derived.Test.YthkollnlmnbidaaGc
namespace Go.Proofs.Ythkollnlmnbidaa.A
open Go.RowKit Go.Maps
set_option linter.unusedVariables false

set_option maxRecDepth 100000 in
set_option maxHeartbeats 6400000 in
theorem classes_any (a0 a1 : Option Addr) (n c0 c1 : Nat) (nx : List (List Int)) (ru : List Int) (w : World) (hx : Mx nx ru n) (hm : Dm w a0 a1 n n nx ru) :
    Calls Try.prog 23 #[.agg #[.slice a0 n c0, .slice a1 n c1]] w fun e w' => ∃ (F : Nat → Int) (B : Nat), IsCls nx ru n F ∧ e = .returned (.slice (some ⟨B, 0, none⟩) n n) ∧ Ik w' B n F ∧ w.heap.size ≤ B ∧ Below w.heap.size w w' := by
  have hn1 := hx.pos
  have hn2 := hx.most
  have hb0 := (Below.refl w.heap.size w).alloc (Nat.le_refl _) (.cells #[.slice a0 n c0, .slice a1 n c1] 25)
  have HBX := hide (heap_alloc_last w (.cells #[.slice a0 n c0, .slice a1 n c1] 25))
  have HS := hide (show (w.alloc (.cells #[.slice a0 n c0, .slice a1 n c1] 25)).heap.size = w.heap.size + 1 by simp)
  have HB0 := hide hb0
  have HM := hide (dm_below' hb0 hm)
  have HX := hide hx
  have HXX := hide (show ∀ wr, Below (w.heap.size + 1) (w.alloc (.cells #[.slice a0 n c0, .slice a1 n c1] 25)) wr → wr.heap[w.heap.size]? = some (.cells #[.slice a0 n c0, .slice a1 n c1] 25 (0, 0)) ∧ Dm wr a0 a1 n n nx ru from fun wr hb =>
    ⟨(hb.block w.heap.size (by omega)).trans HBX.out, dm_below' (by rw [HS.out]; exact hb) HM.out⟩)
  have HB2 := hide ((Below.refl (w.heap.size + 1) (w.alloc (.cells #[.slice a0 n c0, .slice a1 n c1] 25))).alloc (by simp) (.cells (rowI n fun _ => 0) 3))
  have hik := ik_new (w.alloc (.cells #[.slice a0 n c0, .slice a1 n c1] 25)) n (fun _ => 0)
  rw [HS.out] at hik
  have HIK := hide hik
  have HS2 := hide (show ((w.alloc (.cells #[.slice a0 n c0, .slice a1 n c1] 25)).alloc (.cells (rowI n fun _ => 0) 3)).heap.size = w.heap.size + 2 by simp)
  have hmi := makeI n (by omega)
  obtain ⟨p0, p1, -⟩ := d_cells HBX.out
  clear hb0 hm hx hik
  go_enter Try.func23, Try.ntmps23
  go_upto_region 2 with fail
  obtain ⟨hX, hDm⟩ := HXX.out _ HB2.out
  obtain ⟨p0, p1, -⟩ := d_cells hX
  have HDM := hide hDm
  clear hX hDm
  generalize w.alloc (.cells #[.slice a0 n c0, .slice a1 n c1] 25) = W1 at *
  generalize W1.alloc (.cells (rowI n fun _ => 0) 3) = W3 at *
  generalize hA : w.heap.size + 1 = A at *
  go_wp2_with fail
  refine (deadS_any a0 a1 n c0 c1 nx ru W3 HX.out HDM.out).mono ?_
  rintro e w4 ⟨g, hlv, B, hB, rfl, hmk, hb4⟩
  have HLV := hide hlv
  have HMK := hide hmk
  have HB4 := hide (HB2.out.trans (hb4.mono (by rw [HS2.out]; omega)))
  have HIK4 := hide (ik_old hb4 HIK.out)
  have hAB : A ≠ B := by have := HS2.out; omega
  have hAB2 : A < B := by have := HS2.out; omega
  clear hlv hmk hb4 p0 p1 hmi HIK HB2 HDM
  go_wp2_with fail
  go_loopw [4, 5, 16] (fun _ _ u wr => ∃ k : Nat, k ≤ n ∧ u = .int .i64 k ∧ Ik wr A n (fun j => if j < k then (if g j then 0 else -1) else 0) ∧ Mk wr B n (fun j => !g j) ∧ Below A W1 wr) (fun _ _ u _ => n - (intOf u).toNat)
  case atStart => exact ⟨0, by omega, rfl, ik_congr HIK4.out (fun j _ => by simp), HMK.out, HB4.out⟩
  case round =>
    obtain ⟨k, hk, rfl, hik, hmk, hb⟩ := hrel
    have HIK2 := hide hik
    have HMK2 := hide hmk
    have HBW := hide hb
    clear hik hmk hb HIK4 HMK HB4
    by_cases hlt : k < n
    · obtain ⟨m0, m1⟩ := mk_cell HMK2.out hlt
      obtain ⟨f0, f1⟩ := ik_cell HIK2.out hlt
      have i3 : (0 : Int) ≤ (k : Int) := by omega
      have i4 : (k : Int) < (n : Int) := by omega
      cases hg : g k
      · rw [hg] at m0
        have HIN := hide (ik_congr (ik_set HIK2.out hlt (-1)) (h := fun j => if j < k + 1 then (if g j then 0 else -1) else 0) (fun j hj => by
          by_cases e : j = k
          · subst e; simp [hg]
          · by_cases e2 : j < k
            · simp [e, e2, show j < k + 1 by omega]
            · simp [e, e2, show ¬ j < k + 1 by omega]))
        have HMN := hide (mk_other HMK2.out (Ne.symm hAB) k (.int .i64 (-1)))
        have HBN := hide (HBW.out.setCell (p := ⟨A, k, none⟩) (Nat.le_refl A) (.int .i64 (-1)))
        clear hg
        go_wp2
        go_roundw
        case rel => exact ⟨k + 1, by omega, by go_num, HIN.out, HMN.out, HBN.out⟩
        case measure => simp [intOf]; omega
      · rw [hg] at m0
        have HIN := hide (ik_congr HIK2.out (h := fun j => if j < k + 1 then (if g j then 0 else -1) else 0) (fun j hj => by
          by_cases e : j = k
          · subst e; simp [hg]
          · by_cases e2 : j < k
            · simp [e2, show j < k + 1 by omega]
            · simp [e2, show ¬ j < k + 1 by omega]))
        clear hg
        go_wp2
        go_roundw
        case rel => exact ⟨k + 1, by omega, by go_num, HIN.out, HMK2.out, HBW.out⟩
        case measure => simp [intOf]; omega
    · obtain rfl : k = n := by omega
      have HIV := hide (iv_start HX.out HLV.out)
      have HIC := hide (ik_congr HIK2.out (h := fun j => if g j then 0 else -1) (fun j hj => by simp [hj]))
      clear HIK2 HMK2
      go_wp2_with fail
      generalize wr = W5 at *
      go_loopw [3, 6, 7, 8] (fun s3 s6 _ _ wr => ∃ (cl : Nat → Int) (cnt C : Nat), s3 = .slice (some ⟨C, 0, none⟩) k k ∧ s6 = .int .i64 cnt ∧ cnt ≤ k ∧ A ≤ C ∧ Ik wr C k cl ∧ Iv nx ru k cl cnt ∧ Below A W1 wr) (fun _ s6 _ _ _ => k + 1 - (intOf s6).toNat)
      case atStart => exact ⟨_, 0, A, rfl, rfl, by omega, Nat.le_refl _, HIC.out, HIV.out, HBW.out⟩
      case round =>
        obtain ⟨cl, cnt, C, rfl, rfl, hcn, hAC, hik, hiv, hb⟩ := hrel
        have HIK3 := hide hik
        have HIV3 := hide hiv
        have HB3 := hide hb
        clear hik hiv hb HIC HIV HBW
        obtain ⟨hX, hDm⟩ := HXX.out wr HB3.out
        obtain ⟨p0, p1, -⟩ := d_cells hX
        have HDM := hide hDm
        clear hX hDm
        go_wp2_with fail
        refine (split_any a0 a1 k c0 c1 C nx ru cl wr HX.out HDM.out HIK3.out HIV3.out.rng).mono ?_
        rintro e w6 ⟨S, F, B', hsp, rfl, hik6, hB6, hb6⟩
        have HIK6 := hide hik6
        have HB6 := hide (HB3.out.trans (hb6.mono (by have := ik_lt HIK3.out; omega)))
        have hle := sp_len hsp
        have hmo := sp_more HIV3.out hsp
        have hAB' : A ≤ B' := by have := ik_lt HIK3.out; omega
        have HIVN := hide (iv_next HX.out HIV3.out hsp)
        have HEND := hide (fun q => iv_end HX.out HIV3.out hsp q)
        clear hsp hik6 hb6
        obtain ⟨ns, hns⟩ : ∃ ns, S.length = ns := ⟨_, rfl⟩
        rw [hns] at hle hmo HIVN HEND ⊢
        clear hns
        by_cases heq : ns = cnt
        · have HCL := hide (HEND.out heq)
          clear HEND
          subst heq
          have d0 : ((ns : Int) == (ns : Int)) = true := by simp
          go_wp2_with fail
          go_ret
          exact ⟨F, B', HCL.out, rfl, HIK6.out, by omega, HB0.out.trans (HB6.out.mono (by omega))⟩
        · have d0 : ((ns : Int) == (cnt : Int)) = false := by simp; omega
          go_wp2_with fail
          go_roundw
          case rel => exact ⟨F, ns, B', rfl, rfl, hle, hAB', HIK6.out, HIVN.out, HB6.out⟩
          case measure => simp [intOf]; omega
end Go.Proofs.Ythkollnlmnbidaa.A
