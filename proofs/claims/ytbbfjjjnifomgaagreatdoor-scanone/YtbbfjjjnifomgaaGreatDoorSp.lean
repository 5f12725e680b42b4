/- The law on the one way to cut, walked. -/
import Derived.Test.YtbbfjjjnifomgaaGreatDoorK50
import Derived.Test.YtbbfjjjnifomgaaGreatDoorK32
import Derived.Test.YtbbfjjjnifomgaaGreatDoorK41
namespace Go.Proofs.YtbbfjjjnifomgaaGreatDoor.A
open Go.RowKit
set_option linter.unusedVariables false

theorem rs_full {w : World} {a : Option Addr} {len : Nat} {l : List Rl} (h : Rs w a len l) : ∀ x ∈ l, full x.n x.t := fun x hx => by
  obtain ⟨i, hi⟩ := List.getElem?_of_mem hx
  have hlt := (List.getElem?_eq_some_iff.1 hi).1
  obtain ⟨y, b, off, k, s, a', l', c, -, hy, -, -, -, -, -, -, p6⟩ := rs_open h (i := i) (by rw [← h.1]; exact hlt)
  obtain rfl : x = y := Option.some.inj (hi.symm.trans hy)
  exact rx_full _ _ _ p6
theorem may_exs {l : List Rl} {N : Nat} (hr : rightG l = true) (hN : ∀ x ∈ l, x.n ≤ N ∧ full x.n x.t) : mayB (exsL N l) = true := by
  obtain ⟨h1, h2, h3⟩ := rightG_open hr
  unfold mayB exsL
  rw [List.length_map]
  simp only [Bool.and_eq_true, decide_eq_true_eq, List.all_eq_true]
  refine ⟨h1, h2, fun y hy => ?_⟩
  obtain ⟨x, hx, rfl⟩ := List.mem_map.1 hy
  rw [right_to (hN x hx).1 (hN x hx).2]
  exact h3 x hx

set_option maxRecDepth 100000 in
set_option maxHeartbeats 6400000 in
theorem walkOne (a0 : Option Addr) (len0 cap0 : Nat) (z0 : List Rl) (a1 : Option Addr) (len1 cap1 : Nat) (word : List Int) (m : Int) (w : World) (hm : w.cell? ⟨0, 0, none⟩ = some (.int .i64 m)) (ht : Tab w.heap.size w) (w0 : Rs w a0 len0 z0) (l0 : len0 ≤ cap0) (m0 : cap0 ≤ maxLen) (w1 : Wd w a1 word) (e1 : word.length = len1) (l1 : len1 ≤ cap1) (m1 : cap1 ≤ maxLen) :
    Calls Tryz.prog 5 #[.slice a0 len0 cap0, .slice a1 len1 cap1] w fun e w' => e = .returned (.bool true) ∧ Below w.heap.size w w' := by
  have HR := hide w0
  have HW := hide w1
  have HM := hide hm
  have HT := hide ht
  have HZ := hide e1
  clear w0 w1 hm ht e1
  go_enter Tryz.func5, Tryz.ntmps5
  go_wp2_with fail
  refine (alive_any9 m w HM.out HT.out).mono ?_
  rintro e u1 ⟨rfl, hb1⟩
  have HB1 := hide hb1
  clear hb1
  go_wp2_with fail
  refine (rgreatG_any a0 len0 cap0 z0 u1 l0 m0 (rs_below HB1.out HR.out)).mono ?_
  rintro e u2 ⟨rfl, hb2⟩
  have HB2 := hide (HB1.out.trans (hb2.mono HB1.out.size))
  clear hb2 HB1
  cases hg : greatG z0 with
  | true =>
    clear hg
    go_wp2
    go_ret
    exact ⟨rfl, HB2.out⟩
  | false =>
  obtain ⟨z, hz, hn⟩ := rs_trim (rs_below HB2.out HR.out) hg
  have HRZ := hide hz
  have HFL := hide (fun x (hx : x ∈ z) => show x.n ≤ 20 ∧ full x.n x.t from ⟨by rw [hn x hx]; exact Nat.le_refl _, rs_full hz x hx⟩)
  clear hz hn hg HR
  by_cases h14 : 14 < len1
  · have d1 : decide ((14 : Int) < (len1 : Int)) = true := by simp; omega
    go_wp2
    go_ret
    exact ⟨rfl, HB2.out⟩
  have d1 : decide ((14 : Int) < (len1 : Int)) = false := by simp; omega
  go_wp2_with fail
  refine (rightG_any a0 len0 cap0 z u2 l0 m0 HRZ.out).mono ?_
  rintro e u3 ⟨rfl, hb3⟩
  have HB3 := hide (HB2.out.trans (hb3.mono HB2.out.size))
  have HR3 := hide (rs_below hb3 HRZ.out)
  clear hb3 HB2 HRZ
  cases hrg : rightG z with
  | false =>
    clear hrg
    go_wp2
    go_ret
    exact ⟨rfl, HB3.out⟩
  | true =>
  have HRG := hide hrg
  have hl16 : len0 ≤ 16 := by have := (rightG_open hrg).2.1; rw [HR3.out.1] at this; exact this
  clear hrg
  go_wp2_with fail
  refine (rnodesL_any a0 len0 cap0 z u3 HR3.out (by omega) (fun x hx => by have := (HFL.out x hx).1; omega)).mono ?_
  rintro e u4 ⟨rfl, hb4⟩
  have HB4 := hide (HB3.out.trans (hb4.mono HB3.out.size))
  have HR4 := hide (rs_below hb4 HR3.out)
  clear hb4 HB3 HR3
  by_cases h120 : 120 < nodesL z
  · have d2 : decide ((120 : Int) < ((nodesL z : Nat) : Int)) = true := by simp; omega
    clear h120
    go_wp2
    go_ret
    exact ⟨rfl, HB4.out⟩
  have d2 : decide ((120 : Int) < ((nodesL z : Nat) : Int)) = false := by simp; omega
  clear h120
  go_wp2_with fail
  refine (new_yes a0 len0 cap0 z u4 l0 m0 HR4.out HRG.out).mono ?_
  rintro e u5 ⟨q, rfl, hq, hb5, hsn⟩
  have hMac : ∃ nx0 ru0 zz, Mac (exsL 20 z) nx0 ru0 zz := by
    obtain ⟨ps, x, b, rfl, hsk, hmk, hbo⟩ := hsn
    obtain ⟨a', c', -, hex⟩ := mkx_exs hmk (N := 20) (fun p hp => (HFL.out p.1 (List.mem_map_of_mem hp)).1)
    exact mac_is hex (may_exs HRG.out HFL.out)
  obtain ⟨nx0, ru0, zz, hM⟩ := hMac
  have HM2 := hide hM
  have HB5 := hide (HB4.out.trans (hb5.mono HB4.out.size))
  have HR5 := hide (rs_below hb5 HR4.out)
  have HSN := hide hsn
  have HQ := hide (show w.heap.size ≤ q by have := HB4.out.size; omega)
  have HQ4 := hide hq
  have HB45 := hide hb5
  clear hb5 hsn hM hq HB4
  go_wp2_with fail
  refine (scut_any q 20 w.heap.size z nx0 ru0 zz 0 a1 len1 cap1 word u5 (.inl ⟨rfl, HSN.out⟩) (fun x hx => (HFL.out x hx).1) (by rw [HR5.out.1]; exact hl16) HM2.out HQ.out (tab_on HT.out HB5.out) HZ.out l1 m1 (by omega) (wd_below HB5.out HW.out) (fun hne x hx => by
    obtain ⟨c, hc⟩ : ∃ c, word[0]? = some c := by cases word with | nil => exact absurd rfl hne | cons y t => exact ⟨y, rfl⟩
    obtain ⟨b, off, e, h2⟩ := HW.out 0 c hc
    rw [hx] at e
    have e' := Option.some.inj e
    have hlt : b < w.heap.size := cell_lt h2
    rw [e']
    show b ≠ q
    have hq2 : w.heap.size ≤ q := HQ.out
    exact fun hbq => by rw [hbq] at hlt; omega) (by omega) (by omega)).mono ?_
  rintro e u6 ⟨nx, ru, hsm, hgr, ⟨rfl, rfl, hsc⟩ | ⟨rfl, ps, pa, pc, hps, hcnt, rfl, hseg, hup, hsc⟩⟩
  · have HB6 := hide (HB5.out.trans (gb_low hgr HQ.out (scn_lt HSN.out)))
    clear hsm hgr hsc
    go_wp2
    go_ret
    exact ⟨rfl, HB6.out⟩
  · have hb6 := gb_low hgr HQ.out (scn_lt HSN.out)
    have hso : SmOf nx0 ru0 nx ru := by
      rcases hsm with ⟨h7, -⟩ | ⟨-, h⟩
      · exact absurd h7 (by decide)
      · exact h
    have hpw : ps = cutW (lgW z word) len1 := by
      have h := cut_words HM2.out hso HFL.out word
      rw [HZ.out] at h
      rw [hps, h]
    have hwl : wholeF 0 ps (len1 : Int) = true := by
      have h := lgW_ok z word
      rw [HZ.out] at h
      rw [hpw]; exact whole_cut h
    have HB6 := hide (HB5.out.trans hb6)
    have HR6 := hide (rs_below (HB45.out.trans (gb_low hgr HQ4.out (scn_lt HSN.out))) HR4.out)
    have HPS := hide hpw
    have HWH := hide hwl
    have HSEG := hide hseg
    clear hsm hgr hsc hb6 hso hpw hwl hps hup hseg
    go_wp2_with fail
    refine (rwords_any a0 len0 cap0 z a1 len1 cap1 word u6 HR6.out (by omega) (fun x hx => ((right_iff (HFL.out x hx).2).1 ((rightG_open HRG.out).2.2 x hx)).2.2) HZ.out l1 m1 (by omega) (wd_below HB6.out HW.out)).mono ?_
    rintro e u7 ⟨v7, rfl, hown7, hb7⟩
    rw [← HPS.out] at hown7
    obtain ⟨qa, qc, rfl, hseg7⟩ := own_segP hown7 rfl
    have HS7 := hide hseg7
    have HX7 := hide hb7
    clear hown7 hseg7 hb7
    go_wp2_with fail
    refine (rsame_any9 pa qa _ _ pc qc ps ps u7 rfl rfl (by unfold maxLen; omega) (by unfold maxLen; omega) (segP_below HX7.out HSEG.out) HS7.out).mono ?_
    rintro e u8 ⟨rfl, hb8⟩
    rw [(sameP_iff ps ps).2 rfl]
    have HX8 := hide (HX7.out.trans (hb8.mono HX7.out.size))
    clear hb8
    go_wp2_with fail
    refine (whole_any pa _ pc ps (len1 : Int) u8 rfl (by unfold maxLen; omega) (segP_below HX8.out HSEG.out)).mono ?_
    rintro e u9 ⟨rfl, hb9⟩
    rw [HWH.out]
    have HXF := hide (HB6.out.trans ((HX8.out.trans (hb9.mono HX8.out.size)).mono HB6.out.size))
    clear hb9
    go_wp2
    go_ret
    exact ⟨rfl, HXF.out⟩
end Go.Proofs.YtbbfjjjnifomgaaGreatDoor.A
