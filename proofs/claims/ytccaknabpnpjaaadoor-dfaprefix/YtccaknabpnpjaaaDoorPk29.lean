/- The law on beginnings, walked. -/
import Derived.Test.YtccaknabpnpjaaaDoorPk27
import Derived.Test.YtccaknabpnpjaaaDoorPk28
import Derived.Deep.RegionHeld3
import Derived.Deep.Cut
import Derived.Deep.CutRange
namespace Go.Proofs.YtccaknabpnpjaaaDoor.A
open Go.RowKit
set_option linter.unusedVariables false

theorem wd_takeN {w : World} {a : Option Addr} {word : List Int} (h : Wd w a word) (k : Nat) : Wd w a (word.take k) := fun i c hc => by
  have hi : i < (word.take k).length := (List.getElem?_eq_some_iff.1 hc).1
  rw [List.length_take] at hi
  exact h i c (by rw [List.getElem?_take_of_lt (by omega)] at hc; exact hc)

set_option maxRecDepth 100000 in
set_option maxHeartbeats 6400000 in
theorem walkPrefix (a0 a1 : Option Addr) (n0 n1 c0 c1 : Nat) (nx : List (List Int)) (ru : List Int) (a : Option Addr) (len cap : Nat) (word : List Int) (k0 : Nat) (m : Int) (w : World) (hm : w.cell? ⟨0, 0, none⟩ = some (.int .i64 m)) (ht : Tab w.heap.size w) (hd : Dm w a0 a1 n0 n1 nx ru) (hW : Wd w a word) (hz : word.length = len) (hl : len ≤ cap) (hc : cap ≤ maxLen) (hk : k0 ≤ 255) :
    Calls Tryd.prog 4 #[.agg #[.slice a0 n0 c0, .slice a1 n1 c1], .slice a len cap, .int .u8 k0] w fun e w' => e = .returned (.bool true) ∧ Below w.heap.size w w' := by
  have hb0 := (Below.refl w.heap.size w).alloc (Nat.le_refl _) (.cells #[.slice a0 n0 c0, .slice a1 n1 c1] 25)
  have hx0 := heap_alloc_last w (.cells #[.slice a0 n0 c0, .slice a1 n1 c1] 25)
  have HAL := hide (alive7_any m _ ((hb0.cell (p := ⟨0, 0, none⟩) (cell_lt hm)).trans hm) (tab_up (tab_on ht hb0) hb0.size))
  have HB0 := hide hb0
  have HX0 := hide hx0
  have HD0 := hide (dm_below' hb0 hd)
  have HW0 := hide (wd_below hb0 hW)
  have HZ := hide hz
  have hl0 := hd.m0
  have hl1 := hd.m1
  unfold maxLen at hl0 hl1 hc
  clear hb0 hx0 hm ht hd hW hz
  go_enter Tryd.func4, Tryd.ntmps4
  go_wp2_with fail
  generalize w.alloc (.cells #[.slice a0 n0 c0, .slice a1 n1 c1] 25) = W0 at *
  generalize hB : w.heap.size = B at *
  refine HAL.out.mono ?_
  rintro e w1 ⟨rfl, hb1⟩
  have hx1 := (hb1.block B (Array.getElem?_eq_some_iff.1 HX0.out).1).trans HX0.out
  have HX1 := hide hx1
  have HB1 := hide (HB0.out.trans (hb1.mono (hB ▸ HB0.out.size)))
  have HD1 := hide (dm_below' hb1 HD0.out)
  have HW1 := hide (wd_below hb1 HW0.out)
  obtain ⟨p0, p1, -⟩ := d_cells hx1
  clear hb1 hx1 HAL
  by_cases g0 : 300 < n0
  · have d0 : decide ((300 : Int) < (n0 : Int)) = true := by simp; omega
    go_wp2
    go_ret
    exact ⟨rfl, hB ▸ HB1.out⟩
  have d0 : decide ((300 : Int) < (n0 : Int)) = false := by simp; omega
  by_cases g1 : 60 < len
  · have d1 : decide ((60 : Int) < (len : Int)) = true := by simp; omega
    go_wp2
    go_ret
    exact ⟨rfl, hB ▸ HB1.out⟩
  have d1 : decide ((60 : Int) < (len : Int)) = false := by simp; omega
  by_cases g2 : len < k0
  · have d2 : decide ((len : Int) < (k0 : Int)) = true := by simp; omega
    have HWT := hide (wd_takeN HW1.out len)
    have HLT := hide (show (word.take len).length = len by rw [List.length_take, HZ.out]; omega)
    have i1 : (0 : Int) ≤ (len : Int) := by omega
    have i2 : (len : Int) ≤ (cap : Int) := by omega
    have HR1 := hide (drun_any a0 a1 n0 n1 c0 c1 nx ru a len cap (word.take len) w1.drew (dm_below' (below_drew1 w1) HD1.out) HLT.out (by unfold maxLen; omega) (wd_below (below_drew1 w1) HWT.out))
    have HMATH := hide (runR_take (nx := nx) (ru := ru) (word := word) (k := len) (by rw [HZ.out]; omega) (dm_len HD1.out))
    have HMATH2 := hide (longR_take (nx := nx) (ru := ru) (word := word) (k := len) (by rw [HZ.out]; omega))
    go_upto_region 8 with fail
    go_cut [42] from 31 to 41 (fun s wx => s = .bool false ∧ Below w1.heap.size w1 wx)
    case first =>
      by_cases hneg : runR nx ru (word.take len) < 0
      · have hneg2 := HMATH.out hneg
        have b1 : decide (runR nx ru (word.take len) < 0) = true := by simp [hneg]
        have b2 : decide (0 ≤ runR nx ru word) = false := by simp; omega
        clear hneg hneg2
        go_region_held3 (fun w' => w'.cell? ⟨B, 0, none⟩ = some (.slice a0 n0 c0) ∧ w'.cell? ⟨B, 1, none⟩ = some (.slice a1 n1 c1)) (first | assumption | go_keep) ((first
          | (go_at_call 9; refine HR1.out.mono ?_; rintro e w2 ⟨rfl, hb2⟩; have HB2 := hide ((below_drew1 w1).trans hb2); have k9 := And.intro ((HB2.out.cell (p := ⟨B, 0, none⟩) (cell_lt p0)).trans p0) ((HB2.out.cell (p := ⟨B, 1, none⟩) (cell_lt p1)).trans p1))
          | (go_at_call 9; refine (drun_any a0 a1 n0 n1 c0 c1 nx ru a len cap word w2 (dm_below' HB2.out HD1.out) HZ.out (by unfold maxLen; omega) (wd_below HB2.out HW1.out)).mono ?_; rintro e w3 ⟨rfl, hb3⟩; have HB3 := hide (HB2.out.trans (hb3.mono HB2.out.size)); have k8 := And.intro ((HB3.out.cell (p := ⟨B, 0, none⟩) (cell_lt p0)).trans p0) ((HB3.out.cell (p := ⟨B, 1, none⟩) (cell_lt p1)).trans p1))))
        all_goals go_wp2_with fail
        all_goals go_meet
        all_goals exact ⟨by first | rfl | simp [b2], HB3.out⟩
      · have b1 : decide (runR nx ru (word.take len) < 0) = false := by simp; omega
        clear HMATH
        first
          | (go_region_with ((go_at_call 9; refine HR1.out.mono ?_; rintro e w2 ⟨rfl, hb2⟩; have HB2 := hide ((below_drew1 w1).trans hb2); have k9 := And.intro ((HB2.out.cell (p := ⟨B, 0, none⟩) (cell_lt p0)).trans p0) ((HB2.out.cell (p := ⟨B, 1, none⟩) (cell_lt p1)).trans p1))))
          | fail
        all_goals go_wp2_with fail
        all_goals go_meet
        all_goals exact ⟨rfl, HB2.out⟩
    case rest =>
      obtain ⟨rfl, hbc⟩ := hcut
      have HBC := hide hbc
      have p0chbc := ((HBC.out.cell (p := ⟨B, 0, none⟩) (cell_lt p0)).trans p0)
      have p1chbc := ((HBC.out.cell (p := ⟨B, 1, none⟩) (cell_lt p1)).trans p1)
      clear hbc HR1 HMATH
      have HR2 := hide (dlong_any a0 a1 n0 n1 c0 c1 nx ru a len cap (word.take len) 0 wc.drew (dm_below' (HBC.out.trans ((below_drew1 wc).mono HBC.out.size)) HD1.out) HLT.out (by omega) (by unfold maxLen; omega) (wd_below (HBC.out.trans ((below_drew1 wc).mono HBC.out.size)) HWT.out))
      go_upto_region 10 with fail
      go_cut [8] from 43 to 50 (fun s wx => s = .int .i64 (longR nx ru (word.take len) 0).1 ∧ Below w1.heap.size w1 wx)
      case first =>
        first
          | go_region_with (go_at_call 6; refine HR2.out.mono ?_; rintro e w2 ⟨rfl, hb2⟩; have HB2 := hide (HBC.out.trans (((below_drew1 wc).trans hb2).mono HBC.out.size)))
          | fail
        all_goals go_wp2_with fail
        all_goals go_meet
        all_goals exact ⟨rfl, HB2.out⟩
      case rest =>
      obtain ⟨rfl, hbe⟩ := hcut
      have HBE := hide hbe
      have p0chbe := ((HBE.out.cell (p := ⟨B, 0, none⟩) (cell_lt p0)).trans p0)
      have p1chbe := ((HBE.out.cell (p := ⟨B, 1, none⟩) (cell_lt p1)).trans p1)
      clear hbe HR2
      have q1 : decide ((longR nx ru (word.take len) 0).1 ≤ (longR nx ru word 0).1) = true := by simp; exact HMATH2.out.1
      have q2 : decide ((longR nx ru (word.take len) 0).1 ≤ (len : Int)) = true := by simp; exact HMATH2.out.2
      go_wp2_with (go_at_call 6; refine (dlong_any a0 a1 n0 n1 c0 c1 nx ru a len cap word 0 _ (dm_below' HBE.out HD1.out) HZ.out (by omega) (by unfold maxLen; omega) (wd_below HBE.out HW1.out)).mono ?_; rintro e w5 ⟨rfl, hb5⟩; have HB5 := hide (HBE.out.trans (hb5.mono HBE.out.size)))
      go_ret
      exact ⟨rfl, hB ▸ HB1.out.trans (HB5.out.mono (hB ▸ HB1.out.size))⟩
  · have d2 : decide ((len : Int) < (k0 : Int)) = false := by simp; omega
    have HWT := hide (wd_takeN HW1.out k0)
    have HLT := hide (show (word.take k0).length = k0 by rw [List.length_take, HZ.out]; omega)
    have i1 : (0 : Int) ≤ (k0 : Int) := by omega
    have i2 : (k0 : Int) ≤ (cap : Int) := by omega
    have HR1 := hide (drun_any a0 a1 n0 n1 c0 c1 nx ru a k0 cap (word.take k0) w1.drew (dm_below' (below_drew1 w1) HD1.out) HLT.out (by unfold maxLen; omega) (wd_below (below_drew1 w1) HWT.out))
    have HMATH := hide (runR_take (nx := nx) (ru := ru) (word := word) (k := k0) (by rw [HZ.out]; omega) (dm_len HD1.out))
    have HMATH2 := hide (longR_take (nx := nx) (ru := ru) (word := word) (k := k0) (by rw [HZ.out]; omega))
    go_upto_region 8 with fail
    go_cut [42] from 31 to 41 (fun s wx => s = .bool false ∧ Below w1.heap.size w1 wx)
    case first =>
      by_cases hneg : runR nx ru (word.take k0) < 0
      · have hneg2 := HMATH.out hneg
        have b1 : decide (runR nx ru (word.take k0) < 0) = true := by simp [hneg]
        have b2 : decide (0 ≤ runR nx ru word) = false := by simp; omega
        clear hneg hneg2
        go_region_held3 (fun w' => w'.cell? ⟨B, 0, none⟩ = some (.slice a0 n0 c0) ∧ w'.cell? ⟨B, 1, none⟩ = some (.slice a1 n1 c1)) (first | assumption | go_keep) ((first
          | (go_at_call_of 9 (Value.slice a k0 cap); refine HR1.out.mono ?_; rintro e w2 ⟨rfl, hb2⟩; have HB2 := hide ((below_drew1 w1).trans hb2); have k9 := And.intro ((HB2.out.cell (p := ⟨B, 0, none⟩) (cell_lt p0)).trans p0) ((HB2.out.cell (p := ⟨B, 1, none⟩) (cell_lt p1)).trans p1))
          | (go_at_call_of 9 (Value.slice a len cap); refine (drun_any a0 a1 n0 n1 c0 c1 nx ru a len cap word w2 (dm_below' HB2.out HD1.out) HZ.out (by unfold maxLen; omega) (wd_below HB2.out HW1.out)).mono ?_; rintro e w3 ⟨rfl, hb3⟩; have HB3 := hide (HB2.out.trans (hb3.mono HB2.out.size)); have k8 := And.intro ((HB3.out.cell (p := ⟨B, 0, none⟩) (cell_lt p0)).trans p0) ((HB3.out.cell (p := ⟨B, 1, none⟩) (cell_lt p1)).trans p1))))
        all_goals go_wp2_with fail
        all_goals go_meet
        all_goals exact ⟨by first | rfl | simp [b2], HB3.out⟩
      · have b1 : decide (runR nx ru (word.take k0) < 0) = false := by simp; omega
        clear HMATH
        first
          | (go_region_with ((go_at_call 9; refine HR1.out.mono ?_; rintro e w2 ⟨rfl, hb2⟩; have HB2 := hide ((below_drew1 w1).trans hb2); have k9 := And.intro ((HB2.out.cell (p := ⟨B, 0, none⟩) (cell_lt p0)).trans p0) ((HB2.out.cell (p := ⟨B, 1, none⟩) (cell_lt p1)).trans p1))))
          | fail
        all_goals go_wp2_with fail
        all_goals go_meet
        all_goals exact ⟨rfl, HB2.out⟩
    case rest =>
      obtain ⟨rfl, hbc⟩ := hcut
      have HBC := hide hbc
      have p0chbc := ((HBC.out.cell (p := ⟨B, 0, none⟩) (cell_lt p0)).trans p0)
      have p1chbc := ((HBC.out.cell (p := ⟨B, 1, none⟩) (cell_lt p1)).trans p1)
      clear hbc HR1 HMATH
      have HR2 := hide (dlong_any a0 a1 n0 n1 c0 c1 nx ru a k0 cap (word.take k0) 0 wc.drew (dm_below' (HBC.out.trans ((below_drew1 wc).mono HBC.out.size)) HD1.out) HLT.out (by omega) (by unfold maxLen; omega) (wd_below (HBC.out.trans ((below_drew1 wc).mono HBC.out.size)) HWT.out))
      go_upto_region 10 with fail
      go_cut [8] from 43 to 50 (fun s wx => s = .int .i64 (longR nx ru (word.take k0) 0).1 ∧ Below w1.heap.size w1 wx)
      case first =>
        first
          | go_region_with (go_at_call 6; refine HR2.out.mono ?_; rintro e w2 ⟨rfl, hb2⟩; have HB2 := hide (HBC.out.trans (((below_drew1 wc).trans hb2).mono HBC.out.size)))
          | fail
        all_goals go_wp2_with fail
        all_goals go_meet
        all_goals exact ⟨rfl, HB2.out⟩
      case rest =>
      obtain ⟨rfl, hbe⟩ := hcut
      have HBE := hide hbe
      have p0chbe := ((HBE.out.cell (p := ⟨B, 0, none⟩) (cell_lt p0)).trans p0)
      have p1chbe := ((HBE.out.cell (p := ⟨B, 1, none⟩) (cell_lt p1)).trans p1)
      clear hbe HR2
      have q1 : decide ((longR nx ru (word.take k0) 0).1 ≤ (longR nx ru word 0).1) = true := by simp; exact HMATH2.out.1
      have q2 : decide ((longR nx ru (word.take k0) 0).1 ≤ (k0 : Int)) = true := by simp; exact HMATH2.out.2
      go_wp2_with (go_at_call 6; refine (dlong_any a0 a1 n0 n1 c0 c1 nx ru a len cap word 0 _ (dm_below' HBE.out HD1.out) HZ.out (by omega) (by unfold maxLen; omega) (wd_below HBE.out HW1.out)).mono ?_; rintro e w5 ⟨rfl, hb5⟩; have HB5 := hide (HBE.out.trans (hb5.mono HBE.out.size)))
      go_ret
      exact ⟨rfl, hB ▸ HB1.out.trans (HB5.out.mono (hB ▸ HB1.out.size))⟩
end Go.Proofs.YtccaknabpnpjaaaDoor.A
