/- The document's Right, Run, Longest. -/
import Derived.Test.YtccaknabpnpjaaaDoorPk28
import Derived.Deep.Cut
import Derived.Deep.CutRange
import Derived.Test.YtccaknabpnpjaaaDoorPk27
namespace Go.Proofs.YtccaknabpnpjaaaDoor.A
open Go.RowKit

set_option maxRecDepth 100000 in
set_option maxHeartbeats 3200000 in
theorem rright_any7 (a0 a1 : Option Addr) (n0 n1 c0 c1 : Nat) (nx : List (List Int)) (ru : List Int) (w : World) (hm : Dm w a0 a1 n0 n1 nx ru) :
    Calls Tryd.prog 7 #[.agg #[.slice a0 n0 c0, .slice a1 n1 c1]] w fun e w' => e = .returned (.bool (rightD nx ru)) ∧ Below w.heap.size w w' := by
  have HX := hide (dtwo_new w (.slice a0 n0 c0) (.slice a1 n1 c1))
  have hb0 := (Below.refl w.heap.size w).alloc (Nat.le_refl _) (.cells #[.slice a0 n0 c0, .slice a1 n1 c1] 25)
  have HB0 := hide hb0
  have HM := hide (dm_below' hb0 hm)
  have HZ := hide (show w.heap.size < (w.alloc (.cells #[.slice a0 n0 c0, .slice a1 n1 c1] 25)).heap.size by simp)
  have hl0 := hm.m0
  have hl1 := hm.m1
  obtain ⟨p0, p1⟩ := HX.out
  unfold maxLen at hl0 hl1
  clear hb0 hm
  by_cases g0 : n1 < 1
  · have HE := hide (show rightD nx ru = false by
      by_cases h : rightD nx ru = true
      · have := right_open h; have h0 := HM.out.l1; have h1 := HM.out.l0; omega
      · simpa using h)
    have d0 : decide ((n1 : Int) < 1) = true := by simp; omega
    go_enter Tryd.func7, Tryd.ntmps7
    go_wp2
    go_ret
    exact ⟨by rw [HE.out]; rfl, HB0.out⟩
  have d0 : decide ((n1 : Int) < 1) = false := by simp; omega
  by_cases g1 : 200 < n1
  · have HE := hide (show rightD nx ru = false by
      by_cases h : rightD nx ru = true
      · have := right_open h; have h0 := HM.out.l1; have h1 := HM.out.l0; omega
      · simpa using h)
    have d1 : decide ((200 : Int) < (n1 : Int)) = true := by simp; omega
    go_enter Tryd.func7, Tryd.ntmps7
    go_wp2
    go_ret
    exact ⟨by rw [HE.out]; rfl, HB0.out⟩
  have d1 : decide ((200 : Int) < (n1 : Int)) = false := by simp; omega
  by_cases g2 : n0 ≠ n1
  · have HE := hide (show rightD nx ru = false by
      by_cases h : rightD nx ru = true
      · have := right_open h; have h0 := HM.out.l1; have h1 := HM.out.l0; omega
      · simpa using h)
    have d2 : ((n0 : Int) != (n1 : Int)) = true := by simp; omega
    have d3 : ((n0 : Int) == (n1 : Int)) = false := by simp; omega
    go_enter Tryd.func7, Tryd.ntmps7
    go_wp2
    go_ret
    exact ⟨by rw [HE.out]; rfl, HB0.out⟩
  obtain rfl : n0 = n1 := by omega
  go_enter Tryd.func7, Tryd.ntmps7
  go_wp2_with fail
  generalize w.alloc (.cells #[.slice a0 n0 c0, .slice a1 n0 c1] 25) = W0 at *
  generalize hB : w.heap.size = B at *
  go_loopw [4, 5] (fun i _ wr => ∃ k : Nat, k ≤ n0 ∧ i = .int .i64 k ∧ (∀ j, j < k → (okRule (ru.getD j 0) && okRow n0 (nx.getD j [])) = true) ∧ wr = W0) (fun i _ _ => n0 - (intOf i).toNat)
  case atStart => exact ⟨0, Nat.zero_le _, rfl, fun j hj => by omega, rfl⟩
  case round =>
    obtain ⟨k, hk, rfl, hok, rfl⟩ := hrel
    have HOK := hide hok
    clear hok
    by_cases hlt : k < n0
    · obtain ⟨row, hr⟩ : ∃ row, nx[k]? = some row := ⟨_, List.getElem?_eq_getElem (by rw [HM.out.l0]; exact hlt)⟩
      obtain ⟨r, hu⟩ : ∃ r, ru[k]? = some r := ⟨_, List.getElem?_eq_getElem (by rw [HM.out.l1]; exact hlt)⟩
      have hrl := (HM.out.dr k row hr).1
      obtain ⟨b2, o2, rfl, k2⟩ := HM.out.wd k r hu
      have i3 : (0 : Int) ≤ (k : Int) := by omega
      have i4 : (k : Int) < (n0 : Int) := by omega
      have HHR := hide hr
      have HHU := hide hu
      have HRL := hide hrl
      clear hr hu hrl
      by_cases r0 : r < -1
      · have d2 : decide (r < -1) = true := by simp [r0]
        have HE := hide (right_stop HHR.out HHU.out (by unfold okRule; rw [show decide (-1 ≤ r) = false by simp; omega]; rfl))
        go_wp2
        go_ret
        exact ⟨by rw [HE.out]; rfl, hB ▸ HB0.out⟩
      have d2 : decide (r < -1) = false := by simp; omega
      by_cases r1 : 15 < r
      · have d3 : decide (15 < r) = true := by simp [r1]
        have HE := hide (right_stop HHR.out HHU.out (by unfold okRule; rw [show decide (r ≤ 15) = false by simp; omega]; simp))
        go_wp2
        go_ret
        exact ⟨by rw [HE.out]; rfl, hB ▸ HB0.out⟩
      have d3 : decide (15 < r) = false := by simp; omega
      have HOKR := hide (show okRule r = true by unfold okRule; rw [Bool.and_eq_true, decide_eq_true_eq, decide_eq_true_eq]; omega)
      go_wp2_with fail
      clear k2
      go_loopw [5] (fun i wi => ∃ j : Nat, j ≤ 16 ∧ i = .int .i64 j ∧ (∀ m, m < j → -1 ≤ row.getD m 0 ∧ row.getD m 0 < (n0 : Int)) ∧ wi = wr) (fun i _ => 16 - (intOf i).toNat)
      case atStart => exact ⟨0, by omega, rfl, fun m hm => by omega, rfl⟩
      case round =>
        obtain ⟨j, hj, rfl, hin, rfl⟩ := hrel
        have HIN := hide hin
        clear hin
        by_cases hjt : j < 16
        · obtain ⟨z, hz⟩ : ∃ z, row[j]? = some z := ⟨_, List.getElem?_eq_getElem (by rw [HRL.out]; exact hjt)⟩
          obtain ⟨b, off, rfl, k0⟩ := dr_cell HM.out.dr HHR.out hz
          have i5 : (0 : Int) ≤ (j : Int) := by omega
          have i6 : (j : Int) < 16 := by omega
          by_cases z0 : z < -1
          · have d5 : decide (z < -1) = true := by simp [z0]
            have HE := hide (right_stop HHR.out HHU.out (by rw [row_bad (n := nx.length) hz (.inl z0)]; simp))
            clear hz
            go_wp2
            go_ret
            exact ⟨by rw [HE.out]; rfl, hB ▸ HB0.out⟩
          have d5 : decide (z < -1) = false := by simp; omega
          by_cases z1 : (n0 : Int) ≤ z
          · have d6 : decide ((n0 : Int) ≤ z) = true := by simp [z1]
            have HE := hide (right_stop HHR.out HHU.out (by rw [row_bad (n := nx.length) hz (.inr (by rw [HM.out.l0]; exact z1))]; simp))
            clear hz
            go_wp2
            go_ret
            exact ⟨by rw [HE.out]; rfl, hB ▸ HB0.out⟩
          have d6 : decide ((n0 : Int) ≤ z) = false := by simp; omega
          have HZZ := hide hz
          clear hz
          go_wp2
          go_roundw
          case rel => exact ⟨j + 1, by omega, by go_num, fun m hm => by
            by_cases e : m = j
            · subst e; rw [List.getD_eq_getElem?_getD, HZZ.out]; exact ⟨by simp; omega, by simp; omega⟩
            · exact HIN.out m (by omega), trivial⟩
          case measure => simp [intOf]; omega
        · have e : j = 16 := by omega
          subst e
          go_wp2
          refine ⟨⟨k + 1, by omega, by go_num, fun m hm => ?_, trivial⟩, ?_⟩
          · by_cases e : m = k
            · subst e
              rw [List.getD_eq_getElem?_getD, List.getD_eq_getElem?_getD, HHU.out, HHR.out, Option.getD_some, Option.getD_some, HOKR.out, Bool.true_and]
              unfold okRow
              rw [List.all_eq_true]
              intro z hz
              obtain ⟨i, hi, e⟩ := List.getElem_of_mem hz
              have := HIN.out i (by rw [HRL.out] at hi; exact hi)
              rw [List.getD_eq_getElem?_getD, List.getElem?_eq_getElem hi, e, Option.getD_some] at this
              simp; omega
            · exact HOK.out m (by omega)
          · simp [intOf]; omega
    · have e : k = n0 := by omega
      subst e
      have HE := hide (show rightD nx ru = true from by
        unfold rightD
        simp only [Bool.and_eq_true, decide_eq_true_eq, List.all_eq_true, List.mem_range]
        exact ⟨by rw [HM.out.l0]; omega, by rw [HM.out.l0]; omega, by rw [HM.out.l0, HM.out.l1], fun i hi => by have := HOK.out i (by rw [HM.out.l0] at hi; exact hi); rw [Bool.and_eq_true] at this; rw [HM.out.l0]; exact this⟩)
      go_wp2
      go_ret
      exact ⟨by rw [HE.out]; rfl, hB ▸ HB0.out⟩

set_option maxRecDepth 100000 in
set_option maxHeartbeats 3200000 in
theorem rrun_any7 (a0 a1 : Option Addr) (n0 n1 c0 c1 : Nat) (nx : List (List Int)) (ru : List Int) (a : Option Addr) (len cap : Nat) (word : List Int) (w : World) (hm : Dm w a0 a1 n0 n1 nx ru) (hr : rightD nx ru = true) (hz : word.length = len) (hl : len ≤ maxLen) (hW : Wd w a word) :
    Calls Tryd.prog 11 #[.agg #[.slice a0 n0 c0, .slice a1 n1 c1], .slice a len cap] w fun e w' => e = .returned (.int .i64 (runF nx word len)) ∧ Below w.heap.size w w' := by
  have HX := hide (dtwo_new w (.slice a0 n0 c0) (.slice a1 n1 c1))
  have hb0 := (Below.refl w.heap.size w).alloc (Nat.le_refl _) (.cells #[.slice a0 n0 c0, .slice a1 n1 c1] 25)
  have HB0 := hide hb0
  have HM := hide (dm_below' hb0 hm)
  have HW := hide (wd_below hb0 hW)
  have HZ := hide hz
  have HR := hide hr
  obtain ⟨p0, p1⟩ := HX.out
  unfold maxLen at hl
  clear hb0 hm hW hz hr
  go_enter Tryd.func11, Tryd.ntmps11
  go_wp2_with fail
  generalize w.alloc (.cells #[.slice a0 n0 c0, .slice a1 n1 c1] 25) = W0 at *
  generalize hB : w.heap.size = B at *
  go_loopw [5, 6] (fun u i wr => ∃ k : Nat, k ≤ len ∧ i = .int .i64 k ∧ u = .int .i64 (runF nx word k) ∧ Below W0.heap.size W0 wr) (fun _ i _ => len - (intOf i).toNat)
  case atStart => exact ⟨0, Nat.zero_le _, rfl, rfl, Below.refl _ _⟩
  case round =>
    obtain ⟨k, hk, rfl, rfl, hb⟩ := hrel
    have HBW := hide hb
    have hrg := run_rng HR.out (dm_len HM.out) word k
    have hl0 := HM.out.l0
    have hbs : B ≤ W0.heap.size := by have := HB0.out.size; omega
    have p0' := (hb.cell (p := ⟨B, 0, none⟩) (cell_lt p0)).trans p0
    clear hb
    by_cases hlt : k < len
    · have d0 : decide ((k : Int) < (len : Int)) = true := by simp; omega
      by_cases hd : runF nx word k < 0
      · have HD := hide (show runF nx word len = runF nx word k by rw [run_dead' (show runF nx word k = -1 by omega) hk]; omega)
        have d1 : decide (0 ≤ runF nx word k) = false := by simp; omega
        clear hrg hd p0
        go_wp2
        go_ret
        exact ⟨by rw [HD.out]; rfl, hB ▸ HB0.out.trans (HBW.out.mono hbs)⟩
      · obtain ⟨st, hst⟩ : ∃ st : Nat, runF nx word k = st := ⟨(runF nx word k).toNat, by omega⟩
        obtain ⟨c, hc⟩ : ∃ c, word[k]? = some c := ⟨_, List.getElem?_eq_getElem (by rw [HZ.out]; exact hlt)⟩
        obtain ⟨b, off, rfl, k0⟩ := wd_below HBW.out HW.out k c hc
        have HNX := hide (show runF nx word (k + 1) = stepF nx st c by show stepF nx (runF nx word k) (word.getD k 0) = _; rw [hst, List.getD_eq_getElem?_getD, hc]; rfl)
        have i3 : (0 : Int) ≤ (k : Int) := by omega
        have i4 : (k : Int) < (len : Int) := by omega
        have hs0 : st < n0 := by omega
        rw [hst]
        clear hc hrg hd hst p0
        by_cases cc : ¬ (0 ≤ c ∧ c < 16)
        · have HE2 := hide (show runF nx word len = -1 from run_dead' (k := k + 1) (by rw [HNX.out]; exact step_out cc) (by omega))
          by_cases c0' : c < 0
          · have y0 : decide (c < 0) = true := by simp [c0']
            go_wp2
            go_ret
            exact ⟨by rw [HE2.out]; rfl, hB ▸ HB0.out.trans (HBW.out.mono hbs)⟩
          · have y0 : decide (c < 0) = false := by simp; omega
            have y1 : decide (15 < c) = true := by simp; omega
            go_wp2
            go_ret
            exact ⟨by rw [HE2.out]; rfl, hB ▸ HB0.out.trans (HBW.out.mono hbs)⟩
        · obtain ⟨j, rfl⟩ : ∃ j : Nat, c = j := ⟨c.toNat, by omega⟩
          have hj : j < 16 := by omega
          have y0 : decide ((j : Int) < 0) = false := decide_eq_false (by omega)
          have y1 : decide ((15 : Int) < (j : Int)) = false := decide_eq_false (by omega)
          have HMW := hide (dm_below' HBW.out HM.out)
          obtain ⟨row, hrw⟩ : ∃ row, nx[st]? = some row := ⟨_, List.getElem?_eq_getElem (by omega)⟩
          have hl16 := (HMW.out.dr st row hrw).1
          obtain ⟨z, hz⟩ : ∃ z, row[j]? = some z := ⟨_, List.getElem?_eq_getElem (by omega)⟩
          obtain ⟨b3, o3, rfl, k3⟩ := dr_cell HMW.out.dr hrw hz
          have HNZ := hide (HNX.out.trans (dstep_in hrw hz hj))
          have i5 : (0 : Int) ≤ (st : Int) := by omega
          have i6 : (st : Int) < (n0 : Int) := by omega
          have i7 : (0 : Int) ≤ (j : Int) := by omega
          have i8 : (j : Int) < 16 := by omega
          clear cc hrw hz hl16 HMW
          go_wp2
          go_quiet (fail)
          go_wp2
          go_roundw
          case rel => exact ⟨k + 1, by omega, by go_num, by rw [HNZ.out], below_drewN HBW.out _⟩
          case measure => simp [intOf]; omega
    · have e : k = len := by omega
      subst e
      clear hrg p0 p0'
      go_wp2
      go_ret
      exact ⟨rfl, hB ▸ HB0.out.trans (HBW.out.mono hbs)⟩
end Go.Proofs.YtccaknabpnpjaaaDoor.A

/- The document's Longest. -/
namespace Go.Proofs.YtccaknabpnpjaaaDoor.A
open Go.RowKit
set_option linter.unusedVariables false

theorem wd_takeM {w : World} {a : Option Addr} {word : List Int} (h : Wd w a word) (k : Nat) : Wd w a (word.take k) := fun i c hc => by
  have hi : i < (word.take k).length := (List.getElem?_eq_some_iff.1 hc).1
  rw [List.length_take] at hi
  exact h i c (by rw [List.getElem?_take_of_lt (by omega)] at hc; exact hc)

theorem lg_neg {nx : List (List Int)} {ru word : List Int} {f : Int} {k : Nat} (h : runF nx word (k + 1) < 0) : lgF nx ru word f (k + 1) = lgF nx ru word f k := by
  show (if 0 ≤ runF nx word (k + 1) ∧ ru.getD (runF nx word (k + 1)).toNat 0 ≠ -1 then (f + (k : Int) + 1, ru.getD (runF nx word (k + 1)).toNat 0) else lgF nx ru word f k) = _
  rw [if_neg (fun q => by omega)]

set_option maxRecDepth 100000 in
set_option maxHeartbeats 3200000 in
theorem rlong_any7 (a0 a1 : Option Addr) (n0 n1 c0 c1 : Nat) (nx : List (List Int)) (ru : List Int) (a : Option Addr) (len cap : Nat) (word : List Int) (f : Int) (w : World) (hm : Dm w a0 a1 n0 n1 nx ru) (hr : rightD nx ru = true) (hz : word.length = len) (hl : len ≤ cap) (hc : cap ≤ maxLen) (hW : Wd w a word) :
    Calls Tryd.prog 12 #[.agg #[.slice a0 n0 c0, .slice a1 n1 c1], .slice a len cap, .int .i64 f] w fun e w' => e = .returned (.tuple #[.int .i64 (longR nx ru word f).1, .int .i64 (longR nx ru word f).2]) ∧ Below w.heap.size w w' := by
  have HX := hide (dtwo_new w (.slice a0 n0 c0) (.slice a1 n1 c1))
  have hb0 := (Below.refl w.heap.size w).alloc (Nat.le_refl _) (.cells #[.slice a0 n0 c0, .slice a1 n1 c1] 25)
  have HB0 := hide hb0
  have HM := hide (dm_below' hb0 hm)
  have HW := hide (wd_below hb0 hW)
  have HZ := hide hz
  have HR := hide hr
  have HRU := hide (right_open hr).2.2.1
  have HZZ := hide (show w.heap.size < (w.alloc (.cells #[.slice a0 n0 c0, .slice a1 n1 c1] 25)).heap.size by simp)
  have hc' := hc
  unfold maxLen at hc'
  obtain ⟨p0, p1⟩ := HX.out
  clear hb0 hm hW hz hr
  by_cases f0 : f < 0
  · have HE := hide (long_no (nx := nx) (ru := ru) (word := word) (f := f) (fun q => by omega))
    have d0 : decide (f < 0) = true := by simp [f0]
    go_enter Tryd.func12, Tryd.ntmps12
    go_wp2
    go_ret2
    exact ⟨by rw [HE.out]; rfl, HB0.out⟩
  have d0 : decide (f < 0) = false := by simp; omega
  by_cases f1 : (len : Int) < f
  · have HE := hide (long_no (nx := nx) (ru := ru) (word := word) (f := f) (fun q => by have := HZ.out; omega))
    have d1 : decide (f < (len : Int)) = false := by simp; omega
    go_enter Tryd.func12, Tryd.ntmps12
    go_wp2_with fail
    go_loopw [8, 9] (fun e _ wr => e = .int .i64 len ∧ wr = w.alloc (.cells #[.slice a0 n0 c0, .slice a1 n1 c1] 25)) (fun _ _ _ => 0)
    case atStart => exact ⟨rfl, rfl⟩
    case round =>
      obtain ⟨rfl, rfl⟩ := hrel
      go_wp2
      go_ret2
      exact ⟨by rw [HE.out]; rfl, HB0.out⟩
  obtain ⟨s, rfl⟩ : ∃ s : Nat, f = s := ⟨f.toNat, by omega⟩
  have hsl : s ≤ len := by omega
  have HE := hide (show longR nx ru word s = lgF nx ru (word.drop s) s (len - s) by unfold longR; rw [if_pos ⟨HR.out, by omega, by rw [HZ.out]; omega⟩, HZ.out, show ((s : Nat) : Int).toNat = s by omega])
  have HWD := hide (wd_drop HW.out s)
  have HLD := hide (show (word.drop s).length = len - s by rw [List.length_drop, HZ.out])
  obtain ⟨wd, hwd⟩ : ∃ wd, word.drop s = wd := ⟨_, rfl⟩
  rw [hwd] at HE HLD HWD
  go_enter Tryd.func12, Tryd.ntmps12
  go_wp2_with fail
  generalize w.alloc (.cells #[.slice a0 n0 c0, .slice a1 n1 c1] 25) = W0 at *
  generalize hB : w.heap.size = B at *
  go_loopw [8, 9] (fun e _ wr => ∃ k : Nat, k ≤ len - s ∧ e = .int .i64 ((s + k : Nat) : Int) ∧ lgF nx ru wd s (len - s) = lgF nx ru wd s k ∧ Below W0.heap.size W0 wr) (fun e _ _ => (intOf e).toNat)
  case atStart => exact ⟨len - s, Nat.le_refl _, by rw [show s + (len - s) = len by omega], rfl, Below.refl _ _⟩
  case round =>
    obtain ⟨k, hk, rfl, hlg, hb⟩ := hrel
    have HLG := hide hlg
    have HBW := hide hb
    have p0' := (hb.cell (p := ⟨B, 0, none⟩) HZZ.out).trans p0
    have p1' := (hb.cell (p := ⟨B, 1, none⟩) HZZ.out).trans p1
    clear hlg hb
    cases k with
    | zero =>
      have d1 : decide ((s : Int) < ((s + 0 : Nat) : Int)) = false := by simp
      go_wp2
      go_ret2
      exact ⟨by rw [HE.out, HLG.out]; rfl, hB ▸ HB0.out.trans (HBW.out.mono (Nat.le_of_lt HZZ.out))⟩
    | succ j =>
      have d1 : decide ((s : Int) < ((s + (j + 1) : Nat) : Int)) = true := by simp; omega
      have i1 : (0 : Int) ≤ (s : Int) := by omega
      have i2 : (s : Int) ≤ ((s + (j + 1) : Nat) : Int) := by omega
      have i3 : ((s + (j + 1) : Nat) : Int) ≤ (cap : Int) := by omega
      have hne : ¬ (cap - s = 0) := by omega
      have HRN := hide (rrun_any7 a0 a1 n0 n1 c0 c1 nx ru (Option.map (fun x => x.add s) a) (j + 1) (cap - s) (wd.take (j + 1)) wr.drew (dm_below' (HBW.out.trans ((below_drew1 wr).mono HBW.out.size)) HM.out) HR.out (by rw [List.length_take, HLD.out]; omega) (by unfold maxLen; omega) (wd_takeM (wd_below (HBW.out.trans ((below_drew1 wr).mono HBW.out.size)) HWD.out) (j + 1)))
      have HTK := hide (run_take (nx := nx) (word := wd) (m := j + 1) (j + 1) (Nat.le_refl _) (by rw [HLD.out]; omega))
      go_upto_region 6 with fail
      go_cut [9] from 14 to 40 (fun s wx => s = .int .i64 (runF nx wd (j + 1)) ∧ Below W0.heap.size W0 wx)
      case first =>
        first
          | go_region_with (go_at_call 11; refine HRN.out.mono ?_; rintro e w2 ⟨rfl, hb2⟩; have HB2 := hide (HBW.out.trans (((below_drew1 wr).trans hb2).mono HBW.out.size)))
          | fail
        all_goals go_wp2_with fail
        all_goals go_meet
        all_goals exact ⟨by rw [HTK.out], HB2.out⟩
      case rest =>
      obtain ⟨rfl, hbc⟩ := hcut
      have HBC := hide hbc
      have p0c := (hbc.cell (p := ⟨B, 0, none⟩) HZZ.out).trans p0
      have p1c := (hbc.cell (p := ⟨B, 1, none⟩) HZZ.out).trans p1
      clear hbc HRN HTK p0' p1' p0 p1
      have hrg := run_rng HR.out (dm_len HM.out) wd (j + 1)
      by_cases hneg : runF nx wd (j + 1) < 0
      · have d3 : decide (0 ≤ runF nx wd (j + 1)) = false := by simp; omega
        have HL2 := hide (HLG.out.trans (lg_neg hneg))
        clear hneg hrg
        go_wp2
        go_roundw
        case rel => exact ⟨j, by omega, by go_num, HL2.out, HBC.out⟩
        case measure => simp [intOf]; omega
      · obtain ⟨st, hst⟩ : ∃ st : Nat, runF nx wd (j + 1) = st := ⟨(runF nx wd (j + 1)).toNat, by omega⟩
        have hru := HRU.out
        have hl1 := HM.out.l1
        obtain ⟨r, hr⟩ : ∃ r, ru[st]? = some r := ⟨_, List.getElem?_eq_getElem (by omega)⟩
        have hrr := (right_open HR.out).2.2.2.1 st r hr
        have HLS := hide (lg_some (f := (s : Int)) hst hr)
        have hst1 : st < n1 := by omega
        obtain ⟨b3, o3, rfl, k3⟩ := wd_below HBC.out HM.out.wd st r hr
        have i5 : (0 : Int) ≤ (st : Int) := by omega
        have i6 : (st : Int) < (n1 : Int) := by omega
        rw [hst]
        clear hst hr hrg hneg hru hl1
        by_cases r0 : 0 ≤ r
        · have d6 : decide (0 ≤ r) = true := by simp [r0]
          have HLS2 := hide (show lgF nx ru wd s (j + 1) = (((s + (j + 1) : Nat) : Int), r) by rw [HLS.out, if_pos (by omega), show ((s + (j + 1) : Nat) : Int) = (s : Int) + (j : Int) + 1 by omega])
          clear hrr r0
          go_wp2
          go_quiet (fail)
          go_wp2
          go_ret2
          exact ⟨by rw [HE.out, HLG.out, HLS2.out]; rfl, hB ▸ HB0.out.trans ((below_drewN HBC.out _).mono (Nat.le_of_lt HZZ.out))⟩
        · have d6 : decide (0 ≤ r) = false := by simp; omega
          have HLS2 := hide (show lgF nx ru wd s (j + 1) = lgF nx ru wd s j by rw [HLS.out, if_neg (by omega)])
          clear hrr r0
          go_wp2
          go_roundw
          case rel => exact ⟨j, by omega, by go_num, HLG.out.trans HLS2.out, HBC.out⟩
          case measure => simp [intOf]; omega
end Go.Proofs.YtccaknabpnpjaaaDoor.A

/- The law on runs, walked. -/
namespace Go.Proofs.YtccaknabpnpjaaaDoor.A
open Go.RowKit
set_option linter.unusedVariables false

set_option maxRecDepth 100000 in
set_option maxHeartbeats 6400000 in
theorem walkRuns (a0 a1 : Option Addr) (n0 n1 c0 c1 : Nat) (nx : List (List Int)) (ru : List Int) (a : Option Addr) (len cap : Nat) (word : List Int) (f : Int) (m : Int) (w : World) (hm : w.cell? ⟨0, 0, none⟩ = some (.int .i64 m)) (ht : Tab w.heap.size w) (hd : Dm w a0 a1 n0 n1 nx ru) (hW : Wd w a word) (hz : word.length = len) (hl : len ≤ cap) (hc : cap ≤ maxLen) :
    Calls Tryd.prog 3 #[.agg #[.slice a0 n0 c0, .slice a1 n1 c1], .slice a len cap, .int .i64 f] w fun e w' => e = .returned (.bool true) ∧ Below w.heap.size w w' := by
  have hb0 := (Below.refl w.heap.size w).alloc (Nat.le_refl _) (.cells #[.slice a0 n0 c0, .slice a1 n1 c1] 25)
  have hx0 := heap_alloc_last w (.cells #[.slice a0 n0 c0, .slice a1 n1 c1] 25)
  have HAL := hide (alive7_any m _ ((hb0.cell (p := ⟨0, 0, none⟩) (cell_lt hm)).trans hm) (tab_up (tab_on ht hb0) hb0.size))
  have HB0 := hide hb0
  have HX0 := hide hx0
  have HD0 := hide (dm_below' hb0 hd)
  have HW0 := hide (wd_below hb0 hW)
  have HZ := hide hz
  have hl0 := hd.m0
  have hl1 := hd.m1
  unfold maxLen at hl0 hl1 hc
  clear hb0 hx0 hm ht hd hW hz
  go_enter Tryd.func3, Tryd.ntmps3
  go_wp2_with fail
  generalize w.alloc (.cells #[.slice a0 n0 c0, .slice a1 n1 c1] 25) = W0 at *
  generalize hB : w.heap.size = B at *
  refine HAL.out.mono ?_
  rintro e w1 ⟨rfl, hb1⟩
  have hx1 := (hb1.block B (Array.getElem?_eq_some_iff.1 HX0.out).1).trans HX0.out
  have HX1 := hide hx1
  have HB1 := hide (HB0.out.trans (hb1.mono (hB ▸ HB0.out.size)))
  have HD1 := hide (dm_below' hb1 HD0.out)
  have HW1 := hide (wd_below hb1 HW0.out)
  obtain ⟨p0, p1, -⟩ := d_cells hx1
  clear hb1 hx1 HAL
  by_cases g0 : 300 < n0
  · have d0 : decide ((300 : Int) < (n0 : Int)) = true := by simp; omega
    go_wp2
    go_ret
    exact ⟨rfl, hB ▸ HB1.out⟩
  have d0 : decide ((300 : Int) < (n0 : Int)) = false := by simp; omega
  by_cases g1 : 300 < n1
  · have d1 : decide ((300 : Int) < (n1 : Int)) = true := by simp; omega
    go_wp2
    go_ret
    exact ⟨rfl, hB ▸ HB1.out⟩
  have d1 : decide ((300 : Int) < (n1 : Int)) = false := by simp; omega
  by_cases g2 : 60 < len
  · have d2 : decide ((60 : Int) < (len : Int)) = true := by simp; omega
    go_wp2
    go_ret
    exact ⟨rfl, hB ▸ HB1.out⟩
  have d2 : decide ((60 : Int) < (len : Int)) = false := by simp; omega
  have HB0w := HB1
  have HB1 := hide (Below.refl w1.heap.size w1)
  go_wp2_with fail
  refine (dlong_any a0 a1 n0 n1 c0 c1 nx ru a len cap word f w1 (dm_below' HB1.out HD1.out) HZ.out hl (by unfold maxLen; omega) (wd_below HB1.out HW1.out)).mono ?_
  rintro e w2 ⟨rfl, hb2⟩
  have HB2 := hide (HB1.out.trans (hb2.mono HB1.out.size))
  have p02 := (HB2.out.cell (p := ⟨B, 0, none⟩) (cell_lt p0)).trans p0
  have p12 := (HB2.out.cell (p := ⟨B, 1, none⟩) (cell_lt p1)).trans p1
  clear hb2
  go_wp2_with fail
  refine (rright_any7 a0 a1 n0 n1 c0 c1 nx ru w2 (dm_below' HB2.out HD1.out)).mono ?_
  rintro e w3 ⟨rfl, hb3⟩
  have HB3 := hide (HB2.out.trans (hb3.mono HB2.out.size))
  have p03 := (HB3.out.cell (p := ⟨B, 0, none⟩) (cell_lt p0)).trans p0
  have p13 := (HB3.out.cell (p := ⟨B, 1, none⟩) (cell_lt p1)).trans p1
  clear hb3
  cases hr : rightD nx ru with
  | false =>
    have HNR := hide (show runR nx ru word = -1 by unfold runR; rw [if_neg (by rw [hr]; simp)])
    have HNM := hide (show matR nx ru word = -1 by unfold matR; rw [if_neg (by rw [HNR.out]; omega)])
    have HNL := hide (long_no (nx := nx) (ru := ru) (word := word) (f := f) (fun q => by rw [hr] at q; simp at q))
    rw [HNL.out]
    go_wp2_with fail
    refine (dright_any a0 a1 n0 n1 c0 c1 nx ru w3 (dm_below' HB3.out HD1.out).l0 (dm_below' HB3.out HD1.out).l1 (dm_below' HB3.out HD1.out).dr (dm_below' HB3.out HD1.out).wd (dm_below' HB3.out HD1.out).m0 (dm_below' HB3.out HD1.out).m1).mono ?_
    rintro e w4 ⟨rfl, hb4⟩
    have HB4 := hide (HB3.out.trans (hb4.mono HB3.out.size))
    have p04 := (HB4.out.cell (p := ⟨B, 0, none⟩) (cell_lt p0)).trans p0
    have p14 := (HB4.out.cell (p := ⟨B, 1, none⟩) (cell_lt p1)).trans p1
    clear hb4
    rw [hr]
    go_wp2_with fail
    refine (drun_any a0 a1 n0 n1 c0 c1 nx ru a len cap word w4 (dm_below' HB4.out HD1.out) HZ.out (by unfold maxLen; omega) (wd_below HB4.out HW1.out)).mono ?_
    rintro e w5 ⟨rfl, hb5⟩
    have HB5 := hide (HB4.out.trans (hb5.mono HB4.out.size))
    have p05 := (HB5.out.cell (p := ⟨B, 0, none⟩) (cell_lt p0)).trans p0
    have p15 := (HB5.out.cell (p := ⟨B, 1, none⟩) (cell_lt p1)).trans p1
    clear hb5
    rw [HNR.out]
    go_wp2_with fail
    refine (dmatch_any a0 a1 n0 n1 c0 c1 nx ru a len cap word w5 (dm_below' HB5.out HD1.out) HZ.out (by unfold maxLen; omega) (wd_below HB5.out HW1.out)).mono ?_
    rintro e w6 ⟨rfl, hb6⟩
    have HB6 := hide (HB5.out.trans (hb6.mono HB5.out.size))
    have p06 := (HB6.out.cell (p := ⟨B, 0, none⟩) (cell_lt p0)).trans p0
    have p16 := (HB6.out.cell (p := ⟨B, 1, none⟩) (cell_lt p1)).trans p1
    clear hb6
    rw [HNM.out]
    go_wp2
    go_ret
    exact ⟨rfl, hB ▸ HB0w.out.trans (HB6.out.mono (hB ▸ HB0w.out.size))⟩
  | true =>
    have HR := hide hr
    have HRR := hide (show runR nx ru word = runF nx word len by unfold runR; rw [if_pos hr, HZ.out])
    have HRG := hide (run_rng hr (dm_len HD1.out) word len)
    clear hr
    go_wp2_with fail
    refine (rrun_any7 a0 a1 n0 n1 c0 c1 nx ru a len cap word w3 (dm_below' HB3.out HD1.out) HR.out HZ.out (by unfold maxLen; omega) (wd_below HB3.out HW1.out)).mono ?_
    rintro e w4 ⟨rfl, hb4⟩
    have HB4 := hide (HB3.out.trans (hb4.mono HB3.out.size))
    have p04 := (HB4.out.cell (p := ⟨B, 0, none⟩) (cell_lt p0)).trans p0
    have p14 := (HB4.out.cell (p := ⟨B, 1, none⟩) (cell_lt p1)).trans p1
    clear hb4
    by_cases hneg : runF nx word len < 0
    · have HRV := hide (show runF nx word len = -1 by have := HRG.out; omega)
      have HMV := hide (show matR nx ru word = -1 by unfold matR; rw [if_neg (by rw [HRR.out]; omega)])
      rw [HRV.out]
      clear hneg
      go_wp2_with fail
      refine (rlong_any7 a0 a1 n0 n1 c0 c1 nx ru a len cap word f w4 (dm_below' HB4.out HD1.out) HR.out HZ.out hl (by unfold maxLen; omega) (wd_below HB4.out HW1.out)).mono ?_
      rintro e w5 ⟨rfl, hb5⟩
      have HB5 := hide (HB4.out.trans (hb5.mono HB4.out.size))
      have p05 := (HB5.out.cell (p := ⟨B, 0, none⟩) (cell_lt p0)).trans p0
      have p15 := (HB5.out.cell (p := ⟨B, 1, none⟩) (cell_lt p1)).trans p1
      clear hb5
      go_wp2_with fail
      refine (dright_any a0 a1 n0 n1 c0 c1 nx ru w5 (dm_below' HB5.out HD1.out).l0 (dm_below' HB5.out HD1.out).l1 (dm_below' HB5.out HD1.out).dr (dm_below' HB5.out HD1.out).wd (dm_below' HB5.out HD1.out).m0 (dm_below' HB5.out HD1.out).m1).mono ?_
      rintro e w6 ⟨rfl, hb6⟩
      have HB6 := hide (HB5.out.trans (hb6.mono HB5.out.size))
      have p06 := (HB6.out.cell (p := ⟨B, 0, none⟩) (cell_lt p0)).trans p0
      have p16 := (HB6.out.cell (p := ⟨B, 1, none⟩) (cell_lt p1)).trans p1
      clear hb6
      rw [HR.out]
      go_wp2_with fail
      refine (drun_any a0 a1 n0 n1 c0 c1 nx ru a len cap word w6 (dm_below' HB6.out HD1.out) HZ.out (by unfold maxLen; omega) (wd_below HB6.out HW1.out)).mono ?_
      rintro e w7 ⟨rfl, hb7⟩
      have HB7 := hide (HB6.out.trans (hb7.mono HB6.out.size))
      have p07 := (HB7.out.cell (p := ⟨B, 0, none⟩) (cell_lt p0)).trans p0
      have p17 := (HB7.out.cell (p := ⟨B, 1, none⟩) (cell_lt p1)).trans p1
      clear hb7
      rw [HRR.out, HRV.out]
      go_wp2_with fail
      refine (dmatch_any a0 a1 n0 n1 c0 c1 nx ru a len cap word w7 (dm_below' HB7.out HD1.out) HZ.out (by unfold maxLen; omega) (wd_below HB7.out HW1.out)).mono ?_
      rintro e w8 ⟨rfl, hb8⟩
      have HB8 := hide (HB7.out.trans (hb8.mono HB7.out.size))
      have p08 := (HB8.out.cell (p := ⟨B, 0, none⟩) (cell_lt p0)).trans p0
      have p18 := (HB8.out.cell (p := ⟨B, 1, none⟩) (cell_lt p1)).trans p1
      clear hb8
      rw [HMV.out]
      go_wp2
      go_ret
      exact ⟨by first | rfl | simp, hB ▸ HB0w.out.trans (HB8.out.mono (hB ▸ HB0w.out.size))⟩
    · obtain ⟨st, hst⟩ : ∃ st : Nat, runF nx word len = st := ⟨(runF nx word len).toNat, by omega⟩
      have hru := (right_open HR.out).2.2.1
      have hl1' := HD1.out.l1
      have hrg := HRG.out
      obtain ⟨r, hr⟩ : ∃ r, ru[st]? = some r := ⟨_, List.getElem?_eq_getElem (by omega)⟩
      have HRV := hide hst
      have HMV := hide (show matR nx ru word = r by unfold matR; rw [if_pos (by rw [HRR.out]; omega), HRR.out, hst, show ((st : Nat) : Int).toNat = st by omega, List.getD_eq_getElem?_getD, hr, Option.getD_some])
      have hst1 : st < n1 := by omega
      obtain ⟨b3, o3, rfl, k3⟩ := wd_below HB4.out HD1.out.wd st r hr
      have i5 : (0 : Int) ≤ (st : Int) := by omega
      have i6 : (st : Int) < (n1 : Int) := by omega
      rw [HRV.out]
      clear hneg hst hru hl1' hrg hr
      go_wp2_with fail
      refine (rlong_any7 a0 (some ⟨b3, o3, none⟩) n0 n1 c0 c1 nx ru a len cap word f w4 (dm_below' HB4.out HD1.out) HR.out HZ.out hl (by unfold maxLen; omega) (wd_below HB4.out HW1.out)).mono ?_
      rintro e w5 ⟨rfl, hb5⟩
      have HB5 := hide (HB4.out.trans (hb5.mono HB4.out.size))
      have p05 := (HB5.out.cell (p := ⟨B, 0, none⟩) (cell_lt p0)).trans p0
      have p15 := (HB5.out.cell (p := ⟨B, 1, none⟩) (cell_lt p1)).trans p1
      clear hb5
      go_wp2_with fail
      refine (dright_any a0 (some ⟨b3, o3, none⟩) n0 n1 c0 c1 nx ru w5 (dm_below' HB5.out HD1.out).l0 (dm_below' HB5.out HD1.out).l1 (dm_below' HB5.out HD1.out).dr (dm_below' HB5.out HD1.out).wd (dm_below' HB5.out HD1.out).m0 (dm_below' HB5.out HD1.out).m1).mono ?_
      rintro e w6 ⟨rfl, hb6⟩
      have HB6 := hide (HB5.out.trans (hb6.mono HB5.out.size))
      have p06 := (HB6.out.cell (p := ⟨B, 0, none⟩) (cell_lt p0)).trans p0
      have p16 := (HB6.out.cell (p := ⟨B, 1, none⟩) (cell_lt p1)).trans p1
      clear hb6
      rw [HR.out]
      go_wp2_with fail
      refine (drun_any a0 (some ⟨b3, o3, none⟩) n0 n1 c0 c1 nx ru a len cap word w6 (dm_below' HB6.out HD1.out) HZ.out (by unfold maxLen; omega) (wd_below HB6.out HW1.out)).mono ?_
      rintro e w7 ⟨rfl, hb7⟩
      have HB7 := hide (HB6.out.trans (hb7.mono HB6.out.size))
      have p07 := (HB7.out.cell (p := ⟨B, 0, none⟩) (cell_lt p0)).trans p0
      have p17 := (HB7.out.cell (p := ⟨B, 1, none⟩) (cell_lt p1)).trans p1
      clear hb7
      rw [HRR.out, HRV.out]
      go_wp2_with fail
      refine (dmatch_any a0 (some ⟨b3, o3, none⟩) n0 n1 c0 c1 nx ru a len cap word w7 (dm_below' HB7.out HD1.out) HZ.out (by unfold maxLen; omega) (wd_below HB7.out HW1.out)).mono ?_
      rintro e w8 ⟨rfl, hb8⟩
      have HB8 := hide (HB7.out.trans (hb8.mono HB7.out.size))
      have p08 := (HB8.out.cell (p := ⟨B, 0, none⟩) (cell_lt p0)).trans p0
      have p18 := (HB8.out.cell (p := ⟨B, 1, none⟩) (cell_lt p1)).trans p1
      clear hb8
      rw [HMV.out]
      go_wp2
      go_ret
      exact ⟨by first | rfl | simp, hB ▸ HB0w.out.trans (HB8.out.mono (hB ▸ HB0w.out.size))⟩
end Go.Proofs.YtccaknabpnpjaaaDoor.A
