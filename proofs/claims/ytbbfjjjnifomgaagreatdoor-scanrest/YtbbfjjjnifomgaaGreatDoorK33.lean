/- The document's Right, Run, Longest; a machine that came in. -/
import Derived.OpenShut
import Derived.Lib.LaidTab
import Derived.Below
import Derived.Outline
import Derived.Deep.Heap
import Derived.Deep.OwnRows
import Derived.Deep.QuietTactic
import Derived.Deep.Slices
import Derived.ProofKit
import Derived.WalkKit
import Derived.WalkSpells
import Derived.WalkLawsBesides
import Derived.Deep.WholeRow
import Derived.Deep.MidRow
import Derived.DeepKeys5
import Derived.Maps.OwnSet
import Derived.Maps.OwnOps
import Derived.Maps.AppendAt
import Derived.Maps.RangeWalk
import Derived.Deep.RegionLaw
import Derived.Deep.Cut
import Derived.Deep.CutRange
import Derived.Deep.RegionHeld3
import Derived.Deep.AppendLies
import Derived.BigQuiet
import Derived.Deep.Strs
import Derived.Deep.AppendSrc
import Derived.Laws.AppendOwnNone
import Derived.Laws.AppendOwn
import Derived.Shelf.Small.Strs
import Derived.Shelf.Strconv.Itoa0
import Derived.Shelf.Strconv.Itoa1
import Derived.Shelf.LaysM
import Derived.Shelf.Strconv.Itoa2
import Derived.Shelf.Strconv.Clone
import Derived.Shelf.Strings.Search1
import Derived.Shelf.Strings.Search2
import Derived.Shelf.Strings.Search3
import Derived.Shelf.Strings.Count
import Derived.Shelf.Strings.Shaped
import Derived.Shelf.Strconv.AppendUint10
import Derived.Shelf.Strconv.AppendInt10
import Derived.Shelf.Strconv.AppendIntPublic10
import Derived.Shelf.Strings.Split
import Derived.Shelf.Strings.SplitShaped
import Derived.Shelf.Bits.Mul64
import Derived.Shelf.Unicode.DecodeSlow
import Derived.Ground.Names2Prog
import Derived.Shelf.Slices.Clone
import Derived.Ground.SlgnProg
import Derived.Shelf.SlicesE.Clone
import Derived.Laws.IdiomStrings
import Derived.Laws.BytesArg
import Derived.LaidMore
import Derived.HandedShaped
import Derived.Shelf.Vars
import Derived.MakeChecks
import Derived.Stop.LaidErr
import Derived.Laws.OwnMore
import Derived.OwnWalk
import Derived.Defers
import Derived.Recover
import Derived.Lib.SplitLaws
import Derived.Test.YtbbfjjjnifomgaaGreatDoorK1
import Derived.Test.YtbbfjjjnifomgaaGreatDoorK4
import Derived.Test.YtbbfjjjnifomgaaGreatDoorK8
import Derived.Test.YtbbfjjjnifomgaaGreatDoorK11
import Derived.Test.YtbbfjjjnifomgaaGreatDoorK13
import Derived.Test.YtbbfjjjnifomgaaGreatDoorK17
import Derived.Test.YtbbfjjjnifomgaaGreatDoorK20
import Derived.Test.YtbbfjjjnifomgaaGreatDoorK24
import Derived.Test.YtbbfjjjnifomgaaGreatDoorK26
import Derived.Test.YtbbfjjjnifomgaaGreatDoorK28
import Derived.Test.YtbbfjjjnifomgaaGreatDoorK29
import Derived.Test.YtbbfjjjnifomgaaGreatDoorK30
import Derived.Test.YtbbfjjjnifomgaaGreatDoorK7
namespace Go.Proofs.YtbbfjjjnifomgaaGreatDoor.A
open Go.RowKit Go.ChangeShapes Go.WideShapes Go.Deep
set_option linter.unusedVariables false
set_option maxRecDepth 100000 in
set_option maxHeartbeats 3200000 in
theorem rright_any7 (a0 a1 : Option Addr) (n0 n1 c0 c1 : Nat) (nx : List (List Int)) (ru : List Int) (w : World) (hm : Dm w a0 a1 n0 n1 nx ru) :
    Calls Tryz.prog 10 #[.agg #[.slice a0 n0 c0, .slice a1 n1 c1]] w fun e w' => e = .returned (.bool (rightD nx ru)) ∧ Below w.heap.size w w' := by
  have HX := hide (dtwo_new w (.slice a0 n0 c0) (.slice a1 n1 c1))
  have hb0 := (Below.refl w.heap.size w).alloc (Nat.le_refl _) (.cells #[.slice a0 n0 c0, .slice a1 n1 c1] 25)
  have HB0 := hide hb0
  have HM := hide (dm_below' hb0 hm)
  have HZ := hide (show w.heap.size < (w.alloc (.cells #[.slice a0 n0 c0, .slice a1 n1 c1] 25)).heap.size by simp)
  have hl0 := hm.m0
  have hl1 := hm.m1
  obtain ⟨p0, p1⟩ := HX.out
  unfold maxLen at hl0 hl1
  clear hb0 hm
  by_cases g0 : n1 < 1
  · have HE := hide (show rightD nx ru = false by
      by_cases h : rightD nx ru = true
      · have := right_open h; have h0 := HM.out.l1; have h1 := HM.out.l0; omega
      · simpa using h)
    have d0 : decide ((n1 : Int) < 1) = true := by simp; omega
    go_enter Tryz.func10, Tryz.ntmps10
    go_wp2
    go_ret
    exact ⟨by rw [HE.out]; rfl, HB0.out⟩
  have d0 : decide ((n1 : Int) < 1) = false := by simp; omega
  by_cases g1 : 200 < n1
  · have HE := hide (show rightD nx ru = false by
      by_cases h : rightD nx ru = true
      · have := right_open h; have h0 := HM.out.l1; have h1 := HM.out.l0; omega
      · simpa using h)
    have d1 : decide ((200 : Int) < (n1 : Int)) = true := by simp; omega
    go_enter Tryz.func10, Tryz.ntmps10
    go_wp2
    go_ret
    exact ⟨by rw [HE.out]; rfl, HB0.out⟩
  have d1 : decide ((200 : Int) < (n1 : Int)) = false := by simp; omega
  by_cases g2 : n0 ≠ n1
  · have HE := hide (show rightD nx ru = false by
      by_cases h : rightD nx ru = true
      · have := right_open h; have h0 := HM.out.l1; have h1 := HM.out.l0; omega
      · simpa using h)
    have d2 : ((n0 : Int) != (n1 : Int)) = true := by simp; omega
    have d3 : ((n0 : Int) == (n1 : Int)) = false := by simp; omega
    go_enter Tryz.func10, Tryz.ntmps10
    go_wp2
    go_ret
    exact ⟨by rw [HE.out]; rfl, HB0.out⟩
  obtain rfl : n0 = n1 := by omega
  go_enter Tryz.func10, Tryz.ntmps10
  go_wp2_with fail
  generalize w.alloc (.cells #[.slice a0 n0 c0, .slice a1 n0 c1] 25) = W0 at *
  generalize hB : w.heap.size = B at *
  go_loopw [4, 5] (fun i _ wr => ∃ k : Nat, k ≤ n0 ∧ i = .int .i64 k ∧ (∀ j, j < k → (okRule (ru.getD j 0) && okRow n0 (nx.getD j [])) = true) ∧ wr = W0) (fun i _ _ => n0 - (intOf i).toNat)
  case atStart => exact ⟨0, Nat.zero_le _, rfl, fun j hj => by omega, rfl⟩
  case round =>
    obtain ⟨k, hk, rfl, hok, rfl⟩ := hrel
    have HOK := hide hok
    clear hok
    by_cases hlt : k < n0
    · obtain ⟨row, hr⟩ : ∃ row, nx[k]? = some row := ⟨_, List.getElem?_eq_getElem (by rw [HM.out.l0]; exact hlt)⟩
      obtain ⟨r, hu⟩ : ∃ r, ru[k]? = some r := ⟨_, List.getElem?_eq_getElem (by rw [HM.out.l1]; exact hlt)⟩
      have hrl := (HM.out.dr k row hr).1
      obtain ⟨b2, o2, rfl, k2⟩ := HM.out.wd k r hu
      have i3 : (0 : Int) ≤ (k : Int) := by omega
      have i4 : (k : Int) < (n0 : Int) := by omega
      have HHR := hide hr
      have HHU := hide hu
      have HRL := hide hrl
      clear hr hu hrl
      by_cases r0 : r < -1
      · have d2 : decide (r < -1) = true := by simp [r0]
        have HE := hide (right_stop HHR.out HHU.out (by unfold okRule; rw [show decide (-1 ≤ r) = false by simp; omega]; rfl))
        go_wp2
        go_ret
        exact ⟨by rw [HE.out]; rfl, hB ▸ HB0.out⟩
      have d2 : decide (r < -1) = false := by simp; omega
      by_cases r1 : 15 < r
      · have d3 : decide (15 < r) = true := by simp [r1]
        have HE := hide (right_stop HHR.out HHU.out (by unfold okRule; rw [show decide (r ≤ 15) = false by simp; omega]; simp))
        go_wp2
        go_ret
        exact ⟨by rw [HE.out]; rfl, hB ▸ HB0.out⟩
      have d3 : decide (15 < r) = false := by simp; omega
      have HOKR := hide (show okRule r = true by unfold okRule; rw [Bool.and_eq_true, decide_eq_true_eq, decide_eq_true_eq]; omega)
      go_wp2_with fail
      clear k2
      go_loopw [5] (fun i wi => ∃ j : Nat, j ≤ 16 ∧ i = .int .i64 j ∧ (∀ m, m < j → -1 ≤ row.getD m 0 ∧ row.getD m 0 < (n0 : Int)) ∧ wi = wr) (fun i _ => 16 - (intOf i).toNat)
      case atStart => exact ⟨0, by omega, rfl, fun m hm => by omega, rfl⟩
      case round =>
        obtain ⟨j, hj, rfl, hin, rfl⟩ := hrel
        have HIN := hide hin
        clear hin
        by_cases hjt : j < 16
        · obtain ⟨z, hz⟩ : ∃ z, row[j]? = some z := ⟨_, List.getElem?_eq_getElem (by rw [HRL.out]; exact hjt)⟩
          obtain ⟨b, off, rfl, k0⟩ := dr_cell HM.out.dr HHR.out hz
          have i5 : (0 : Int) ≤ (j : Int) := by omega
          have i6 : (j : Int) < 16 := by omega
          by_cases z0 : z < -1
          · have d5 : decide (z < -1) = true := by simp [z0]
            have HE := hide (right_stop HHR.out HHU.out (by rw [row_bad (n := nx.length) hz (.inl z0)]; simp))
            clear hz
            go_wp2
            go_ret
            exact ⟨by rw [HE.out]; rfl, hB ▸ HB0.out⟩
          have d5 : decide (z < -1) = false := by simp; omega
          by_cases z1 : (n0 : Int) ≤ z
          · have d6 : decide ((n0 : Int) ≤ z) = true := by simp [z1]
            have HE := hide (right_stop HHR.out HHU.out (by rw [row_bad (n := nx.length) hz (.inr (by rw [HM.out.l0]; exact z1))]; simp))
            clear hz
            go_wp2
            go_ret
            exact ⟨by rw [HE.out]; rfl, hB ▸ HB0.out⟩
          have d6 : decide ((n0 : Int) ≤ z) = false := by simp; omega
          have HZZ := hide hz
          clear hz
          go_wp2
          go_roundw
          case rel => exact ⟨j + 1, by omega, by go_num, fun m hm => by
            by_cases e : m = j
            · subst e; rw [List.getD_eq_getElem?_getD, HZZ.out]; exact ⟨by simp; omega, by simp; omega⟩
            · exact HIN.out m (by omega), trivial⟩
          case measure => simp [intOf]; omega
        · have e : j = 16 := by omega
          subst e
          go_wp2
          refine ⟨⟨k + 1, by omega, by go_num, fun m hm => ?_, trivial⟩, ?_⟩
          · by_cases e : m = k
            · subst e
              rw [List.getD_eq_getElem?_getD, List.getD_eq_getElem?_getD, HHU.out, HHR.out, Option.getD_some, Option.getD_some, HOKR.out, Bool.true_and]
              unfold okRow
              rw [List.all_eq_true]
              intro z hz
              obtain ⟨i, hi, e⟩ := List.getElem_of_mem hz
              have := HIN.out i (by rw [HRL.out] at hi; exact hi)
              rw [List.getD_eq_getElem?_getD, List.getElem?_eq_getElem hi, e, Option.getD_some] at this
              simp; omega
            · exact HOK.out m (by omega)
          · simp [intOf]; omega
    · have e : k = n0 := by omega
      subst e
      have HE := hide (show rightD nx ru = true from by
        unfold rightD
        simp only [Bool.and_eq_true, decide_eq_true_eq, List.all_eq_true, List.mem_range]
        exact ⟨by rw [HM.out.l0]; omega, by rw [HM.out.l0]; omega, by rw [HM.out.l0, HM.out.l1], fun i hi => by have := HOK.out i (by rw [HM.out.l0] at hi; exact hi); rw [Bool.and_eq_true] at this; rw [HM.out.l0]; exact this⟩)
      go_wp2
      go_ret
      exact ⟨by rw [HE.out]; rfl, hB ▸ HB0.out⟩

set_option maxRecDepth 100000 in
set_option maxHeartbeats 3200000 in
theorem rrun_any7 (a0 a1 : Option Addr) (n0 n1 c0 c1 : Nat) (nx : List (List Int)) (ru : List Int) (a : Option Addr) (len cap : Nat) (word : List Int) (w : World) (hm : Dm w a0 a1 n0 n1 nx ru) (hr : rightD nx ru = true) (hz : word.length = len) (hl : len ≤ maxLen) (hW : Wd w a word) :
    Calls Tryz.prog 54 #[.agg #[.slice a0 n0 c0, .slice a1 n1 c1], .slice a len cap] w fun e w' => e = .returned (.int .i64 (runF nx word len)) ∧ Below w.heap.size w w' := by
  have HX := hide (dtwo_new w (.slice a0 n0 c0) (.slice a1 n1 c1))
  have hb0 := (Below.refl w.heap.size w).alloc (Nat.le_refl _) (.cells #[.slice a0 n0 c0, .slice a1 n1 c1] 25)
  have HB0 := hide hb0
  have HM := hide (dm_below' hb0 hm)
  have HW := hide (wd_below hb0 hW)
  have HZ := hide hz
  have HR := hide hr
  obtain ⟨p0, p1⟩ := HX.out
  unfold maxLen at hl
  clear hb0 hm hW hz hr
  go_enter Tryz.func54, Tryz.ntmps54
  go_wp2_with fail
  generalize w.alloc (.cells #[.slice a0 n0 c0, .slice a1 n1 c1] 25) = W0 at *
  generalize hB : w.heap.size = B at *
  go_loopw [5, 6] (fun u i wr => ∃ k : Nat, k ≤ len ∧ i = .int .i64 k ∧ u = .int .i64 (runF nx word k) ∧ Below W0.heap.size W0 wr) (fun _ i _ => len - (intOf i).toNat)
  case atStart => exact ⟨0, Nat.zero_le _, rfl, rfl, Below.refl _ _⟩
  case round =>
    obtain ⟨k, hk, rfl, rfl, hb⟩ := hrel
    have HBW := hide hb
    have hrg := run_rng HR.out (dm_len HM.out) word k
    have hl0 := HM.out.l0
    have hbs : B ≤ W0.heap.size := by have := HB0.out.size; omega
    have p0' := (hb.cell (p := ⟨B, 0, none⟩) (cell_lt p0)).trans p0
    clear hb
    by_cases hlt : k < len
    · have d0 : decide ((k : Int) < (len : Int)) = true := by simp; omega
      by_cases hd : runF nx word k < 0
      · have HD := hide (show runF nx word len = runF nx word k by rw [run_dead' (show runF nx word k = -1 by omega) hk]; omega)
        have d1 : decide (0 ≤ runF nx word k) = false := by simp; omega
        clear hrg hd p0
        go_wp2
        go_ret
        exact ⟨by rw [HD.out]; rfl, hB ▸ HB0.out.trans (HBW.out.mono hbs)⟩
      · obtain ⟨st, hst⟩ : ∃ st : Nat, runF nx word k = st := ⟨(runF nx word k).toNat, by omega⟩
        obtain ⟨c, hc⟩ : ∃ c, word[k]? = some c := ⟨_, List.getElem?_eq_getElem (by rw [HZ.out]; exact hlt)⟩
        obtain ⟨b, off, rfl, k0⟩ := wd_below HBW.out HW.out k c hc
        have HNX := hide (show runF nx word (k + 1) = stepF nx st c by show stepF nx (runF nx word k) (word.getD k 0) = _; rw [hst, List.getD_eq_getElem?_getD, hc]; rfl)
        have i3 : (0 : Int) ≤ (k : Int) := by omega
        have i4 : (k : Int) < (len : Int) := by omega
        have hs0 : st < n0 := by omega
        rw [hst]
        clear hc hrg hd hst p0
        by_cases cc : ¬ (0 ≤ c ∧ c < 16)
        · have HE2 := hide (show runF nx word len = -1 from run_dead' (k := k + 1) (by rw [HNX.out]; exact step_out cc) (by omega))
          by_cases c0' : c < 0
          · have y0 : decide (c < 0) = true := by simp [c0']
            go_wp2
            go_ret
            exact ⟨by rw [HE2.out]; rfl, hB ▸ HB0.out.trans (HBW.out.mono hbs)⟩
          · have y0 : decide (c < 0) = false := by simp; omega
            have y1 : decide (15 < c) = true := by simp; omega
            go_wp2
            go_ret
            exact ⟨by rw [HE2.out]; rfl, hB ▸ HB0.out.trans (HBW.out.mono hbs)⟩
        · obtain ⟨j, rfl⟩ : ∃ j : Nat, c = j := ⟨c.toNat, by omega⟩
          have hj : j < 16 := by omega
          have y0 : decide ((j : Int) < 0) = false := decide_eq_false (by omega)
          have y1 : decide ((15 : Int) < (j : Int)) = false := decide_eq_false (by omega)
          have HMW := hide (dm_below' HBW.out HM.out)
          obtain ⟨row, hrw⟩ : ∃ row, nx[st]? = some row := ⟨_, List.getElem?_eq_getElem (by omega)⟩
          have hl16 := (HMW.out.dr st row hrw).1
          obtain ⟨z, hz⟩ : ∃ z, row[j]? = some z := ⟨_, List.getElem?_eq_getElem (by omega)⟩
          obtain ⟨b3, o3, rfl, k3⟩ := dr_cell HMW.out.dr hrw hz
          have HNZ := hide (HNX.out.trans (dstep_in hrw hz hj))
          have i5 : (0 : Int) ≤ (st : Int) := by omega
          have i6 : (st : Int) < (n0 : Int) := by omega
          have i7 : (0 : Int) ≤ (j : Int) := by omega
          have i8 : (j : Int) < 16 := by omega
          clear cc hrw hz hl16 HMW
          go_wp2
          go_quiet (fail)
          go_wp2
          go_roundw
          case rel => exact ⟨k + 1, by omega, by go_num, by rw [HNZ.out], below_drewN HBW.out _⟩
          case measure => simp [intOf]; omega
    · have e : k = len := by omega
      subst e
      clear hrg p0 p0'
      go_wp2
      go_ret
      exact ⟨rfl, hB ▸ HB0.out.trans (HBW.out.mono hbs)⟩
set_option linter.unusedVariables false

theorem wd_takeM {w : World} {a : Option Addr} {word : List Int} (h : Wd w a word) (k : Nat) : Wd w a (word.take k) := fun i c hc => by
  have hi : i < (word.take k).length := (List.getElem?_eq_some_iff.1 hc).1
  rw [List.length_take] at hi
  exact h i c (by rw [List.getElem?_take_of_lt (by omega)] at hc; exact hc)

theorem lg_neg {nx : List (List Int)} {ru word : List Int} {f : Int} {k : Nat} (h : runF nx word (k + 1) < 0) : lgF nx ru word f (k + 1) = lgF nx ru word f k := by
  show (if 0 ≤ runF nx word (k + 1) ∧ ru.getD (runF nx word (k + 1)).toNat 0 ≠ -1 then (f + (k : Int) + 1, ru.getD (runF nx word (k + 1)).toNat 0) else lgF nx ru word f k) = _
  rw [if_neg (fun q => by omega)]

set_option maxRecDepth 100000 in
set_option maxHeartbeats 3200000 in
theorem rlong_any7 (a0 a1 : Option Addr) (n0 n1 c0 c1 : Nat) (nx : List (List Int)) (ru : List Int) (a : Option Addr) (len cap : Nat) (word : List Int) (f : Int) (w : World) (hm : Dm w a0 a1 n0 n1 nx ru) (hr : rightD nx ru = true) (hz : word.length = len) (hl : len ≤ cap) (hc : cap ≤ maxLen) (hW : Wd w a word) :
    Calls Tryz.prog 30 #[.agg #[.slice a0 n0 c0, .slice a1 n1 c1], .slice a len cap, .int .i64 f] w fun e w' => e = .returned (.tuple #[.int .i64 (longR nx ru word f).1, .int .i64 (longR nx ru word f).2]) ∧ Below w.heap.size w w' := by
  have HX := hide (dtwo_new w (.slice a0 n0 c0) (.slice a1 n1 c1))
  have hb0 := (Below.refl w.heap.size w).alloc (Nat.le_refl _) (.cells #[.slice a0 n0 c0, .slice a1 n1 c1] 25)
  have HB0 := hide hb0
  have HM := hide (dm_below' hb0 hm)
  have HW := hide (wd_below hb0 hW)
  have HZ := hide hz
  have HR := hide hr
  have HRU := hide (right_open hr).2.2.1
  have HZZ := hide (show w.heap.size < (w.alloc (.cells #[.slice a0 n0 c0, .slice a1 n1 c1] 25)).heap.size by simp)
  have hc' := hc
  unfold maxLen at hc'
  obtain ⟨p0, p1⟩ := HX.out
  clear hb0 hm hW hz hr
  by_cases f0 : f < 0
  · have HE := hide (long_no (nx := nx) (ru := ru) (word := word) (f := f) (fun q => by omega))
    have d0 : decide (f < 0) = true := by simp [f0]
    go_enter Tryz.func30, Tryz.ntmps30
    go_wp2
    go_ret2
    exact ⟨by rw [HE.out]; rfl, HB0.out⟩
  have d0 : decide (f < 0) = false := by simp; omega
  by_cases f1 : (len : Int) < f
  · have HE := hide (long_no (nx := nx) (ru := ru) (word := word) (f := f) (fun q => by have := HZ.out; omega))
    have d1 : decide (f < (len : Int)) = false := by simp; omega
    go_enter Tryz.func30, Tryz.ntmps30
    go_wp2_with fail
    go_loopw [8, 9] (fun e _ wr => e = .int .i64 len ∧ wr = w.alloc (.cells #[.slice a0 n0 c0, .slice a1 n1 c1] 25)) (fun _ _ _ => 0)
    case atStart => exact ⟨rfl, rfl⟩
    case round =>
      obtain ⟨rfl, rfl⟩ := hrel
      go_wp2
      go_ret2
      exact ⟨by rw [HE.out]; rfl, HB0.out⟩
  obtain ⟨s, rfl⟩ : ∃ s : Nat, f = s := ⟨f.toNat, by omega⟩
  have hsl : s ≤ len := by omega
  have HE := hide (show longR nx ru word s = lgF nx ru (word.drop s) s (len - s) by unfold longR; rw [if_pos ⟨HR.out, by omega, by rw [HZ.out]; omega⟩, HZ.out, show ((s : Nat) : Int).toNat = s by omega])
  have HWD := hide (wd_drop HW.out s)
  have HLD := hide (show (word.drop s).length = len - s by rw [List.length_drop, HZ.out])
  obtain ⟨wd, hwd⟩ : ∃ wd, word.drop s = wd := ⟨_, rfl⟩
  rw [hwd] at HE HLD HWD
  go_enter Tryz.func30, Tryz.ntmps30
  go_wp2_with fail
  generalize w.alloc (.cells #[.slice a0 n0 c0, .slice a1 n1 c1] 25) = W0 at *
  generalize hB : w.heap.size = B at *
  go_loopw [8, 9] (fun e _ wr => ∃ k : Nat, k ≤ len - s ∧ e = .int .i64 ((s + k : Nat) : Int) ∧ lgF nx ru wd s (len - s) = lgF nx ru wd s k ∧ Below W0.heap.size W0 wr) (fun e _ _ => (intOf e).toNat)
  case atStart => exact ⟨len - s, Nat.le_refl _, by rw [show s + (len - s) = len by omega], rfl, Below.refl _ _⟩
  case round =>
    obtain ⟨k, hk, rfl, hlg, hb⟩ := hrel
    have HLG := hide hlg
    have HBW := hide hb
    have p0' := (hb.cell (p := ⟨B, 0, none⟩) HZZ.out).trans p0
    have p1' := (hb.cell (p := ⟨B, 1, none⟩) HZZ.out).trans p1
    clear hlg hb
    cases k with
    | zero =>
      have d1 : decide ((s : Int) < ((s + 0 : Nat) : Int)) = false := by simp
      go_wp2
      go_ret2
      exact ⟨by rw [HE.out, HLG.out]; rfl, hB ▸ HB0.out.trans (HBW.out.mono (Nat.le_of_lt HZZ.out))⟩
    | succ j =>
      have d1 : decide ((s : Int) < ((s + (j + 1) : Nat) : Int)) = true := by simp; omega
      have i1 : (0 : Int) ≤ (s : Int) := by omega
      have i2 : (s : Int) ≤ ((s + (j + 1) : Nat) : Int) := by omega
      have i3 : ((s + (j + 1) : Nat) : Int) ≤ (cap : Int) := by omega
      have hne : ¬ (cap - s = 0) := by omega
      have HRN := hide (rrun_any7 a0 a1 n0 n1 c0 c1 nx ru (Option.map (fun x => x.add s) a) (j + 1) (cap - s) (wd.take (j + 1)) wr.drew (dm_below' (HBW.out.trans ((below_drew1 wr).mono HBW.out.size)) HM.out) HR.out (by rw [List.length_take, HLD.out]; omega) (by unfold maxLen; omega) (wd_takeM (wd_below (HBW.out.trans ((below_drew1 wr).mono HBW.out.size)) HWD.out) (j + 1)))
      have HTK := hide (run_take (nx := nx) (word := wd) (m := j + 1) (j + 1) (Nat.le_refl _) (by rw [HLD.out]; omega))
      go_upto_region 6 with fail
      go_cut [9] from 14 to 31 (fun s wx => s = .int .i64 (runF nx wd (j + 1)) ∧ Below W0.heap.size W0 wx)
      case first =>
        first
          | go_region_with (go_at_call 54; refine HRN.out.mono ?_; rintro e w2 ⟨rfl, hb2⟩; have HB2 := hide (HBW.out.trans (((below_drew1 wr).trans hb2).mono HBW.out.size)))
          | fail
        all_goals go_wp2_with fail
        all_goals go_meet
        all_goals exact ⟨by rw [HTK.out], HB2.out⟩
      case rest =>
      obtain ⟨rfl, hbc⟩ := hcut
      have HBC := hide hbc
      have p0c := (hbc.cell (p := ⟨B, 0, none⟩) HZZ.out).trans p0
      have p1c := (hbc.cell (p := ⟨B, 1, none⟩) HZZ.out).trans p1
      clear hbc HRN HTK p0' p1' p0 p1
      have hrg := run_rng HR.out (dm_len HM.out) wd (j + 1)
      by_cases hneg : runF nx wd (j + 1) < 0
      · have d3 : decide (0 ≤ runF nx wd (j + 1)) = false := by simp; omega
        have HL2 := hide (HLG.out.trans (lg_neg hneg))
        clear hneg hrg
        go_wp2
        go_roundw
        case rel => exact ⟨j, by omega, by go_num, HL2.out, HBC.out⟩
        case measure => simp [intOf]; omega
      · obtain ⟨st, hst⟩ : ∃ st : Nat, runF nx wd (j + 1) = st := ⟨(runF nx wd (j + 1)).toNat, by omega⟩
        have hru := HRU.out
        have hl1 := HM.out.l1
        obtain ⟨r, hr⟩ : ∃ r, ru[st]? = some r := ⟨_, List.getElem?_eq_getElem (by omega)⟩
        have hrr := (right_open HR.out).2.2.2.1 st r hr
        have HLS := hide (lg_some (f := (s : Int)) hst hr)
        have hst1 : st < n1 := by omega
        obtain ⟨b3, o3, rfl, k3⟩ := wd_below HBC.out HM.out.wd st r hr
        have i5 : (0 : Int) ≤ (st : Int) := by omega
        have i6 : (st : Int) < (n1 : Int) := by omega
        rw [hst]
        clear hst hr hrg hneg hru hl1
        by_cases r0 : 0 ≤ r
        · have d6 : decide (0 ≤ r) = true := by simp [r0]
          have HLS2 := hide (show lgF nx ru wd s (j + 1) = (((s + (j + 1) : Nat) : Int), r) by rw [HLS.out, if_pos (by omega), show ((s + (j + 1) : Nat) : Int) = (s : Int) + (j : Int) + 1 by omega])
          clear hrr r0
          go_wp2
          go_quiet (fail)
          go_wp2
          go_ret2
          exact ⟨by rw [HE.out, HLG.out, HLS2.out]; rfl, hB ▸ HB0.out.trans ((below_drewN HBC.out _).mono (Nat.le_of_lt HZZ.out))⟩
        · have d6 : decide (0 ≤ r) = false := by simp; omega
          have HLS2 := hide (show lgF nx ru wd s (j + 1) = lgF nx ru wd s j by rw [HLS.out, if_neg (by omega)])
          clear hrr r0
          go_wp2
          go_roundw
          case rel => exact ⟨j, by omega, by go_num, HLG.out.trans HLS2.out, HBC.out⟩
          case measure => simp [intOf]; omega
theorem cells22 : Tryz.prog.cellsOf 22 = 1 := by kernel_rfl
theorem cells23 : Tryz.prog.cellsOf 23 = 1 := by kernel_rfl
theorem cells25 : Tryz.prog.cellsOf 25 = 2 := by kernel_rfl
theorem arr16 {H : Type} {enc : TypeId × Value → H} {W : World} {base : Nat} {sp : Nat → Bool} {held : Bool} {fuel : Nat} {cs : List Value} {x : DataW H × List MemPlace}
    (h : DataW.trod enc Tryz.prog W base sp held fuel 66 cs = some x) : cs.length = 16 ∧ ∀ i, i < 16 → ∃ z : Int, cs[i]? = some (.int .i64 z) := by
  cases fuel with
  | zero => simp [DataW.trod] at h
  | succ fuel =>
    simp only [DataW.trod, Tryz.underlying66, cells3, cells66, Nat.mul_one] at h
    split at h
    · rename_i hl
      obtain ⟨xs, hm, hx⟩ := Option.map_eq_some_iff.1 h
      refine ⟨hl, fun i hi => ?_⟩
      obtain ⟨b, hb, hf⟩ := Lib.mapM_at hm i i (by simp [hi])
      obtain ⟨z, hc, _, _⟩ := DataW.trod_int Tryz.underlying3 hf
      refine ⟨z, ?_⟩
      have := congrArg (·[0]?) hc
      simpa [List.getElem?_take, List.getElem?_drop] using this
    · cases h
theorem rows_of {W : World} {b off n : Nat} (h : ∀ i, i < n → ∀ j, j < 16 → ∃ z : Int, W.cell? ⟨b, off + i * 16 + j, none⟩ = some (.int .i64 z)) : ∃ nx : List (List Int), nx.length = n ∧ Dr W (some ⟨b, off, none⟩) nx := by
  obtain ⟨q, hq⟩ := choose_lt (p := fun i (g : Nat → Int) => ∀ j, j < 16 → W.cell? ⟨b, off + i * 16 + j, none⟩ = some (.int .i64 (g j))) (fun i hi => by
    obtain ⟨g, hg⟩ := choose_lt (h i hi)
    exact ⟨g, hg⟩)
  refine ⟨(List.range n).map fun i => (List.range 16).map fun j => q i j, by simp, fun i row hr => ?_⟩
  have hi : i < n := by have := (List.getElem?_eq_some_iff.1 hr).1; simpa using this
  simp only [List.getElem?_map, List.getElem?_range hi, Option.map_some, Option.some.injEq] at hr
  subst hr
  refine ⟨by simp, b, off, rfl, fun j v hj => ?_⟩
  have hj16 : j < 16 := by have := (List.getElem?_eq_some_iff.1 hj).1; simpa [cI] using this
  simp only [cI, List.getElem?_map, List.getElem?_range hj16, Option.map_some, Option.some.injEq] at hj
  subst hj
  exact hq i hi j hj16
theorem open_rows {H : Type} {enc : TypeId × Value → H} {W : World} {sp : Nat → Bool} {fuel : Nat} {v : Value} {x : DataW H × List MemPlace} (h : DataW.trod enc Tryz.prog W 0 sp true fuel 22 [v] = some x) :
    ∃ (a : Option Addr) (len cap : Nat) (nx : List (List Int)), v = .slice a len cap ∧ Dr W a nx ∧ nx.length = len ∧ len ≤ maxLen := by
  rcases open_slice Tryz.underlying22 h with ⟨hcs, _⟩ | ⟨a', len', cap', m, n, D, Pl, hcs, _, hl, hm, hmm, _, hx⟩
  · simp only [List.cons.injEq, and_true] at hcs
    subst hcs
    exact ⟨none, 0, 0, [], rfl, fun i c hc => by simp at hc, rfl, by unfold maxLen; omega⟩
  · simp only [List.cons.injEq, and_true] at hcs
    subst hcs
    have hlm : len' ≤ m := by rw [hmm]; split <;> omega
    rcases Nat.eq_zero_or_pos len' with h0 | h0
    · subst h0
      exact ⟨_, 0, cap', [], rfl, fun i c hc => by simp at hc, rfl, by omega⟩
    have each : ∀ i, i < len' → ∀ j, j < 16 → ∃ z : Int, W.cell? (a'.add (i * 16 + j)) = some (.int .i64 z) := by
      intro i hi j hj
      obtain ⟨cs', h1, h2⟩ := hx i (by omega)
      rw [cells66] at h1
      obtain ⟨_, hlen, hcell⟩ := World.cells?_some h1
      obtain ⟨z, hz⟩ := (arr16 h2).2 j hj
      have c0 := hcell j (by omega)
      rw [add_add, hz] at c0
      exact ⟨z, c0⟩
    obtain ⟨b, off, spot⟩ := a'
    have hspot : spot = none := by
      obtain ⟨z, hz⟩ := each 0 h0 0 (by omega)
      simpa [Addr.add] using World.cell?_spot hz
    subst hspot
    obtain ⟨nx, h1, h2⟩ := rows_of (W := W) (b := b) (off := off) (n := len') (fun i hi j hj => by
      have := each i hi j hj
      rw [add_at, ← Nat.add_assoc] at this
      exact this)
    exact ⟨_, len', cap', nx, rfl, h2, h1, by omega⟩
set_option maxRecDepth 100000 in
theorem okWide_dfa {W : World} {base : Nat} {v : Value} (h : Value.okWide Tryz.prog W .any base 25 v) : ∃ cs, v = .agg cs := by
  unfold Value.okWide at h
  rw [Tryz.underlying25] at h
  obtain ⟨cs, rfl, _⟩ := h
  exact ⟨cs, rfl⟩
set_option maxRecDepth 100000 in
theorem open_dfa {H : Type} {enc : TypeId × Value → H} {W : World} {sp : Nat → Bool} {fuel : Nat} {cs : Array Value} {x : DataW H × List MemPlace} (h : DataW.trod enc Tryz.prog W 0 sp true fuel 25 (Value.agg cs).cells.toList = some x) :
    ∃ (a0 a1 : Option Addr) (n0 n1 c0 c1 : Nat) (nx : List (List Int)) (ru : List Int), cs = #[.slice a0 n0 c0, .slice a1 n1 c1] ∧ Dm W a0 a1 n0 n1 nx ru := by
  have h' : DataW.trod enc Tryz.prog W 0 sp true fuel 25 cs.toList = some x := h
  obtain ⟨xs, n, hfuel, _, hlen, hxs, hf⟩ := DataW.trod_struct Tryz.underlying25 h'
  rw [cells25] at hlen
  obtain ⟨l⟩ := cs
  simp only at hlen hf
  match l, hlen with
  | [d0, d1], _ =>
    have u0 : DataW.trod enc Tryz.prog W 0 sp true n 22 [d0] = xs[0]? := by
      have this : DataW.trod enc Tryz.prog W 0 sp true n 22 (List.take (Tryz.prog.cellsOf 22) (List.drop 0 [d0, d1])) = xs[0]? := hf 0 _ rfl
      rw [cells22] at this
      exact this
    have u1 : DataW.trod enc Tryz.prog W 0 sp true n 23 [d1] = xs[1]? := by
      have this : DataW.trod enc Tryz.prog W 0 sp true n 23 (List.take (Tryz.prog.cellsOf 23) (List.drop 1 [d0, d1])) = xs[1]? := hf 1 _ rfl
      rw [cells23] at this
      exact this
    have hxs2 : xs.length = 2 := hxs
    match xs, hxs2 with
    | [y0, y1], _ =>
      simp only [List.getElem?_cons_zero, List.getElem?_cons_succ] at u0 u1
      obtain ⟨a0, l0, c0, nx, rfl, f1, f2, f3⟩ := open_rows u0
      obtain ⟨a1, l1, c1, ru, rfl, r1, r2, r3⟩ := open_ints' u1
      exact ⟨a0, a1, l0, l1, c0, c1, nx, ru, rfl, ⟨f2, r2, f1, r1, f3, r3⟩⟩
end Go.Proofs.YtbbfjjjnifomgaaGreatDoor.A



/- States' outcomes; which are dead, which alike: plain mathematics. -/
namespace Go.Proofs.YtbbfjjjnifomgaaGreatDoor.A
open Go.RowKit
set_option linter.unusedVariables false

/-- A state's outcome by a word; -1: none. -/
def outc (nx : List (List Int)) (ru : List Int) : Int → List Nat → Int
  | a, [] => if 0 ≤ a then ru.getD a.toNat (-1) else -1
  | a, c :: r => outc nx ru (stepF nx a c) r
def Live (nx : List (List Int)) (ru : List Int) (a : Int) : Prop := ∃ word, 0 ≤ outc nx ru a word
def Alk (nx : List (List Int)) (ru : List Int) (a b : Int) : Prop := ∀ word, outc nx ru a word = outc nx ru b word
theorem alk_refl (nx : List (List Int)) (ru : List Int) (a : Int) : Alk nx ru a a := fun _ => rfl
theorem alk_symm {nx : List (List Int)} {ru : List Int} {a b : Int} (h : Alk nx ru a b) : Alk nx ru b a := fun w => (h w).symm
theorem alk_trans {nx : List (List Int)} {ru : List Int} {a b c : Int} (h : Alk nx ru a b) (k : Alk nx ru b c) : Alk nx ru a c := fun w => (h w).trans (k w)
theorem alk_step {nx : List (List Int)} {ru : List Int} {a b : Int} (h : Alk nx ru a b) (c : Nat) : Alk nx ru (stepF nx a c) (stepF nx b c) := fun w => h (c :: w)
theorem alk_live {nx : List (List Int)} {ru : List Int} {a b : Int} (h : Alk nx ru a b) : Live nx ru a ↔ Live nx ru b := ⟨fun ⟨w, q⟩ => ⟨w, by rw [← h w]; exact q⟩, fun ⟨w, q⟩ => ⟨w, by rw [h w]; exact q⟩⟩
theorem out_dead {nx : List (List Int)} {ru : List Int} : ∀ (word : List Nat) (a : Int), a < 0 → outc nx ru a word = -1
  | [], a, h => by unfold outc; rw [if_neg (by omega)]
  | c :: r, a, h => by
    have e : stepF nx a c = -1 := by unfold stepF; rw [if_neg (by omega)]
    unfold outc
    rw [e]
    exact out_dead r (-1) (by omega)
theorem dead_neg {nx : List (List Int)} {ru : List Int} {a : Int} (h : a < 0) : ¬ Live nx ru a := fun ⟨w, q⟩ => by rw [out_dead w a h] at q; omega
theorem live_step {nx : List (List Int)} {ru : List Int} {a : Int} {c : Nat} (h : Live nx ru (stepF nx a c)) : Live nx ru a := by
  obtain ⟨w, q⟩ := h
  exact ⟨c :: w, q⟩
theorem step_far {nx : List (List Int)} {a : Int} {c : Nat} (h : 16 ≤ c) : stepF nx a c = -1 := by unfold stepF; rw [if_neg (by omega)]

/-- A machine's lists. -/
structure Mx (nx : List (List Int)) (ru : List Int) (n : Nat) : Prop where
  ln : nx.length = n
  lr : ru.length = n
  pos : 1 ≤ n
  most : n ≤ 200
  row : ∀ x ∈ nx, x.length = 16
  rule : ∀ (i : Nat) (r : Int), ru[i]? = some r → -1 ≤ r ∧ r ≤ 15
  next : ∀ (i : Nat) (x : List Int), nx[i]? = some x → ∀ z ∈ x, -1 ≤ z ∧ z < (n : Int)
theorem mx_of {nx : List (List Int)} {ru : List Int} (h : rightD nx ru = true) (h16 : ∀ x ∈ nx, x.length = 16) : Mx nx ru nx.length := by
  obtain ⟨h1, h2, h3, h4, h5⟩ := right_open h
  exact ⟨rfl, h3, h1, h2, h16, h4, h5⟩
section
variable {nx : List (List Int)} {ru : List Int} {n : Nat}
theorem mx_rule (h : Mx nx ru n) {i : Nat} (hi : i < n) : ∃ r, ru[i]? = some r ∧ -1 ≤ r ∧ r ≤ 15 ∧ outc nx ru i [] = r := by
  obtain ⟨r, e⟩ : ∃ r, ru[i]? = some r := ⟨_, List.getElem?_eq_getElem (by rw [h.lr]; exact hi)⟩
  refine ⟨r, e, (h.rule i _ e).1, (h.rule i _ e).2, ?_⟩
  unfold outc
  rw [if_pos (by omega), List.getD_eq_getElem?_getD, show ((i : Nat) : Int).toNat = i by omega, e]; rfl
theorem mx_next (h : Mx nx ru n) {i c : Nat} (hi : i < n) (hc : c < 16) : ∃ row z, nx[i]? = some row ∧ row.length = 16 ∧ row[c]? = some z ∧ -1 ≤ z ∧ z < (n : Int) ∧ stepF nx i c = z := by
  obtain ⟨row, e⟩ : ∃ row, nx[i]? = some row := ⟨_, List.getElem?_eq_getElem (by rw [h.ln]; exact hi)⟩
  have hl := h.row _ (List.mem_of_getElem? e)
  obtain ⟨z, e2⟩ : ∃ z, row[c]? = some z := ⟨_, List.getElem?_eq_getElem (by rw [hl]; exact hc)⟩
  have hz := h.next i _ e _ (List.mem_of_getElem? e2)
  exact ⟨row, z, e, hl, e2, hz.1, hz.2, dstep_in e e2 hc⟩
theorem step_in8 (h : Mx nx ru n) (a : Int) (ha : a < (n : Int)) (c : Nat) : stepF nx a c < (n : Int) := by
  by_cases h0 : 0 ≤ a
  · by_cases hc : c < 16
    · obtain ⟨_, z, _, _, _, _, hz, e⟩ := mx_next h (i := a.toNat) (c := c) (by omega) hc
      rw [show ((a.toNat : Nat) : Int) = a by omega] at e
      rw [e]; exact hz
    · rw [step_far (by omega)]; omega
  · unfold stepF
    rw [if_neg (by omega)]; omega

/-- Marks of states that have an outcome. -/
def Sound (nx : List (List Int)) (ru : List Int) (n : Nat) (g : Nat → Bool) : Prop := ∀ i, i < n → g i = true → Live nx ru i
/-- .. of just these. -/
def IsLive (nx : List (List Int)) (ru : List Int) (n : Nat) (g : Nat → Bool) : Prop := ∀ i, i < n → (g i = true ↔ Live nx ru i)
/-- What a round has told of a state: by its rule, and by the first s - 1 categories. -/
def Cs (nx : List (List Int)) (ru : List Int) (g : Nat → Bool) (i s : Nat) : Prop := g i = false → (0 < s → ∀ r, ru[i]? = some r → r < 0) ∧ ∀ c, c + 1 < s → ∀ t : Nat, stepF nx i c = (t : Int) → g t = false
theorem cls_full (h : Mx nx ru n) {g : Nat → Bool} (hc : ∀ i, i < n → Cs nx ru g i 17) (hs : Sound nx ru n g) : IsLive nx ru n g := by
  have key : ∀ (word : List Nat) (i : Nat), i < n → 0 ≤ outc nx ru i word → g i = true := by
    intro word
    induction word with
    | nil =>
      intro i hi ho
      obtain ⟨r, e, _, _, er⟩ := mx_rule h hi
      rw [er] at ho
      by_cases q : g i = true
      · exact q
      · have := (hc i hi (by simpa using q)).1 (by omega) r e
        omega
    | cons c r ih =>
      intro i hi ho
      have ho' : 0 ≤ outc nx ru (stepF nx i c) r := ho
      by_cases q : g i = true
      · exact q
      · have q' : g i = false := by simpa using q
        by_cases hneg : stepF nx i c < 0
        · rw [out_dead r _ hneg] at ho'; omega
        · obtain ⟨t, ht⟩ : ∃ t : Nat, stepF nx i c = (t : Int) := ⟨(stepF nx i c).toNat, by omega⟩
          have hc16 : c < 16 := by
            rcases Nat.lt_or_ge c 16 with q | q
            · exact q
            · rw [step_far q] at hneg; omega
          have htn : t < n := by have := step_in8 h i (by omega) c; omega
          rw [ht] at ho'
          have h1 := ih t htn ho'
          rw [(hc i hi q').2 c (by omega) t ht] at h1
          cases h1
  exact fun i hi => ⟨hs i hi, fun ⟨w, q⟩ => key w i hi q⟩
theorem cntF_le (g : Nat → Bool) : ∀ k, cntF g k ≤ k
  | 0 => by simp [cntF]
  | k + 1 => by
    have := cntF_le g k
    unfold cntF
    split <;> omega
end
end Go.Proofs.YtbbfjjjnifomgaaGreatDoor.A


