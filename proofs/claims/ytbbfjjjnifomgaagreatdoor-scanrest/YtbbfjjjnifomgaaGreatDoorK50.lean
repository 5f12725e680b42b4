/- The law on cuts, walked. -/
import Derived.Deep.Cut
import Derived.Deep.CutRange
import Derived.WalkKit
import Derived.ProofKit
import Derived.Outline
import Derived.BigQuiet
import Derived.Deep.QuietTactic
import Derived.Below
import Derived.Deep.RegionHeld3
import Derived.OpenShut
import Derived.Deep.Slices
import Derived.Deep.Strs
import Derived.Deep.OwnRows
import Derived.Deep.WholeRow
import Derived.Deep.AppendSrc
import Derived.Deep.Heap
import Derived.Laws.AppendOwnNone
import Derived.Deep.AppendLies
import Derived.Deep.RegionLaw
import Derived.Shelf.Small.Strs
import Derived.Shelf.Strconv.Itoa0
import Derived.Shelf.Strconv.Itoa1
import Derived.Shelf.LaysM
import Derived.Shelf.Strconv.Itoa2
import Derived.Shelf.Strconv.Clone
import Derived.Shelf.Strings.Search1
import Derived.Shelf.Strings.Search2
import Derived.Shelf.Strings.Search3
import Derived.Shelf.Strings.Count
import Derived.Shelf.Strings.Shaped
import Derived.Shelf.Strconv.AppendUint10
import Derived.Shelf.Strconv.AppendInt10
import Derived.Shelf.Strconv.AppendIntPublic10
import Derived.Shelf.Strings.Split
import Derived.Shelf.Strings.SplitShaped
import Derived.Shelf.Bits.Mul64
import Derived.Shelf.Unicode.DecodeSlow
import Derived.Ground.Names2Prog
import Derived.Shelf.Slices.Clone
import Derived.Ground.SlgnProg
import Derived.Shelf.SlicesE.Clone
import Derived.Laws.IdiomStrings
import Derived.Laws.BytesArg
import Derived.Maps.OwnSet
import Derived.Maps.OwnOps
import Derived.Deep.MidRow
import Derived.WalkLawsBesides
import Derived.Laws.AppendOwn
import Derived.Laws.OwnMore
import Derived.OwnWalk
import Derived.Defers
import Derived.Recover
import Derived.Lib.SplitLaws
import Derived.Lib.LaidTab
import Derived.WalkSpells
import Derived.DeepKeys5
import Derived.Maps.AppendAt
import Derived.Maps.RangeWalk
import Derived.LaidMore
import Derived.HandedShaped
import Derived.Shelf.Vars
import Derived.MakeChecks
import Derived.Stop.LaidErr
import Derived.Maps.Keyed
import Derived.Laws.Tables
import Derived.Laws.Rows
import Derived.Laws.CopyOwn
import Derived.Deep.LoopGhost
import Derived.BigRegion
import Derived.Laws.Pointers
import Derived.Laws.LoneSync
import Derived.RegionTactic
import Derived.RegionCalls
import Derived.ChangeAlike
import Derived.Laws.NewBlocks
import Derived.Test.YtbbfjjjnifomgaaGreatDoorK1
import Derived.Test.YtbbfjjjnifomgaaGreatDoorK4
import Derived.Test.YtbbfjjjnifomgaaGreatDoorK8
import Derived.Test.YtbbfjjjnifomgaaGreatDoorK11
import Derived.Test.YtbbfjjjnifomgaaGreatDoorK13
import Derived.Test.YtbbfjjjnifomgaaGreatDoorK20
import Derived.Test.YtbbfjjjnifomgaaGreatDoorK23
import Derived.Test.YtbbfjjjnifomgaaGreatDoorK24
import Derived.Test.YtbbfjjjnifomgaaGreatDoorK26
import Derived.Test.YtbbfjjjnifomgaaGreatDoorK27
import Derived.Test.YtbbfjjjnifomgaaGreatDoorK29
import Derived.Test.YtbbfjjjnifomgaaGreatDoorK33
import Derived.Test.YtbbfjjjnifomgaaGreatDoorK39
import Derived.Test.YtbbfjjjnifomgaaGreatDoorK41
import Derived.Test.YtbbfjjjnifomgaaGreatDoorK43
import Derived.Test.YtbbfjjjnifomgaaGreatDoorK45
import Derived.Test.YtbbfjjjnifomgaaGreatDoorK49
namespace Go.Proofs.YtbbfjjjnifomgaaGreatDoor.A
open Go.RowKit
set_option linter.unusedVariables false

/-- The law's own way to see whether pieces are whole. -/
def whlF (b : Bool) (x : Int) : List Pc → Bool × Int
  | [] => (b, x)
  | p :: l => whlF ((b && p.f == x) && decide (x < p.t)) p.t l
theorem whl_no : ∀ (l : List Pc) (x m : Int), ((whlF false x l).1 && (whlF false x l).2 == m) = false
  | [], x, m => rfl
  | p :: l, x, m => whl_no l p.t m
theorem whl_whole : ∀ (l : List Pc) (x m : Int), ((whlF true x l).1 && (whlF true x l).2 == m) = wholeF x l m
  | [], x, m => by simp [whlF, wholeF]
  | p :: l, x, m => by
    unfold whlF wholeF
    by_cases h1 : p.f = x
    · by_cases h2 : x < p.t
      · have e : ((true && p.f == x) && decide (x < p.t)) = true := by simp [h1, h2]
        have e2 : (!(p.f != x || decide (p.t ≤ x))) = true := by simp [h1]; omega
        rw [e, e2, Bool.true_and]
        exact whl_whole l p.t m
      · have e : ((true && p.f == x) && decide (x < p.t)) = false := by simp [h2]
        have e2 : (!(p.f != x || decide (p.t ≤ x))) = false := by simp [h1]; omega
        rw [e, e2, Bool.false_and]
        exact whl_no l p.t m
    · have e : ((true && p.f == x) && decide (x < p.t)) = false := by simp [h1]
      have e2 : (!(p.f != x || decide (p.t ≤ x))) = false := by simp [h1]
      rw [e, e2, Bool.false_and]
      exact whl_no l p.t m
theorem whole_cut {lg : Nat → Int × Int} {len : Nat} (h : LgOk lg len) : wholeF 0 (cutW lg len) (len : Int) = true := by
  have h2 := cut_whole h
  revert h2
  generalize cutW lg len = l
  have key : ∀ (l : List Pc) (a b : Int), Chn a l b → wholeF a l b = true := by
    intro l
    induction l with
    | nil => intro a b h; unfold Chn at h; unfold wholeF; simpa using h
    | cons p l ih =>
      intro a b h
      unfold Chn at h
      unfold wholeF
      have h3 := ih p.t b (by first | exact h.2.2 | exact h.2)
      rw [h3, Bool.and_true]
      simp
      first | (have q1 := h.1; have q2 := h.2.1; omega) | (have q1 := h.1; omega)
  exact key l 0 len

set_option maxRecDepth 100000 in
set_option maxHeartbeats 6400000 in
theorem walkCuts (a0 a1 : Option Addr) (n0 n1 c0 c1 : Nat) (nx : List (List Int)) (ru : List Int) (a : Option Addr) (len cap : Nat) (word : List Int) (b : Option Addr) (n cb : Nat) (zs : List Pc) (long m : Int) (w : World) (hm : w.cell? ⟨0, 0, none⟩ = some (.int .i64 m)) (ht : Tab w.heap.size w)
    (hd : Dm w a0 a1 n0 n1 nx ru) (hW : Wd w a word) (hz : word.length = len) (hl : len ≤ cap) (hc : cap ≤ maxLen) (hS : SegP w b zs) (hn : zs.length = n) (hnc : n ≤ cb) (hcb : cb ≤ maxLen) :
    Calls Tryz.prog 3 #[.agg #[.slice a0 n0 c0, .slice a1 n1 c1], .slice a len cap, .slice b n cb, .int .i64 long] w fun e w' => e = .returned (.bool true) ∧ Below w.heap.size w w' := by
  have hb0 := (Below.refl w.heap.size w).alloc (Nat.le_refl _) (.cells #[.slice a0 n0 c0, .slice a1 n1 c1] 25)
  have HB0 := hide hb0
  have HD := hide (dm_below' hb0 hd)
  have HW := hide (wd_below hb0 hW)
  have HS := hide (segP_below hb0 hS)
  have HM := hide ((hb0.cell (p := ⟨0, 0, none⟩) (cell_lt hm)).trans hm)
  have HT := hide (tab_up (tab_on ht hb0) hb0.size)
  have HBX := hide (heap_alloc_last w (.cells #[.slice a0 n0 c0, .slice a1 n1 c1] 25))
  have HSZ := hide (show (w.alloc (.cells #[.slice a0 n0 c0, .slice a1 n1 c1] 25)).heap.size = w.heap.size + 1 by simp)
  have HZ := hide hz
  have HN := hide hn
  clear hb0 hd hW hS hm ht hz hn
  go_enter Tryz.func3, Tryz.ntmps3
  go_wp2_with fail
  generalize w.alloc (.cells #[.slice a0 n0 c0, .slice a1 n1 c1] 25) = W at *
  refine (alive_any9 m W HM.out HT.out).mono ?_
  rintro e w1 ⟨rfl, hb1⟩
  have HB1 := hide (HB0.out.trans (hb1.mono (by rw [HSZ.out]; omega)))
  have HD1 := hide (dm_below' hb1 HD.out)
  have HW1 := hide (wd_below hb1 HW.out)
  have HS1 := hide (segP_below hb1 HS.out)
  have HX1 := hide ((hb1.block w.heap.size (by rw [HSZ.out]; omega)).trans HBX.out)
  obtain ⟨B, hB⟩ : ∃ B, w.heap.size = B := ⟨_, rfl⟩
  rw [hB] at HX1 HB1 ⊢
  have HBB := hide hB
  have HQ1 := hide (show B < w1.heap.size from (Array.getElem?_eq_some_iff.1 HX1.out).1)
  clear hb1 HM HT HD HW HS HBX HSZ HB0 hB
  obtain ⟨p0, p1, -⟩ := d_cells HX1.out
  by_cases h1 : 300 < n0
  · have d1 : decide ((300 : Int) < (n0 : Int)) = true := by simp; omega
    clear h1
    go_wp2
    go_ret
    exact ⟨rfl, by first | exact HB1.out | (rw [HBB.out]; exact HB1.out)⟩
  have d1 : decide ((300 : Int) < (n0 : Int)) = false := by simp; omega
  by_cases h2 : 200 < len
  · have d2 : decide ((200 : Int) < (len : Int)) = true := by simp; omega
    clear h1 h2
    go_wp2
    go_ret
    exact ⟨rfl, by first | exact HB1.out | (rw [HBB.out]; exact HB1.out)⟩
  have d2 : decide ((200 : Int) < (len : Int)) = false := by simp; omega
  by_cases h3 : 200 < n
  · have d3 : decide ((200 : Int) < (n : Int)) = true := by simp; omega
    clear h1 h2 h3
    go_wp2
    go_ret
    exact ⟨rfl, by first | exact HB1.out | (rw [HBB.out]; exact HB1.out)⟩
  have d3 : decide ((200 : Int) < (n : Int)) = false := by simp; omega
  have hn200 : n ≤ 200 := by omega
  have hl200 : len ≤ 200 := by omega
  clear h1 h2 h3
  have HCUT := hide (show ∃ ps : List Pc, ps.length ≤ 200 ∧ ((rightD nx ru = false ∧ ps = []) ∨ (rightD nx ru = true ∧ ps = cutW (fun a => longR nx ru word (a : Int)) len ∧ wholeF 0 ps (len : Int) = true)) ∧ Calls Tryz.prog 8 #[.agg #[.slice a0 n0 c0, .slice a1 n1 c1], .slice a len cap] w1 fun e w' => ∃ pa pc, e = .returned (.slice pa ps.length pc) ∧ SegP w' pa ps ∧ Below w1.heap.size w1 w' from by
    cases hr : rightD nx ru with
    | false => exact ⟨[], by simp, .inl ⟨rfl, rfl⟩, (cut_no a0 a1 n0 n1 c0 c1 nx ru a len cap w1 HD1.out hr).mono fun e w' ⟨he, hb⟩ => ⟨none, 0, he, fun i p hp => by simp at hp, hb⟩⟩
    | true =>
      have hlo : LgOk (fun a => longR nx ru word (a : Int)) len := by have h := long_ok nx ru word; rw [HZ.out] at h; exact h
      refine ⟨cutW (fun a => longR nx ru word (a : Int)) len, by have := cut_count hlo len 0; unfold cutW; omega, .inr ⟨rfl, rfl, whole_cut hlo⟩, (cut_any a0 a1 n0 n1 c0 c1 nx ru a len cap word w1 HD1.out hr HZ.out hl hc (by omega) HW1.out _ (fun _ => rfl)).mono fun e w' ⟨v, he, ho, hb⟩ => ?_⟩
      obtain ⟨pa, pc, rfl, hseg⟩ := own_segP ho rfl
      exact ⟨pa, pc, he, hseg, hb⟩)
  obtain ⟨ps, hpl, hcase, hcall⟩ := HCUT.out
  have HC := hide hcall
  have HCS := hide hcase
  clear HCUT hcall hcase
  go_wp2_with fail
  refine HC.out.mono ?_
  rintro e w2 ⟨pa, pc, rfl, hseg, hb2⟩
  have HB2 := hide (HB1.out.trans (hb2.mono (by have := HQ1.out; omega)))
  have HD2 := hide (dm_below' hb2 HD1.out)
  have HW2 := hide (wd_below hb2 HW1.out)
  have HS2 := hide (segP_below hb2 HS1.out)
  have HX2 := hide ((hb2.block B HQ1.out).trans HX1.out)
  have HP2 := hide hseg
  have HQ2 := hide (show B < w2.heap.size by have := hb2.size; have := HQ1.out; omega)
  clear hb2 hseg HC p0 p1
  go_wp2_with fail
  go_loopw [10, 11, 12] (fun x v i wr => ∃ (k : Nat) (y : Int) (g : Bool), k ≤ n ∧ i = .int .i64 k ∧ x = .int .i64 y ∧ v = .bool g ∧ whlF g y (zs.drop k) = whlF true 0 zs ∧ Below w2.heap.size w2 wr) (fun _ _ i _ => n - (intOf i).toNat)
  case atStart => exact ⟨0, 0, true, Nat.zero_le _, rfl, rfl, rfl, rfl, Below.refl _ _⟩
  case round =>
    obtain ⟨k, y, g, hk, rfl, rfl, rfl, hrun, hb⟩ := hrel
    have HRUN := hide hrun
    have HBW := hide hb
    clear hrun hb
    by_cases hlt : k < n
    · obtain ⟨p, hp⟩ : ∃ p, zs[k]? = some p := ⟨_, List.getElem?_eq_getElem (by rw [HN.out]; exact hlt)⟩
      obtain ⟨bb, o1, rfl, q0, q1, q2⟩ := segP_below HBW.out HS2.out k p hp
      have HNX := hide (show whlF ((g && p.f == y) && decide (y < p.t)) p.t (zs.drop (k + 1)) = whlF true 0 zs from by have := HRUN.out; rw [drop_get hp] at this; exact this)
      have i3 : (0 : Int) ≤ (k : Int) := by omega
      have i4 : (k : Int) < (n : Int) := by omega
      obtain ⟨pf, pt, pr⟩ := p
      clear hp HRUN
      cases g with
      | false =>
        go_wp2
        go_roundw
        case rel => exact ⟨k + 1, pt, false, by omega, by go_num, rfl, rfl, HNX.out, HBW.out⟩
        case measure => simp [intOf]; omega
      | true =>
        cases x1 : (pf == y)
        · go_wp2
          go_roundw
          case rel => exact ⟨k + 1, pt, false, by omega, by go_num, rfl, rfl, by have := HNX.out; simp only [x1] at this; exact this, HBW.out⟩
          case measure => simp [intOf]; omega
        · cases x2 : decide (y < pt)
          · go_wp2
            go_roundw
            case rel => exact ⟨k + 1, pt, false, by omega, by go_num, rfl, rfl, by have := HNX.out; simp only [x1, x2] at this; exact this, HBW.out⟩
            case measure => simp [intOf]; omega
          · go_wp2
            go_roundw
            case rel => exact ⟨k + 1, pt, true, by omega, by go_num, rfl, rfl, by have := HNX.out; simp only [x1, x2] at this; exact this, HBW.out⟩
            case measure => simp [intOf]; omega
    · have e : k = n := by omega
      subst e
      have hend := HRUN.out
      rw [List.drop_of_length_le (by have := HN.out; omega)] at hend
      have HWH := hide (show (g && y == long) = wholeF 0 zs long from by rw [← whl_whole zs 0 long, ← hend]; rfl)
      clear HRUN hend
      go_wp2_with fail
      refine (whole_any b k cb zs long wr HN.out (by unfold maxLen at *; omega) (segP_below HBW.out HS2.out)).mono ?_
      rintro e w3 ⟨rfl, hb3⟩
      rw [← HWH.out]
      have HX := hide (HBW.out.trans (hb3.mono HBW.out.size))
      have HB3 := hide (HB2.out.trans (HX.out.mono (by have := HQ2.out; omega)))
      have hx3 := (HX.out.block B HQ2.out).trans HX2.out
      obtain ⟨p0, p1, -⟩ := d_cells hx3
      have HX3 := hide hx3
      clear hb3 hx3
      have bne : ∀ t : Bool, (t != t) = false := fun t => by cases t <;> rfl
      have hg : ∃ t : Bool, (g && y == long) = t := ⟨_, rfl⟩
      obtain ⟨t, ht⟩ := hg
      rw [ht]
      have hgt : (g = false ∧ t = false) ∨ (g = true ∧ (y == long) = t) := by
        cases g
        · left; exact ⟨rfl, by rw [← ht]; rfl⟩
        · right; exact ⟨rfl, by rw [← ht]; rfl⟩
      have bnt := bne t
      clear ht HWH
      have HEND := hide HCS.out
      rcases hgt with ⟨rfl, rfl⟩ | ⟨rfl, hyl⟩
      all_goals
        go_wp2_with fail
        refine (rright_any7 a0 a1 n0 n1 c0 c1 nx ru w3 (dm_below' HX.out HD2.out)).mono ?_
        rintro e w4 ⟨rfl, hb4⟩
        have HX4 := hide (HX.out.trans (hb4.mono HX.out.size))
        have HB4 := hide (HB2.out.trans (HX4.out.mono (by have := HQ2.out; omega)))
        have hx4 := (HX4.out.block B HQ2.out).trans HX2.out
        clear hb4 p0 p1
        obtain ⟨p0, p1, -⟩ := d_cells hx4
        have HX4b := hide hx4
        clear hx4
        rcases HEND.out with ⟨hr, rfl⟩ | ⟨hr, hps, hwh⟩
        · rw [hr]
          go_wp2
          go_ret
          exact ⟨rfl, by first | exact HB4.out | (rw [HBB.out]; exact HB4.out)⟩
        · rw [hr]
          have HR := hide hr
          have HPS := hide hps
          have HWH2 := hide hwh
          clear hr hps hwh
          go_wp2_with fail
          refine (rcut_any a0 a1 n0 n1 c0 c1 nx ru a len cap word w4 (dm_below' HX4.out HD2.out) HR.out HZ.out hl hc (by omega) (wd_below HX4.out HW2.out) (fun a => longR nx ru word (a : Int)) (fun _ => rfl)).mono ?_
          rintro e w5 ⟨v5, rfl, hown5, hb5⟩
          rw [← HPS.out] at hown5
          obtain ⟨qa, qc, rfl, hseg5⟩ := own_segP hown5 rfl
          have HS5 := hide hseg5
          have HX5 := hide (HX4.out.trans (hb5.mono HX4.out.size))
          clear hown5 hb5 hseg5 p0 p1
          go_wp2_with fail
          refine (rsame_any9 pa qa _ _ pc qc ps ps w5 rfl rfl (by unfold maxLen; omega) (by unfold maxLen; omega) (segP_below HX5.out HP2.out) HS5.out).mono ?_
          rintro e w6 ⟨rfl, hb6⟩
          rw [(sameP_iff ps ps).2 rfl]
          have HX6 := hide (HX5.out.trans (hb6.mono HX5.out.size))
          clear hb6
          go_wp2_with fail
          refine (whole_any pa _ pc ps (len : Int) w6 rfl (by unfold maxLen; omega) (segP_below HX6.out HP2.out)).mono ?_
          rintro e w7 ⟨rfl, hb7⟩
          rw [HWH2.out]
          have HX7 := hide (HB2.out.trans ((HX6.out.trans (hb7.mono HX6.out.size)).mono (by have := HQ2.out; omega)))
          clear hb7
          go_wp2
          go_ret
          exact ⟨rfl, by first | exact HX7.out | (rw [HBB.out]; exact HX7.out)⟩
end Go.Proofs.YtbbfjjjnifomgaaGreatDoor.A

