/- The program's pieces: Whole, a piece from a place, Cut. -/
import Derived.OpenShut
import Derived.Lib.LaidTab
import Derived.Below
import Derived.Outline
import Derived.Deep.Heap
import Derived.Deep.OwnRows
import Derived.Deep.QuietTactic
import Derived.Deep.Slices
import Derived.ProofKit
import Derived.WalkKit
import Derived.WalkSpells
import Derived.WalkLawsBesides
import Derived.Deep.WholeRow
import Derived.Deep.MidRow
import Derived.DeepKeys5
import Derived.Maps.OwnSet
import Derived.Maps.OwnOps
import Derived.Maps.AppendAt
import Derived.Maps.RangeWalk
import Derived.Deep.RegionLaw
import Derived.Deep.Cut
import Derived.Deep.CutRange
import Derived.Deep.RegionHeld3
import Derived.Deep.AppendLies
import Derived.BigQuiet
import Derived.Deep.Strs
import Derived.Deep.AppendSrc
import Derived.Laws.AppendOwnNone
import Derived.Laws.AppendOwn
import Derived.Shelf.Small.Strs
import Derived.Shelf.Strconv.Itoa0
import Derived.Shelf.Strconv.Itoa1
import Derived.Shelf.LaysM
import Derived.Shelf.Strconv.Itoa2
import Derived.Shelf.Strconv.Clone
import Derived.Shelf.Strings.Search1
import Derived.Shelf.Strings.Search2
import Derived.Shelf.Strings.Search3
import Derived.Shelf.Strings.Count
import Derived.Shelf.Strings.Shaped
import Derived.Shelf.Strconv.AppendUint10
import Derived.Shelf.Strconv.AppendInt10
import Derived.Shelf.Strconv.AppendIntPublic10
import Derived.Shelf.Strings.Split
import Derived.Shelf.Strings.SplitShaped
import Derived.Shelf.Bits.Mul64
import Derived.Shelf.Unicode.DecodeSlow
import Derived.Ground.Names2Prog
import Derived.Shelf.Slices.Clone
import Derived.Ground.SlgnProg
import Derived.Shelf.SlicesE.Clone
import Derived.Laws.IdiomStrings
import Derived.Laws.BytesArg
import Derived.LaidMore
import Derived.HandedShaped
import Derived.Shelf.Vars
import Derived.MakeChecks
import Derived.Stop.LaidErr
import Derived.Laws.OwnMore
import Derived.OwnWalk
import Derived.Defers
import Derived.Recover
import Derived.Lib.SplitLaws
import Derived.Maps.Keyed
import Derived.Laws.Tables
import Derived.Laws.Rows
import Derived.Laws.CopyOwn
import Derived.Deep.LoopGhost
import Derived.Test.YtbbfjjjnifomgaaGreatDoorK1
import Derived.Test.YtbbfjjjnifomgaaGreatDoorK4
import Derived.Test.YtbbfjjjnifomgaaGreatDoorK8
import Derived.Test.YtbbfjjjnifomgaaGreatDoorK11
import Derived.Test.YtbbfjjjnifomgaaGreatDoorK13
import Derived.Test.YtbbfjjjnifomgaaGreatDoorK20
import Derived.Test.YtbbfjjjnifomgaaGreatDoorK24
import Derived.Test.YtbbfjjjnifomgaaGreatDoorK25
import Derived.Test.YtbbfjjjnifomgaaGreatDoorK26
import Derived.Test.YtbbfjjjnifomgaaGreatDoorK29
import Derived.Test.YtbbfjjjnifomgaaGreatDoorK39
import Derived.Test.YtbbfjjjnifomgaaGreatDoorK41
namespace Go.Proofs.YtbbfjjjnifomgaaGreatDoor.A
open Go.RowKit
set_option linter.unusedVariables false

/-- Are pieces, one behind the other, all up to a place? -/
def wholeF : Int → List Pc → Int → Bool
  | a, [], m => a == m
  | a, p :: l, m => !(p.f != a || decide (p.t ≤ a)) && wholeF p.t l m

theorem drop_get {α : Type} {l : List α} {i : Nat} {x : α} (h : l[i]? = some x) : l.drop i = x :: l.drop (i + 1) := by
  obtain ⟨hi, e⟩ := List.getElem?_eq_some_iff.1 h
  rw [List.drop_eq_getElem_cons hi, e]

set_option maxRecDepth 100000 in
set_option maxHeartbeats 1600000 in
theorem whole_any (a : Option Addr) (n c : Nat) (l : List Pc) (m : Int) (w : World) (h1 : l.length = n) (hn : n ≤ maxLen) (hA : SegP w a l) :
    Calls Tryz.prog 9 #[.slice a n c, .int .i64 m] w fun e w' => e = .returned (.bool (wholeF 0 l m)) ∧ Below w.heap.size w w' := by
  have H1 := hide h1
  have HA := hide hA
  unfold maxLen at hn
  clear h1 hA
  go_enter Tryz.func9, Tryz.ntmps9
  go_wp2_with fail
  go_loopw [5, 10] (fun u i wr => ∃ (k : Nat) (x : Int), k ≤ n ∧ i = .int .i64 k ∧ u = .int .i64 x ∧ wholeF x (l.drop k) m = wholeF 0 l m ∧ Below w.heap.size w wr) (fun _ i _ => n - (intOf i).toNat)
  case atStart => exact ⟨0, 0, Nat.zero_le _, rfl, rfl, rfl, Below.refl _ _⟩
  case round =>
    obtain ⟨k, x, hk, rfl, rfl, hsm, hb⟩ := hrel
    have HSM := hide hsm
    have HBW := hide hb
    clear hsm hb
    by_cases hlt : k < n
    · obtain ⟨p, hp⟩ : ∃ p, l[k]? = some p := ⟨_, List.getElem?_eq_getElem (by rw [H1.out]; exact hlt)⟩
      obtain ⟨b1, o1, rfl, c0, c1, c2⟩ := segP_below HBW.out HA.out k p hp
      have i3 : (0 : Int) ≤ (k : Int) := by omega
      have i4 : (k : Int) < (n : Int) := by omega
      have HD := hide (drop_get hp)
      obtain ⟨pf, pt, pr⟩ := p
      have HB1 := hide (HBW.out.alloc HBW.out.size (.cells #[.int .i64 pf, .int .i64 pt, .int .i64 pr] 30))
      have HN := hide (show (!(pf != x || decide (pt ≤ x)) && wholeF pt (l.drop (k + 1)) m) = wholeF 0 l m from by have := HSM.out; rw [HD.out] at this; exact this)
      clear hp HSM HD
      cases x1 : (pf != x)
      · by_cases x2 : pt ≤ x
        · have d2 : decide (pt ≤ x) = true := by simp [x2]
          have HR := hide (show wholeF 0 l m = false by rw [← HN.out, x1, d2]; rfl)
          clear HN
          go_wp2
          go_ret
          exact ⟨by rw [HR.out]; rfl, HB1.out⟩
        · have d2 : decide (pt ≤ x) = false := by simp [x2]
          have HR := hide (show wholeF pt (l.drop (k + 1)) m = wholeF 0 l m by rw [← HN.out, x1, d2]; rfl)
          clear HN
          go_wp2
          go_roundw
          case rel => exact ⟨k + 1, pt, by omega, by go_num, rfl, HR.out, HB1.out⟩
          case measure => simp [intOf]; omega
      · have HR := hide (show wholeF 0 l m = false by rw [← HN.out, x1]; rfl)
        clear HN
        go_wp2
        go_ret
        exact ⟨by rw [HR.out]; rfl, HB1.out⟩
    · have e : k = n := by omega
      subst e
      have HR := hide (show (x == m) = wholeF 0 l m by rw [← HSM.out, List.drop_of_length_le (by have := H1.out; omega)]; rfl)
      clear HSM
      go_wp2
      go_ret
      exact ⟨by rw [← HR.out]; rfl, HBW.out⟩

theorem lg_two {nx : List (List Int)} {ru word : List Int} {f : Int} : ∀ k : Nat, lgF nx ru word f k = (-1, -1) ∨ (f < (lgF nx ru word f k).1 ∧ (lgF nx ru word f k).2 ≠ -1)
  | 0 => .inl rfl
  | k + 1 => by
    unfold lgF
    by_cases c : 0 ≤ runF nx word (k + 1) ∧ ru.getD (runF nx word (k + 1)).toNat 0 ≠ -1
    · rw [if_pos c]
      right
      exact ⟨by show f < f + (k : Int) + 1; omega, c.2⟩
    · rw [if_neg c]
      exact lg_two k
theorem long_two (nx : List (List Int)) (ru word : List Int) (a : Nat) : longR nx ru word (a : Int) = (-1, -1) ∨ (0 < (longR nx ru word (a : Int)).1 ∧ (longR nx ru word (a : Int)).2 ≠ -1) := by
  unfold longR
  split
  · rcases lg_two (nx := nx) (ru := ru) (word := word.drop ((a : Nat) : Int).toNat) (f := (a : Int)) (word.length - ((a : Nat) : Int).toNat) with q | q
    · exact .inl q
    · exact .inr ⟨by have := q.1; omega, q.2⟩
  · exact .inl rfl

theorem set3P {w : World} {q : Nat} {a b c : Value} {t : TypeId} (h : w.heap[q]? = some (.cells #[a, b, c] t (0, 0))) (x y z : Value) : (((w.setCell ⟨q, 0, none⟩ x).setCell ⟨q, 1, none⟩ y).setCell ⟨q, 2, none⟩ z).heap[q]? = some (.cells #[x, y, z] t (0, 0)) := by
  rw [blk_set (blk_set (blk_set h 0 x) 1 y) 2 z]; rfl

set_option maxRecDepth 100000 in
set_option maxHeartbeats 1600000 in
theorem piece_any (a0 a1 : Option Addr) (n0 n1 c0 c1 : Nat) (nx : List (List Int)) (ru : List Int) (a : Option Addr) (len cap : Nat) (word : List Int) (x : Nat) (w : World) (hm : Dm w a0 a1 n0 n1 nx ru) (hz : word.length = len) (hl : len ≤ cap) (hc : cap ≤ maxLen) (hx : x ≤ 100000) (hW : Wd w a word) (p : Pc) (hp : pieceF (longR nx ru word (x : Int)) x = p) :
    Calls Tryz.prog 29 #[.agg #[.slice a0 n0 c0, .slice a1 n1 c1], .slice a len cap, .int .i64 x] w fun e w' => e = .returned (.agg #[.int .i64 p.f, .int .i64 p.t, .int .i64 p.r]) ∧ Below w.heap.size w w' := by
  have hb0 := ((Below.refl w.heap.size w).alloc (Nat.le_refl _) (.cells #[.slice a0 n0 c0, .slice a1 n1 c1] 25)).alloc (by simp) (.cells #[.int .i64 0, .int .i64 0, .int .i64 0] 30)
  have HB0 := hide hb0
  have HM := hide (dm_below' hb0 hm)
  have HW := hide (wd_below hb0 hW)
  have hs : ((w.alloc (.cells #[.slice a0 n0 c0, .slice a1 n1 c1] 25)).alloc (.cells #[.int .i64 0, .int .i64 0, .int .i64 0] 30)).heap.size = w.heap.size + 2 := by simp
  have hbx := heap_alloc_last (w.alloc (.cells #[.slice a0 n0 c0, .slice a1 n1 c1] 25)) (.cells #[.int .i64 0, .int .i64 0, .int .i64 0] 30)
  rw [show (w.alloc (.cells #[.slice a0 n0 c0, .slice a1 n1 c1] 25)).heap.size = w.heap.size + 1 by simp] at hbx
  have HBX := hide hbx
  have HS := hide hs
  have HZ := hide hz
  have HP := hide hp
  have HT := hide (long_two nx ru word x)
  clear hb0 hm hW hz hbx hs hp
  go_enter Tryz.func29, Tryz.ntmps29
  go_wp2_with fail
  generalize (w.alloc (.cells #[.slice a0 n0 c0, .slice a1 n1 c1] 25)).alloc (.cells #[.int .i64 0, .int .i64 0, .int .i64 0] 30) = W at *
  refine (dlong_any a0 a1 n0 n1 c0 c1 nx ru a len cap word (x : Int) W HM.out HZ.out hl hc HW.out).mono ?_
  rintro e w2 ⟨rfl, hb2⟩
  have hq2 := (hb2.block (w.heap.size + 1) (by rw [HS.out]; omega)).trans HBX.out
  have HB2 := hide (HB0.out.trans (hb2.mono (by rw [HS.out]; omega)))
  have HH2 := hide hq2
  obtain ⟨g0, g1, g2, gz⟩ := p_cells hq2
  have z0 := gz 0
  have z1 := gz 1
  have z2 := gz 2
  have HQ := hide (show w.heap.size ≤ w.heap.size + 1 by omega)
  generalize w.heap.size + 1 = q at *
  obtain ⟨le, lr, hle⟩ : ∃ a b, longR nx ru word (x : Int) = (a, b) := ⟨_, _, rfl⟩
  rw [hle] at HT HP ⊢
  clear gz hq2 hb2 hle
  by_cases h0 : lr = -1
  · have d0 : (lr == -1) = true := by simp [h0]
    have hlt : ¬ 0 < le := by
      rcases HT.out with q | q
      · have := congrArg Prod.fst q; simp only at this; omega
      · exact absurd h0 q.2
    have HPE := hide (show p = ⟨(x : Int), (x : Int) + 1, -1⟩ by rw [← HP.out]; unfold pieceF; rw [if_neg hlt])
    subst h0
    clear HT HP hlt
    go_wp2
    obtain ⟨m0, m1, m2, -⟩ := p_cells (set3P HH2.out (.int .i64 (x : Int)) (.int .i64 ((x : Int) + 1)) (.int .i64 (-1)))
    refine bodyPost_ret (v := .agg #[.int .i64 (x : Int), .int .i64 ((x : Int) + 1), .int .i64 (-1)]) (by simp [results, Tryz.results29, go_sem, m0, m1, m2]) rfl ?_
    exact ⟨by rw [HPE.out], ((HB2.out.setCell (p := ⟨q, 0, none⟩) HQ.out _).setCell (p := ⟨q, 1, none⟩) HQ.out _).setCell (p := ⟨q, 2, none⟩) HQ.out _⟩
  · have d0 : (lr == -1) = false := by simp [h0]
    have hlt : 0 < le := by
      rcases HT.out with q | q
      · exact absurd (congrArg Prod.snd q) h0
      · exact q.1
    have HPE := hide (show p = ⟨(x : Int), le, lr⟩ by rw [← HP.out]; unfold pieceF; rw [if_pos hlt])
    clear HT HP hlt h0
    go_wp2
    obtain ⟨m0, m1, m2, -⟩ := p_cells (set3P HH2.out (.int .i64 (x : Int)) (.int .i64 le) (.int .i64 lr))
    refine bodyPost_ret (v := .agg #[.int .i64 (x : Int), .int .i64 le, .int .i64 lr]) (by simp [results, Tryz.results29, go_sem, m0, m1, m2]) rfl ?_
    exact ⟨by rw [HPE.out], ((HB2.out.setCell (p := ⟨q, 0, none⟩) HQ.out _).setCell (p := ⟨q, 1, none⟩) HQ.out _).setCell (p := ⟨q, 2, none⟩) HQ.out _⟩

theorem cut_no (a0 a1 : Option Addr) (n0 n1 c0 c1 : Nat) (nx : List (List Int)) (ru : List Int) (a : Option Addr) (len cap : Nat) (w : World) (hm : Dm w a0 a1 n0 n1 nx ru) (hr : rightD nx ru = false) :
    Calls Tryz.prog 8 #[.agg #[.slice a0 n0 c0, .slice a1 n1 c1], .slice a len cap] w fun e w' => e = .returned (.slice none 0 0) ∧ Below w.heap.size w w' := by
  have hb0 := (Below.refl w.heap.size w).alloc (Nat.le_refl _) (.cells #[.slice a0 n0 c0, .slice a1 n1 c1] 25)
  have HB0 := hide hb0
  have HM := hide (dm_below' hb0 hm)
  have HR := hide hr
  clear hb0 hm hr
  go_enter Tryz.func8, Tryz.ntmps8
  go_wp2_with fail
  refine (dright_any a0 a1 n0 n1 c0 c1 nx ru _ HM.out.l0 HM.out.l1 HM.out.dr HM.out.wd HM.out.m0 HM.out.m1).mono ?_
  rintro e w1 ⟨rfl, hb1⟩
  rw [HR.out]
  have HB1 := hide (HB0.out.trans (hb1.mono (by simp)))
  clear hb1
  go_wp2
  go_ret
  exact ⟨rfl, HB1.out⟩

set_option maxRecDepth 100000 in
set_option maxHeartbeats 3200000 in
theorem cut_any (a0 a1 : Option Addr) (n0 n1 c0 c1 : Nat) (nx : List (List Int)) (ru : List Int) (a : Option Addr) (len cap : Nat) (word : List Int) (w : World) (hm : Dm w a0 a1 n0 n1 nx ru) (hr : rightD nx ru = true) (hz : word.length = len) (hl : len ≤ cap) (hc : cap ≤ maxLen) (hl2 : len ≤ 100000) (hW : Wd w a word) (lg : Nat → Int × Int) (hlg : ∀ a : Nat, longR nx ru word (a : Int) = lg a) :
    Calls Tryz.prog 8 #[.agg #[.slice a0 n0 c0, .slice a1 n1 c1], .slice a len cap] w fun e w' => ∃ v, e = .returned v ∧ w'.ownsRow w.heap.size 30 3 v (cutW lg len).length (cellsP9 (cutW lg len)) ∧ Below w.heap.size w w' := by
  obtain ⟨iP, hiP, hzP, hsP, hbP⟩ := info_parts infoP
  have HBX := hide (heap_alloc_last w (.cells #[.slice a0 n0 c0, .slice a1 n1 c1] 25))
  have hb0 := (Below.refl w.heap.size w).alloc (Nat.le_refl _) (.cells #[.slice a0 n0 c0, .slice a1 n1 c1] 25)
  have HB0 := hide hb0
  have HM := hide (dm_below' hb0 hm)
  have HW := hide (wd_below hb0 hW)
  have HS := hide (show (w.alloc (.cells #[.slice a0 n0 c0, .slice a1 n1 c1] 25)).heap.size = w.heap.size + 1 by simp)
  have HLO := hide (show LgOk lg len from by
    have h := long_ok nx ru word
    rw [show (fun a : Nat => longR nx ru word (a : Int)) = lg from funext hlg, hz] at h
    exact h)
  have HLG := hide hlg
  have HZ := hide hz
  have HR := hide hr
  clear hb0 hm hW hz hr hlg
  go_enter Tryz.func8, Tryz.ntmps8
  go_wp2_with fail
  refine (dright_any a0 a1 n0 n1 c0 c1 nx ru _ HM.out.l0 HM.out.l1 HM.out.dr HM.out.wd HM.out.m0 HM.out.m1).mono ?_
  rintro e w1 ⟨rfl, hb1⟩
  rw [HR.out]
  generalize w.alloc (.cells #[.slice a0 n0 c0, .slice a1 n1 c1] 25) = W1 at *
  have HM1 := hide (dm_below' hb1 HM.out)
  have HW1 := hide (wd_below hb1 HW.out)
  have HBX1 := hide ((hb1.block w.heap.size (by rw [HS.out]; omega)).trans HBX.out)
  have HB1 := hide (HB0.out.trans (hb1.mono (by rw [HS.out]; omega)))
  have HQ1 := hide (show w.heap.size + 1 ≤ w1.heap.size by have := hb1.size; rw [HS.out] at this; exact this)
  clear hb1 HM HW HBX
  obtain ⟨B, hB⟩ : ∃ B, w.heap.size = B := ⟨_, rfl⟩
  rw [hB] at HBX1 HQ1 HB1 ⊢
  have HBB := hide hB
  clear hB
  go_wp2_with fail
  go_loopw [5, 6] (fun v i wr => ∃ (ps : List Pc) (x f : Nat), x ≤ len ∧ len ≤ x + f ∧ ps.length ≤ x ∧ i = .int .i64 x ∧ cutW lg len = ps ++ cutF lg len f x ∧ wr.ownsRow w1.heap.size 30 3 v ps.length (cellsP9 ps) ∧ Below w1.heap.size w1 wr) (fun _ i _ => len - (intOf i).toNat)
  case atStart => exact ⟨[], 0, len, by omega, by omega, by simp, rfl, rfl, World.ownsRow_nil _ _ _ _, Below.refl _ _⟩
  case round =>
    obtain ⟨ps, x, f, hx, hf, hpl, rfl, hcut, hown, hb⟩ := hrel
    have HO := hide hown
    have HBW := hide hb
    have HCUT := hide hcut
    clear hcut hb
    obtain ⟨va, vc, rfl⟩ := own_form hown
    by_cases hlt : x < len
    · obtain ⟨t, ht, ht1, ht2⟩ := piece_to HLO.out hlt
      have HNX := hide (cut_next HLO.out hlt hf ht ht1)
      obtain ⟨p, hp⟩ : ∃ p, pieceF (lg x) x = p := ⟨_, rfl⟩
      rw [hp] at ht HNX
      have HP := hide hp
      have HHT := hide ht
      have h1 := (HBW.out.block B (by have := HQ1.out; omega)).trans HBX1.out
      obtain ⟨p0, p1, -⟩ := d_cells h1
      have HM2 := hide (dm_below' HBW.out HM1.out)
      have HW2 := hide (wd_below HBW.out HW1.out)
      obtain ⟨np, hnp⟩ : ∃ np, ps.length = np := ⟨_, rfl⟩
      have HNP := hide hnp
      rw [hnp] at hpl
      have HO' := hide (show wr.ownsRow w1.heap.size 30 3 (.slice va np vc) np (cellsP9 ps) from hnp ▸ HO.out)
      rw [hnp]
      clear h1 ht hp hnp HO hown
      go_wp2_with fail
      refine (piece_any a0 a1 n0 n1 c0 c1 nx ru a len cap word x wr HM2.out HZ.out hl hc (by omega) HW2.out p (by rw [HLG.out]; exact HP.out)).mono ?_
      rintro e w2 ⟨rfl, hb2⟩
      have HB2 := hide (HBW.out.trans (hb2.mono HBW.out.size))
      have HO2 := hide (own_move (w' := w2) HO'.out (fun k hk => hb2.block k (own_type HO'.out hk).2.1))
      have HOL := hide (fun k (hk : (Value.slice va np vc).ownBlock = some k) => show k < w2.heap.size from by have := (own_type HO'.out hk).2.1; have := hb2.size; omega)
      have HXB := hide (heap_alloc_last w2 (.cells #[.int .i64 p.f, .int .i64 p.t, .int .i64 p.r] 30))
      have HOX := hide (HO2.out.alloc (.cells #[.int .i64 p.f, .int .i64 p.t, .int .i64 p.r] 30))
      have HBX := hide (HB2.out.alloc HB2.out.size (.cells #[.int .i64 p.f, .int .i64 p.t, .int .i64 p.r] 30))
      have HSX := hide (show (w2.alloc (.cells #[.int .i64 p.f, .int .i64 p.t, .int .i64 p.r] 30)).heap.size = w2.heap.size + 1 by simp)
      have HQ2 := hide (show w1.heap.size ≤ w2.heap.size from HB2.out.size)
      clear hb2 p0 p1
      obtain ⟨g0, g1, g2, -⟩ := p_cells HXB.out
      go_upto_region 7 with fail
      generalize w2.alloc (.cells #[.int .i64 p.f, .int .i64 p.t, .int .i64 p.r] 30) = wX at *
      obtain ⟨q, hq⟩ : ∃ q, w2.heap.size = q := ⟨_, rfl⟩
      rw [hq] at HXB HSX HQ2 HOL g0 g1 g2 ⊢
      clear hq
      have HSZ := hide (show w1.heap.size ≤ (wX.alloc (.cells #[.int .i64 p.f, .int .i64 p.t, .int .i64 p.r] 30)).heap.size by have := HSX.out; have := HQ2.out; simp; omega)
      go_wp2_with (first
        | (at_builtin; refine wpList_append_lies _ rfl _ _ 26 rfl w1.heap.size 30 iP (.agg #[.int .i64 0, .int .i64 0, .int .i64 0]) 3 24 Tryz.underlying26 hiP hzP hsP hbP (by simp [Value.cells]) (by decide) _ np (cellsP9 ps) rfl (HOX.out.alloc _) ⟨_, 0, none⟩ 1 1 [.int .i64 p.f, .int .i64 p.t, .int .i64 p.r] rfl rfl (three_new _ _ _ _ _) (fun u hu => by simp only [List.mem_cons, List.not_mem_nil, or_false] at hu; rcases hu with rfl | rfl | rfl <;> rfl) (by decide) (by unfold maxLen; omega) (by omega) HSZ.out _ rfl ?_; intro g' cap' w3 hown3 hg3 hat3 hlt3; have hx3 : w3.heap[q]? = some (.cells #[.int .i64 p.f, .int .i64 p.t, .int .i64 p.r] 30 (0, 0)) := ((hg3.block q (by have := HSX.out; simp; omega) (fun e => by have := HOL.out q e.symm; omega)).trans (Below.heap_alloc _ _ _ (by have := HSX.out; omega))).trans HXB.out; have g4 := (p_cells hx3).2.1))
      have hb3 := (HBX.out.alloc (show w1.heap.size ≤ wX.heap.size by have := HSX.out; have := HQ2.out; omega) (.cells #[.int .i64 p.f, .int .i64 p.t, .int .i64 p.r] 30)).grown hg3 (by have := HSX.out; have := HQ2.out; simp; omega) (fun kk hkk => (own_type HOX.out hkk).1)
      have hlen : (ps ++ [p]).length = np + 1 := by simp [HNP.out]
      have hcells : cellsP9 (ps ++ [p]) = cellsP9 ps ++ [.int .i64 p.f, .int .i64 p.t, .int .i64 p.r] := by rw [cellsP_app]; rfl
      go_roundw
      case rel => exact ⟨ps ++ [p], t, f, by omega, by omega, by rw [hlen]; omega, by rw [HHT.out], by rw [HCUT.out, HNX.out, List.append_assoc]; rfl, by rw [hlen, hcells]; exact hown3, hb3⟩
      case measure =>
        have e7 := HHT.out
        simp [intOf]; omega
    · have e : x = len := by omega
      have HEND := hide (show cutW lg len = ps from by rw [HCUT.out, cut_end _ _ _ (by omega), List.append_nil])
      subst e
      have HO' := hide (own_low hown (show w.heap.size ≤ w1.heap.size by have := HQ1.out; have := HBB.out; omega))
      have HBF := hide (show Below w.heap.size w wr from by rw [HBB.out]; exact HB1.out.trans (HBW.out.mono (by have := HQ1.out; omega)))
      clear hown
      go_wp2
      go_ret
      exact ⟨_, rfl, by rw [HEND.out]; exact HO'.out, HBF.out⟩
end Go.Proofs.YtbbfjjjnifomgaaGreatDoor.A


/- Pieces that came in: a slice of them, and one by value; a slice of words. -/
namespace Go.Proofs.YtbbfjjjnifomgaaGreatDoor.A
open Go.RowKit Go.ChangeShapes Go.WideShapes Go.Deep
set_option linter.unusedVariables false
set_option maxRecDepth 100000

theorem cells30 : Tryz.prog.cellsOf 30 = 3 := by kernel_rfl
theorem cells3P : Tryz.prog.cellsOf 3 = 1 := by kernel_rfl
theorem open_three {H : Type} {enc : TypeId × Value → H} {W : World} {sp : Nat → Bool} {fuel : Nat} {cs : List Value} {x : DataW H × List MemPlace} (h : DataW.trod enc Tryz.prog W 0 sp true fuel 30 cs = some x) : ∃ f t r : Int, cs = [.int .i64 f, .int .i64 t, .int .i64 r] := by
  obtain ⟨xs, n, hfuel, _, hlen, hxs, hf⟩ := DataW.trod_struct Tryz.underlying30 h
  rw [cells30] at hlen
  match cs, hlen with
  | [v0, v1, v2], _ =>
    have u0 : DataW.trod enc Tryz.prog W 0 sp true n 3 [v0] = xs[0]? := by
      have this : DataW.trod enc Tryz.prog W 0 sp true n 3 (List.take (Tryz.prog.cellsOf 3) (List.drop 0 [v0, v1, v2])) = xs[0]? := hf 0 _ rfl
      rw [cells3P] at this
      exact this
    have u1 : DataW.trod enc Tryz.prog W 0 sp true n 3 [v1] = xs[1]? := by
      have this : DataW.trod enc Tryz.prog W 0 sp true n 3 (List.take (Tryz.prog.cellsOf 3) (List.drop 1 [v0, v1, v2])) = xs[1]? := hf 1 _ rfl
      rw [cells3P] at this
      exact this
    have u2 : DataW.trod enc Tryz.prog W 0 sp true n 3 [v2] = xs[2]? := by
      have this : DataW.trod enc Tryz.prog W 0 sp true n 3 (List.take (Tryz.prog.cellsOf 3) (List.drop 2 [v0, v1, v2])) = xs[2]? := hf 2 _ rfl
      rw [cells3P] at this
      exact this
    have hxs3 : xs.length = 3 := hxs
    match xs, hxs3 with
    | [y0, y1, y2], _ =>
      simp only [List.getElem?_cons_zero, List.getElem?_cons_succ] at u0 u1 u2
      obtain ⟨s, e0, d0, _⟩ := DataW.trod_int Tryz.underlying3 u0
      obtain ⟨q, e1, d1, _⟩ := DataW.trod_int Tryz.underlying3 u1
      obtain ⟨p, e2, d2, _⟩ := DataW.trod_int Tryz.underlying3 u2
      simp only [List.cons.injEq, and_true] at e0 e1 e2
      subst e0; subst e1; subst e2
      exact ⟨s, q, p, rfl⟩
theorem okWide_piece {W : World} {base : Nat} {v : Value} (h : Value.okWide Tryz.prog W .any base 30 v) : ∃ cs, v = .agg cs := by
  unfold Value.okWide at h
  rw [Tryz.underlying30] at h
  obtain ⟨cs, rfl, _⟩ := h
  exact ⟨cs, rfl⟩
theorem open_piece {H : Type} {enc : TypeId × Value → H} {W : World} {sp : Nat → Bool} {fuel : Nat} {cs : Array Value} {x : DataW H × List MemPlace} (h : DataW.trod enc Tryz.prog W 0 sp true fuel 30 (Value.agg cs).cells.toList = some x) : ∃ f t r : Int, cs = #[.int .i64 f, .int .i64 t, .int .i64 r] := by
  have h' : DataW.trod enc Tryz.prog W 0 sp true fuel 30 cs.toList = some x := h
  obtain ⟨f, t, r, e⟩ := open_three h'
  exact ⟨f, t, r, by obtain ⟨l⟩ := cs; simp only at e; rw [e]⟩

theorem open_pieces {H : Type} {enc : TypeId × Value → H} {W : World} {sp : Nat → Bool} {fuel : Nat} {a : Option Addr} {len cap : Nat} {x : DataW H × List MemPlace} (h : DataW.trod enc Tryz.prog W 0 sp true fuel 26 [.slice a len cap] = some x) :
    ∃ zs : List Pc, SegP W a zs ∧ zs.length = len ∧ len ≤ cap ∧ cap ≤ maxLen := by
  rcases open_slice Tryz.underlying26 h with ⟨hcs, _⟩ | ⟨a', len', cap', m, n, D, Pl, hcs, _, hl, hm, hmm, _, hx⟩
  · simp at hcs
    obtain ⟨rfl, rfl, rfl⟩ := hcs
    exact ⟨[], fun i c hc => by simp at hc, rfl, Nat.le_refl _, by unfold maxLen; omega⟩
  · simp at hcs
    obtain ⟨rfl, rfl, rfl⟩ := hcs
    have hlm : len ≤ m := by rw [hmm]; split <;> omega
    have each : ∀ i, i < len → ∃ r : Int × Int × Int, W.cell? (a'.add (i * 3)) = some (.int .i64 r.1) ∧ W.cell? (a'.add (i * 3 + 1)) = some (.int .i64 r.2.1) ∧ W.cell? (a'.add (i * 3 + 2)) = some (.int .i64 r.2.2) := by
      intro i hi
      obtain ⟨cs', h1, h2⟩ := hx i (by omega)
      rw [cells30] at h1
      obtain ⟨_, hlen, hcell⟩ := World.cells?_some h1
      obtain ⟨f, t, r, rfl⟩ := open_three h2
      have c0 := hcell 0 (by omega)
      have c1 := hcell 1 (by omega)
      have c2 := hcell 2 (by omega)
      rw [add_add] at c0 c1 c2
      exact ⟨(f, t, r), by simpa using c0, by simpa using c1, by simpa using c2⟩
    obtain ⟨q, hq⟩ := choose_lt each
    refine ⟨(List.range len).map fun i => ⟨(q i).1, (q i).2.1, (q i).2.2⟩, fun i p hp => ?_, by simp, hl, hm⟩
    have hi : i < len := by have := (List.getElem?_eq_some_iff.1 hp).1; simpa using this
    simp only [List.getElem?_map, List.getElem?_range hi, Option.map_some, Option.some.injEq] at hp
    subst hp
    obtain ⟨b, off, spot⟩ := a'
    have hspot : spot = none := by simpa [Addr.add] using World.cell?_spot (hq 0 (by omega)).1
    subst hspot
    refine ⟨b, off, rfl, ?_⟩
    obtain ⟨c0, c1, c2⟩ := hq i hi
    refine ⟨?_, ?_, ?_⟩
    · rw [← c0]
      simp only [Addr.add]
      split
      · rename_i h; rw [h]; rfl
      · rfl
    · rw [← c1]
      simp only [Addr.add]
      split
      · rename_i h; omega
      · rfl
    · rw [← c2]
      simp only [Addr.add]
      split
      · rename_i h; omega
      · rfl
end Go.Proofs.YtbbfjjjnifomgaaGreatDoor.A

