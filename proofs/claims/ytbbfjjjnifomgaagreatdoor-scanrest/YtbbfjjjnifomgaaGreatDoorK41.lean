/- Pieces; the document's Cut. -/
import Derived.OpenShut
import Derived.Lib.LaidTab
import Derived.Below
import Derived.Outline
import Derived.Deep.Heap
import Derived.Deep.OwnRows
import Derived.Deep.QuietTactic
import Derived.Deep.Slices
import Derived.ProofKit
import Derived.WalkKit
import Derived.WalkSpells
import Derived.WalkLawsBesides
import Derived.Deep.WholeRow
import Derived.Deep.MidRow
import Derived.DeepKeys5
import Derived.Maps.OwnSet
import Derived.Maps.OwnOps
import Derived.Maps.AppendAt
import Derived.Maps.RangeWalk
import Derived.Deep.RegionLaw
import Derived.Deep.Cut
import Derived.Deep.CutRange
import Derived.Deep.RegionHeld3
import Derived.Deep.AppendLies
import Derived.BigQuiet
import Derived.Deep.Strs
import Derived.Deep.AppendSrc
import Derived.Laws.AppendOwnNone
import Derived.Laws.AppendOwn
import Derived.Shelf.Small.Strs
import Derived.Shelf.Strconv.Itoa0
import Derived.Shelf.Strconv.Itoa1
import Derived.Shelf.LaysM
import Derived.Shelf.Strconv.Itoa2
import Derived.Shelf.Strconv.Clone
import Derived.Shelf.Strings.Search1
import Derived.Shelf.Strings.Search2
import Derived.Shelf.Strings.Search3
import Derived.Shelf.Strings.Count
import Derived.Shelf.Strings.Shaped
import Derived.Shelf.Strconv.AppendUint10
import Derived.Shelf.Strconv.AppendInt10
import Derived.Shelf.Strconv.AppendIntPublic10
import Derived.Shelf.Strings.Split
import Derived.Shelf.Strings.SplitShaped
import Derived.Shelf.Bits.Mul64
import Derived.Shelf.Unicode.DecodeSlow
import Derived.Ground.Names2Prog
import Derived.Shelf.Slices.Clone
import Derived.Ground.SlgnProg
import Derived.Shelf.SlicesE.Clone
import Derived.Laws.IdiomStrings
import Derived.Laws.BytesArg
import Derived.LaidMore
import Derived.HandedShaped
import Derived.Shelf.Vars
import Derived.MakeChecks
import Derived.Stop.LaidErr
import Derived.Laws.OwnMore
import Derived.OwnWalk
import Derived.Defers
import Derived.Recover
import Derived.Lib.SplitLaws
import Derived.Maps.Keyed
import Derived.Laws.Tables
import Derived.Laws.Rows
import Derived.Laws.CopyOwn
import Derived.Deep.LoopGhost
import Derived.Test.YtbbfjjjnifomgaaGreatDoorK1
import Derived.Test.YtbbfjjjnifomgaaGreatDoorK4
import Derived.Test.YtbbfjjjnifomgaaGreatDoorK8
import Derived.Test.YtbbfjjjnifomgaaGreatDoorK11
import Derived.Test.YtbbfjjjnifomgaaGreatDoorK13
import Derived.Test.YtbbfjjjnifomgaaGreatDoorK20
import Derived.Test.YtbbfjjjnifomgaaGreatDoorK24
import Derived.Test.YtbbfjjjnifomgaaGreatDoorK25
import Derived.Test.YtbbfjjjnifomgaaGreatDoorK26
import Derived.Test.YtbbfjjjnifomgaaGreatDoorK28
import Derived.Test.YtbbfjjjnifomgaaGreatDoorK29
import Derived.Test.YtbbfjjjnifomgaaGreatDoorK33
import Derived.Test.YtbbfjjjnifomgaaGreatDoorK39
import Derived.Test.YtbbfjjjnifomgaaGreatDoorK2
import Derived.Test.YtbbfjjjnifomgaaGreatDoorK3
import Derived.Test.YtbbfjjjnifomgaaGreatDoorK5
import Derived.Test.YtbbfjjjnifomgaaGreatDoorK6
import Derived.Test.YtbbfjjjnifomgaaGreatDoorK17
import Derived.Test.YtbbfjjjnifomgaaGreatDoorK22
namespace Go.Proofs.YtbbfjjjnifomgaaGreatDoor.A
open Go.RowKit
set_option linter.unusedVariables false

/-- A piece: from, to, rule. -/
structure Pc where
  f : Int
  t : Int
  r : Int
def cP (p : Pc) : List Value := [.int .i64 p.f, .int .i64 p.t, .int .i64 p.r]
def cellsP9 (l : List Pc) : List Value := l.flatMap cP
theorem cellsP_app (a b : List Pc) : cellsP9 (a ++ b) = cellsP9 a ++ cellsP9 b := by simp [cellsP9]
theorem cellsP_at : ∀ (l : List Pc) (i : Nat) (p : Pc), l[i]? = some p → (cellsP9 l)[i * 3]? = some (.int .i64 p.f) ∧ (cellsP9 l)[i * 3 + 1]? = some (.int .i64 p.t) ∧ (cellsP9 l)[i * 3 + 2]? = some (.int .i64 p.r)
  | [], i, p, h => by simp at h
  | q :: l, 0, p, h => by
    have : q = p := by simpa using h
    subst this
    exact ⟨rfl, rfl, rfl⟩
  | q :: l, i + 1, p, h => by
    obtain ⟨h1, h2, h3⟩ := cellsP_at l i p (by simpa using h)
    have e : cellsP9 (q :: l) = .int .i64 q.f :: .int .i64 q.t :: .int .i64 q.r :: cellsP9 l := rfl
    rw [e, show (i + 1) * 3 = i * 3 + 3 by omega]
    exact ⟨h1, h2, h3⟩
/-- Pieces at a slice. -/
def SegP (w : World) (a : Option Addr) (l : List Pc) : Prop := ∀ (i : Nat) (p : Pc), l[i]? = some p → ∃ b off, a = some ⟨b, off, none⟩ ∧ w.cell? ⟨b, off + i * 3, none⟩ = some (.int .i64 p.f) ∧ w.cell? ⟨b, off + i * 3 + 1, none⟩ = some (.int .i64 p.t) ∧ w.cell? ⟨b, off + i * 3 + 2, none⟩ = some (.int .i64 p.r)
theorem segP_below {w w' : World} {a : Option Addr} {l : List Pc} (hb : Below w.heap.size w w') (h : SegP w a l) : SegP w' a l := fun i p hp => by
  obtain ⟨b, off, e, h1, h2, h3⟩ := h i p hp
  exact ⟨b, off, e, (hb.cell (p := ⟨b, off + i * 3, none⟩) (cell_lt h1)).trans h1, (hb.cell (p := ⟨b, off + i * 3 + 1, none⟩) (cell_lt h2)).trans h2, (hb.cell (p := ⟨b, off + i * 3 + 2, none⟩) (cell_lt h3)).trans h3⟩
theorem own_segP {w : World} {base n : Nat} {v : Value} {l : List Pc} (h : w.ownsRow base 30 3 v n (cellsP9 l)) (hn : n = l.length) : ∃ a c, v = .slice a n c ∧ SegP w a l := by
  rcases h.2 with ⟨rfl, h0⟩ | ⟨g, cap, cur, rfl, _, hg, _, _, _, ht⟩
  · exact ⟨none, 0, by rw [h0], fun i p hp => by
      have := (List.getElem?_eq_some_iff.1 hp).1
      omega⟩
  · refine ⟨_, _, rfl, fun i p hp => ⟨g, 0, rfl, ?_⟩⟩
    have hi := (List.getElem?_eq_some_iff.1 hp).1
    obtain ⟨h1, h2, h3⟩ := cellsP_at l i p hp
    have at_ : ∀ j v, j < n * 3 → (cellsP9 l)[j]? = some v → w.cell? ⟨g, j, none⟩ = some v := fun j v hj hv => by
      rw [← ht, List.getElem?_take_of_lt hj] at hv
      rw [cell_of_row _ _ _ _ _ _ hg]; simpa using hv
    rw [Nat.zero_add]
    exact ⟨at_ _ _ (by omega) h1, at_ _ _ (by omega) h2, at_ _ _ (by omega) h3⟩

/-- The piece at a place, by the longest match there. -/
def pieceF (lg : Int × Int) (a : Nat) : Pc := if 0 < lg.1 then ⟨a, lg.1, lg.2⟩ else ⟨a, (a : Int) + 1, -1⟩
def cutF (lg : Nat → Int × Int) (len : Nat) : Nat → Nat → List Pc
  | 0, _ => []
  | f + 1, a => if a < len then pieceF (lg a) a :: cutF lg len f (pieceF (lg a) a).t.toNat else []
/-- Where pieces may end. -/
def LgOk (lg : Nat → Int × Int) (len : Nat) : Prop := ∀ a, a < len → (lg a).1 ≤ 0 ∨ ((a : Int) < (lg a).1 ∧ (lg a).1 ≤ (len : Int))
theorem piece_to {lg : Nat → Int × Int} {len a : Nat} (h : LgOk lg len) (ha : a < len) : ∃ t : Nat, (pieceF (lg a) a).t = t ∧ a < t ∧ t ≤ len := by
  unfold pieceF
  by_cases c : 0 < (lg a).1
  · rw [if_pos c]
    rcases h a ha with q | q
    · omega
    · exact ⟨(lg a).1.toNat, by show (lg a).1 = _; omega, by omega, by omega⟩
  · rw [if_neg c]
    exact ⟨a + 1, by show (a : Int) + 1 = _; omega, by omega, by omega⟩
theorem cut_end (lg : Nat → Int × Int) (len f : Nat) {a : Nat} (h : len ≤ a) : cutF lg len f a = [] := by
  cases f with
  | zero => rfl
  | succ f => unfold cutF; rw [if_neg (by omega)]
theorem cut_fuel {lg : Nat → Int × Int} {len : Nat} (h : LgOk lg len) : ∀ (f a k : Nat), len ≤ a + f → cutF lg len f a = cutF lg len (f + k) a
  | 0, a, k, hf => by rw [cut_end _ _ _ (by omega), cut_end _ _ _ (by omega)]
  | f + 1, a, k, hf => by
    rw [show f + 1 + k = (f + k) + 1 by omega]
    unfold cutF
    by_cases c : a < len
    · rw [if_pos c, if_pos c]
      obtain ⟨t, e, h1, h2⟩ := piece_to h c
      rw [e, show ((t : Nat) : Int).toNat = t by omega, cut_fuel h f t k (by omega)]
    · rw [if_neg c, if_neg c]
theorem cut_next {lg : Nat → Int × Int} {len f a : Nat} (h : LgOk lg len) (ha : a < len) (hf : len ≤ a + f) {t : Nat} (e : (pieceF (lg a) a).t = t) (h1 : a < t) : cutF lg len f a = pieceF (lg a) a :: cutF lg len f t := by
  cases f with
  | zero => omega
  | succ f =>
    rw [show cutF lg len (f + 1) a = if a < len then pieceF (lg a) a :: cutF lg len f (pieceF (lg a) a).t.toNat else [] from rfl, if_pos ha, e, show ((t : Nat) : Int).toNat = t by omega]
    rw [cut_fuel h f t 1 (by omega)]
/-- A word's pieces. -/
def cutW (lg : Nat → Int × Int) (len : Nat) : List Pc := cutF lg len len 0
theorem cut_count {lg : Nat → Int × Int} {len : Nat} (h : LgOk lg len) : ∀ (f a : Nat), (cutF lg len f a).length ≤ len - a
  | 0, a => by simp [cutF]
  | f + 1, a => by
    unfold cutF
    by_cases c : a < len
    · rw [if_pos c]
      obtain ⟨t, e, h1, h2⟩ := piece_to h c
      rw [e, show ((t : Nat) : Int).toNat = t by omega, List.length_cons]
      have := cut_count h f t
      omega
    · rw [if_neg c]; simp
theorem lg_gt {nx : List (List Int)} {ru word : List Int} {f : Int} (hf : 0 ≤ f) : ∀ k, (lgF nx ru word f k).1 = -1 ∨ f < (lgF nx ru word f k).1
  | 0 => .inl rfl
  | k + 1 => by
    unfold lgF
    split
    · right; show f < f + (k : Int) + 1; omega
    · exact lg_gt hf k
theorem long_ok (nx : List (List Int)) (ru word : List Int) : LgOk (fun a => longR nx ru word (a : Int)) word.length := fun a ha => by
  show (longR nx ru word (a : Int)).1 ≤ 0 ∨ ((a : Int) < (longR nx ru word (a : Int)).1 ∧ (longR nx ru word (a : Int)).1 ≤ (word.length : Int))
  unfold longR
  split
  · rename_i h
    rcases lg_gt (nx := nx) (ru := ru) (word := word.drop ((a : Nat) : Int).toNat) (f := (a : Int)) (by omega) (word.length - ((a : Nat) : Int).toNat) with q | q
    · left; rw [q]; omega
    · have := (lg_le (nx := nx) (ru := ru) (word := word.drop ((a : Nat) : Int).toNat) (f := (a : Int)) (by omega) (word.length - ((a : Nat) : Int).toNat)).2
      right
      refine ⟨q, ?_⟩
      omega
  · left; show (-1 : Int) ≤ 0; omega

theorem infoP : (Tryz.prog.info? 30).map (fun i => (i.zero, i.size, i.bytes)) = some (some (.agg #[.int .i64 0, .int .i64 0, .int .i64 0]), 3, 24) := by kernel_rfl
theorem three_new (w : World) (x y z : Value) (t : TypeId) : ∀ j u, [x, y, z][j]? = some u → (w.alloc (.cells #[x, y, z] t)).cell? ((⟨w.heap.size, 0, none⟩ : Addr).add j) = some u := by
  intro j u hu
  match j, hu with
  | 0, hu => simp only [List.getElem?_cons_zero, Option.some.injEq] at hu; subst hu; simp [Addr.add]
  | 1, hu => simp only [List.getElem?_cons_succ, List.getElem?_cons_zero, Option.some.injEq] at hu; subst hu; simp [Addr.add]
  | 2, hu => simp only [List.getElem?_cons_succ, List.getElem?_cons_zero, Option.some.injEq] at hu; subst hu; simp [Addr.add]
  | j + 3, hu => simp at hu

theorem p_cells {w : World} {q : Nat} {x y z : Value} {t : TypeId} (h : w.heap[q]? = some (.cells #[x, y, z] t (0, 0))) : w.cell? ⟨q, 0, none⟩ = some x ∧ w.cell? ⟨q, 1, none⟩ = some y ∧ w.cell? ⟨q, 2, none⟩ = some z ∧ ∀ i, w.frozen? ⟨q, i, none⟩ = false := by
  refine ⟨?_, ?_, ?_, fun i => ?_⟩
  · rw [cell_of_row _ _ _ _ _ _ h]; rfl
  · rw [cell_of_row _ _ _ _ _ _ h]; rfl
  · rw [cell_of_row _ _ _ _ _ _ h]; rfl
  · simp [World.frozen?, h]

set_option maxRecDepth 100000 in
set_option maxHeartbeats 3200000 in
theorem rcut_any (a0 a1 : Option Addr) (n0 n1 c0 c1 : Nat) (nx : List (List Int)) (ru : List Int) (a : Option Addr) (len cap : Nat) (word : List Int) (w : World) (hm : Dm w a0 a1 n0 n1 nx ru) (hr : rightD nx ru = true) (hz : word.length = len) (hl : len ≤ cap) (hc : cap ≤ maxLen) (hl2 : len ≤ 100000) (hW : Wd w a word) (lg : Nat → Int × Int) (hlg : ∀ a : Nat, longR nx ru word (a : Int) = lg a) :
    Calls Tryz.prog 12 #[.agg #[.slice a0 n0 c0, .slice a1 n1 c1], .slice a len cap] w fun e w' => ∃ v, e = .returned v ∧ w'.ownsRow w.heap.size 30 3 v (cutW lg len).length (cellsP9 (cutW lg len)) ∧ Below w.heap.size w w' := by
  obtain ⟨iP, hiP, hzP, hsP, hbP⟩ := info_parts infoP
  have HBX := hide (heap_alloc_last w (.cells #[.slice a0 n0 c0, .slice a1 n1 c1] 25))
  have hb0 := (Below.refl w.heap.size w).alloc (Nat.le_refl _) (.cells #[.slice a0 n0 c0, .slice a1 n1 c1] 25)
  have HB0 := hide hb0
  have HM := hide (dm_below' hb0 hm)
  have HW := hide (wd_below hb0 hW)
  have HS := hide (show (w.alloc (.cells #[.slice a0 n0 c0, .slice a1 n1 c1] 25)).heap.size = w.heap.size + 1 by simp)
  have HLO := hide (show LgOk lg len from by
    have h := long_ok nx ru word
    rw [show (fun a : Nat => longR nx ru word (a : Int)) = lg from funext hlg, hz] at h
    exact h)
  have HLG := hide hlg
  have HZ := hide hz
  have HR := hide hr
  clear hb0 hm hW hz hr hlg
  go_enter Tryz.func12, Tryz.ntmps12
  go_wp2_with fail
  generalize w.alloc (.cells #[.slice a0 n0 c0, .slice a1 n1 c1] 25) = W1 at *
  generalize hB : w.heap.size + 1 = B at *
  go_loopw [5, 6] (fun v i wr => ∃ (ps : List Pc) (x f : Nat), x ≤ len ∧ len ≤ x + f ∧ ps.length ≤ x ∧ i = .int .i64 x ∧ cutW lg len = ps ++ cutF lg len f x ∧ wr.ownsRow B 30 3 v ps.length (cellsP9 ps) ∧ Below B W1 wr) (fun _ i _ => len - (intOf i).toNat)
  case atStart => exact ⟨[], 0, len, by omega, by omega, by simp, rfl, rfl, World.ownsRow_nil _ _ _ _, by rw [← HS.out]; exact Below.refl _ _⟩
  case round =>
    obtain ⟨ps, x, f, hx, hf, hpl, rfl, hcut, hown, hb⟩ := hrel
    have HO := hide hown
    have HB := hide hb
    have HCUT := hide hcut
    clear hcut hb
    obtain ⟨va, vc, rfl⟩ := own_form hown
    clear hown
    by_cases hlt : x < len
    · obtain ⟨t, ht, ht1, ht2⟩ := piece_to HLO.out hlt
      have HNX := hide (cut_next HLO.out hlt hf ht ht1)
      have HHT := hide ht
      have h1 := (HB.out.block w.heap.size (by omega)).trans HBX.out
      obtain ⟨p0, p1, -⟩ := d_cells h1
      have HB1 := hide (HB.out.alloc (show B ≤ wr.heap.size by have := HB.out.size; have := HS.out; omega) (.cells #[.int .i64 (x : Int), .int .i64 ((x : Int) + 1), .int .i64 (-1)] 30))
      have HBOX := hide (heap_alloc_last wr (.cells #[.int .i64 (x : Int), .int .i64 ((x : Int) + 1), .int .i64 (-1)] 30))
      have HO1 := hide (HO.out.alloc (.cells #[.int .i64 (x : Int), .int .i64 ((x : Int) + 1), .int .i64 (-1)] 30))
      have h1' := (HB1.out.block w.heap.size (by omega)).trans HBX.out
      obtain ⟨p0', p1', -⟩ := d_cells h1'
      clear h1 h1' p0 p1 ht
      obtain ⟨np, hnp⟩ : ∃ np, ps.length = np := ⟨_, rfl⟩
      have HNP := hide hnp
      rw [hnp] at hpl
      go_wp2_with fail
      generalize wr.alloc (.cells #[.int .i64 (x : Int), .int .i64 ((x : Int) + 1), .int .i64 (-1)] 30) = WB at *
      generalize hq : wr.heap.size = q at *
      have hBq : B ≤ q := by have := HB.out.size; have := HS.out; omega
      refine (rlong_any7 a0 a1 n0 n1 c0 c1 nx ru a len cap word (x : Int) WB (dm_below' (by rw [HS.out]; exact HB1.out) HM.out) HR.out HZ.out hl hc (wd_below (by rw [HS.out]; exact HB1.out) HW.out)).mono ?_
      rintro e w2 ⟨rfl, hb2⟩
      rw [HLG.out x]
      have HB2 := hide (HB1.out.trans (hb2.mono (by have := (Array.getElem?_eq_some_iff.1 HBOX.out).1; omega)))
      have hbx2 := (hb2.block q (Array.getElem?_eq_some_iff.1 HBOX.out).1).trans HBOX.out
      have HO2 := hide (own_move (w' := w2) HO1.out (fun k hk => hb2.block k (own_type HO1.out hk).2.1))
      have HBX2 := hide hbx2
      have HOL := hide (fun k (hk : (Value.slice va ps.length vc).ownBlock = some k) => show k < q from hq ▸ (own_type HO.out hk).2.1)
      obtain ⟨le, lr, hle⟩ : ∃ a b, lg x = (a, b) := ⟨_, _, rfl⟩
      have HLE := hide hle
      rw [hle]
      clear hb2 p0' p1' hle
      by_cases h0 : 0 < le
      · have d0 : decide (0 < le) = true := by simp [h0]
        have HPE := hide (show pieceF (lg x) x = ⟨(x : Int), le, lr⟩ by unfold pieceF; rw [HLE.out, if_pos h0])
        have HET := hide (show le = (t : Int) by have := HHT.out; rw [HPE.out] at this; exact this)
        obtain ⟨g0, g1, g2, gz⟩ := p_cells HBX2.out
        have z1 := gz 1
        have z2 := gz 2
        have HXB := hide (show ((w2.setCell ⟨q, 1, none⟩ (.int .i64 le)).setCell ⟨q, 2, none⟩ (.int .i64 lr)).heap[q]? = some (.cells #[.int .i64 (x : Int), .int .i64 le, .int .i64 lr] 30 (0, 0)) by rw [blk_set (blk_set HBX2.out 1 _) 2 _]; rfl)
        have hnq : (Value.slice va ps.length vc).ownBlock ≠ some q := fun e => by have := HOL.out q e; omega
        have HOX := hide (set_far (i := 2) (u := .int .i64 lr) (set_far (i := 1) (u := .int .i64 le) HO2.out hnq) hnq)
        have HXW := hide ((HB2.out.setCell (p := ⟨q, 1, none⟩) hBq (.int .i64 le)).setCell (p := ⟨q, 2, none⟩) hBq (.int .i64 lr))
        clear gz hnq h0
        go_upto_region 9 with fail
        clear g0 g1 g2 z1 z2
        generalize (w2.setCell ⟨q, 1, none⟩ (.int .i64 le)).setCell ⟨q, 2, none⟩ (.int .i64 lr) = wX at *
        obtain ⟨g0, g1, g2, -⟩ := p_cells HXB.out
        have HSZ := hide (show B ≤ (wX.alloc (.cells #[.int .i64 (x : Int), .int .i64 le, .int .i64 lr] 30)).heap.size by have := (Array.getElem?_eq_some_iff.1 HXB.out).1; simp; omega)
        have HOX' := hide (show wX.ownsRow B 30 3 (.slice va np vc) np (cellsP9 ps) from HNP.out ▸ HOX.out)
        go_wp2_with (first
          | (at_builtin; refine wpList_append_lies _ rfl _ _ 26 rfl B 30 iP (.agg #[.int .i64 0, .int .i64 0, .int .i64 0]) 3 24 Tryz.underlying26 hiP hzP hsP hbP (by simp [Value.cells]) (by decide) _ np (cellsP9 ps) rfl (HOX'.out.alloc _) ⟨_, 0, none⟩ 1 1 [.int .i64 (x : Int), .int .i64 le, .int .i64 lr] rfl rfl (three_new _ _ _ _ _) (fun u hu => by simp only [List.mem_cons, List.not_mem_nil, or_false] at hu; rcases hu with rfl | rfl | rfl <;> rfl) (by decide) (by unfold maxLen; omega) (by omega) HSZ.out _ rfl ?_; intro g' cap' w3 hown3 hg3 hat3 hlt3; have hx3 : w3.heap[q]? = some (.cells #[.int .i64 (x : Int), .int .i64 le, .int .i64 lr] 30 (0, 0)) := ((hg3.block q (by have := (Array.getElem?_eq_some_iff.1 HXB.out).1; simp; omega) (fun e => by have := HOL.out q (by rw [← HNP.out] at e; exact e.symm); omega)).trans (Below.heap_alloc _ _ _ (Array.getElem?_eq_some_iff.1 HXB.out).1)).trans HXB.out; have g4 := (p_cells hx3).2.1))
        have hb3 := (HXW.out.alloc (show B ≤ wX.heap.size by have := (Array.getElem?_eq_some_iff.1 HXB.out).1; omega) (.cells #[.int .i64 (x : Int), .int .i64 le, .int .i64 lr] 30)).grown hg3 HSZ.out (fun kk hkk => (own_type HOX'.out hkk).1)
        have hlen : (ps ++ [(⟨(x : Int), le, lr⟩ : Pc)]).length = np + 1 := by simp [HNP.out]
        have hcells : cellsP9 (ps ++ [(⟨(x : Int), le, lr⟩ : Pc)]) = cellsP9 ps ++ [.int .i64 (x : Int), .int .i64 le, .int .i64 lr] := by rw [cellsP_app]; rfl
        go_roundw
        case rel => exact ⟨ps ++ [⟨(x : Int), le, lr⟩], t, f, by omega, by omega, by rw [hlen]; omega, by rw [HET.out], by rw [HCUT.out, HNX.out, HPE.out, List.append_assoc]; rfl, by rw [hlen, hcells]; exact hown3, hb3⟩
        case measure =>
          have e7 := HET.out
          simp [intOf]; omega
      · have d0 : decide (0 < le) = false := by simp; omega
        have HPE := hide (show pieceF (lg x) x = ⟨(x : Int), (x : Int) + 1, -1⟩ by unfold pieceF; rw [HLE.out, if_neg h0])
        have HET := hide (show (x : Int) + 1 = (t : Int) by have := HHT.out; rw [HPE.out] at this; exact this)
        have HXB := HBX2
        have HOX := HO2
        have HXW := HB2
        clear h0 HBX2 HO2 HB2
        go_upto_region 9 with fail
        generalize w2 = wX at *
        obtain ⟨g0, g1, g2, -⟩ := p_cells HXB.out
        have HSZ := hide (show B ≤ (wX.alloc (.cells #[.int .i64 (x : Int), .int .i64 ((x : Int) + 1), .int .i64 (-1)] 30)).heap.size by have := (Array.getElem?_eq_some_iff.1 HXB.out).1; simp; omega)
        have HOX' := hide (show wX.ownsRow B 30 3 (.slice va np vc) np (cellsP9 ps) from HNP.out ▸ HOX.out)
        go_wp2_with (first
          | (at_builtin; refine wpList_append_lies _ rfl _ _ 26 rfl B 30 iP (.agg #[.int .i64 0, .int .i64 0, .int .i64 0]) 3 24 Tryz.underlying26 hiP hzP hsP hbP (by simp [Value.cells]) (by decide) _ np (cellsP9 ps) rfl (HOX'.out.alloc _) ⟨_, 0, none⟩ 1 1 [.int .i64 (x : Int), .int .i64 ((x : Int) + 1), .int .i64 (-1)] rfl rfl (three_new _ _ _ _ _) (fun u hu => by simp only [List.mem_cons, List.not_mem_nil, or_false] at hu; rcases hu with rfl | rfl | rfl <;> rfl) (by decide) (by unfold maxLen; omega) (by omega) HSZ.out _ rfl ?_; intro g' cap' w3 hown3 hg3 hat3 hlt3; have hx3 : w3.heap[q]? = some (.cells #[.int .i64 (x : Int), .int .i64 ((x : Int) + 1), .int .i64 (-1)] 30 (0, 0)) := ((hg3.block q (by have := (Array.getElem?_eq_some_iff.1 HXB.out).1; simp; omega) (fun e => by have := HOL.out q (by rw [← HNP.out] at e; exact e.symm); omega)).trans (Below.heap_alloc _ _ _ (Array.getElem?_eq_some_iff.1 HXB.out).1)).trans HXB.out; have g4 := (p_cells hx3).2.1))
        have hb3 := (HXW.out.alloc (show B ≤ wX.heap.size by have := (Array.getElem?_eq_some_iff.1 HXB.out).1; omega) (.cells #[.int .i64 (x : Int), .int .i64 ((x : Int) + 1), .int .i64 (-1)] 30)).grown hg3 HSZ.out (fun kk hkk => (own_type HOX'.out hkk).1)
        have hlen : (ps ++ [(⟨(x : Int), ((x : Int) + 1), (-1)⟩ : Pc)]).length = np + 1 := by simp [HNP.out]
        have hcells : cellsP9 (ps ++ [(⟨(x : Int), ((x : Int) + 1), (-1)⟩ : Pc)]) = cellsP9 ps ++ [.int .i64 (x : Int), .int .i64 ((x : Int) + 1), .int .i64 (-1)] := by rw [cellsP_app]; rfl
        go_roundw
        case rel => exact ⟨ps ++ [⟨(x : Int), ((x : Int) + 1), (-1)⟩], t, f, by omega, by omega, by rw [hlen]; omega, by rw [HET.out], by rw [HCUT.out, HNX.out, HPE.out, List.append_assoc]; rfl, by rw [hlen, hcells]; exact hown3, hb3⟩
        case measure =>
          have e7 := HET.out
          simp [intOf]; omega
    · have e : x = len := by omega
      have HEND := hide (show cutW lg len = ps from by rw [HCUT.out, cut_end _ _ _ (by omega), List.append_nil])
      subst e
      go_wp2
      go_ret
      exact ⟨_, rfl, by rw [HEND.out]; exact own_low HO.out (by omega), HB0.out.trans (HB.out.mono (by omega))⟩
end Go.Proofs.YtbbfjjjnifomgaaGreatDoor.A



/- The document's Same of pieces, Regexes, Nodes. -/
namespace Go.Proofs.YtbbfjjjnifomgaaGreatDoor.A
open Go.RowKit
set_option linter.unusedVariables false

def pcB (p q : Pc) : Bool := p.f == q.f && (p.t == q.t && p.r == q.r)
theorem pcB_iff (p q : Pc) : pcB p q = true ↔ p = q := by
  cases p; cases q
  simp [pcB]
/-- The same lists? -/
def sameP : List Pc → List Pc → Bool
  | [], [] => true
  | p :: l, q :: m => pcB p q && sameP l m
  | _, _ => false
theorem sameP_iff : ∀ l m : List Pc, sameP l m = true ↔ l = m
  | [], [] => by simp [sameP]
  | p :: l, [] => by simp [sameP]
  | [], q :: m => by simp [sameP]
  | p :: l, q :: m => by
    unfold sameP
    rw [Bool.and_eq_true, pcB_iff, sameP_iff l m, List.cons.injEq]
theorem sameP_len {l m : List Pc} (h : l.length ≠ m.length) : sameP l m = false := by
  rw [Bool.eq_false_iff]
  intro q
  exact h (by rw [(sameP_iff l m).1 q])
theorem sameP_no {l m : List Pc} {i : Nat} {p q : Pc} (hp : l[i]? = some p) (hq : m[i]? = some q) (h : pcB p q = false) : sameP l m = false := by
  rw [Bool.eq_false_iff]
  intro k
  rw [(sameP_iff l m).1 k, hq] at hp
  have := (pcB_iff p q).2 (Option.some.inj hp).symm
  rw [h] at this; cases this

set_option maxRecDepth 100000 in
set_option maxHeartbeats 1600000 in
theorem rsame_any9 (a b : Option Addr) (n m ca cb : Nat) (l l2 : List Pc) (w : World) (h1 : l.length = n) (h2 : l2.length = m) (hn : n ≤ maxLen) (hm : m ≤ maxLen) (hA : SegP w a l) (hB : SegP w b l2) :
    Calls Tryz.prog 11 #[.slice a n ca, .slice b m cb] w fun e w' => e = .returned (.bool (sameP l l2)) ∧ Below w.heap.size w w' := by
  have H1 := hide h1
  have H2 := hide h2
  have HA := hide hA
  have HB := hide hB
  unfold maxLen at hn hm
  clear h1 h2 hA hB
  by_cases e0 : n = m
  · subst e0
    have z0 : ((n : Int) != (n : Int)) = false := by simp
    go_enter Tryz.func11, Tryz.ntmps11
    go_wp2_with fail
    go_loopw [5] (fun i wr => ∃ k : Nat, k ≤ n ∧ i = .int .i64 k ∧ (∀ j, j < k → l[j]? = l2[j]?) ∧ Below w.heap.size w wr) (fun i _ => n - (intOf i).toNat)
    case atStart => exact ⟨0, Nat.zero_le _, rfl, fun j hj => by omega, Below.refl _ _⟩
    case round =>
      obtain ⟨k, hk, rfl, hsm, hb⟩ := hrel
      have HSM := hide hsm
      have HBW := hide hb
      clear hsm hb
      by_cases hlt : k < n
      · obtain ⟨p, hp⟩ : ∃ p, l[k]? = some p := ⟨_, List.getElem?_eq_getElem (by rw [H1.out]; exact hlt)⟩
        obtain ⟨q, hq⟩ : ∃ p, l2[k]? = some p := ⟨_, List.getElem?_eq_getElem (by rw [H2.out]; exact hlt)⟩
        obtain ⟨b1, o1, rfl, c0, c1, c2⟩ := segP_below HBW.out HA.out k p hp
        obtain ⟨b2, o2, rfl, d0, d1, d2⟩ := segP_below HBW.out HB.out k q hq
        have i3 : (0 : Int) ≤ (k : Int) := by omega
        have i4 : (k : Int) < (n : Int) := by omega
        have HP := hide hp
        have HQ := hide hq
        clear hp hq
        cases hpq : pcB p q
        · have HNE := hide (sameP_no HP.out HQ.out hpq)
          obtain ⟨pf, pt, pr⟩ := p
          obtain ⟨qf, qt, qr⟩ := q
          have hor : (pf == qf && (pt == qt && pr == qr)) = false := hpq
          clear hpq HP HQ
          cases x1 : (pf == qf)
          · go_wp2_with fail
            go_quiet (fail)
            go_wp2
            go_ret
            exact ⟨by rw [HNE.out]; rfl, below_drewN HBW.out _⟩
          · cases x2 : (pt == qt)
            · go_wp2_with fail
              go_quiet (fail)
              go_wp2
              go_ret
              exact ⟨by rw [HNE.out]; rfl, below_drewN HBW.out _⟩
            · rw [x1, x2, Bool.true_and, Bool.true_and] at hor
              go_wp2_with fail
              go_quiet (fail)
              go_wp2
              go_ret
              exact ⟨by rw [HNE.out]; rfl, below_drewN HBW.out _⟩
        · have hpe := (pcB_iff p q).1 hpq
          subst hpe
          have HSN := hide (show ∀ j, j < k + 1 → l[j]? = l2[j]? from fun j hj => by
            by_cases e : j = k
            · subst e; rw [HP.out, HQ.out]
            · exact HSM.out j (by omega))
          clear hpq
          obtain ⟨pf, pt, pr⟩ := p
          go_wp2_with fail
          go_quiet (fail)
          go_wp2
          go_roundw
          case rel => exact ⟨k + 1, by omega, by go_num, HSN.out, below_drewN HBW.out _⟩
          case measure => simp [intOf]; omega
      · have e : k = n := by omega
        have HEQ := hide (show sameP l l2 = true from (sameP_iff l l2).2 (List.ext_getElem? fun i => by
          by_cases c : i < k
          · exact HSM.out i c
          · rw [List.getElem?_eq_none (by rw [H1.out]; omega), List.getElem?_eq_none (by rw [H2.out]; omega)]))
        subst e
        go_wp2
        go_ret
        exact ⟨by rw [HEQ.out]; rfl, HBW.out⟩
  · have z0 : ((n : Int) != (m : Int)) = true := by simp; omega
    have z1 : ((n : Int) == (m : Int)) = false := by simp; omega
    have HNE := hide (sameP_len (l := l) (m := l2) (by rw [H1.out, H2.out]; exact e0))
    go_enter Tryz.func11, Tryz.ntmps11
    go_wp2
    go_ret
    exact ⟨by rw [HNE.out]; rfl, Below.refl _ _⟩
end Go.Proofs.YtbbfjjjnifomgaaGreatDoor.A



/- The document's Words: pieces by expressions alone. -/
namespace Go.Proofs.YtbbfjjjnifomgaaGreatDoor.A
open Go.RowKit
set_option linter.unusedVariables false

/-- Has rule k a word of n categories from place a on? -/
def hasW (l : List Rl) (word : List Int) (a k n : Nat) : Bool := match l[k]? with
  | some x => endsE (word.drop a) x.n x.t (fun j => decide (j = 0)) n
  | none => false
/-- The best of a rule's ends, the longest first. -/
def inF (l : List Rl) (word : List Int) (a k : Nat) : Nat → Int × Int → Int × Int
  | 0, st => st
  | n + 1, st => inF l word a k n (if hasW l word a k (n + 1) = true ∧ (st.2 < 0 ∨ st.1 < (a : Int) + ((n + 1 : Nat) : Int)) then ((a : Int) + ((n + 1 : Nat) : Int), (k : Int)) else st)
/-- .. of all rules. -/
def outF (l : List Rl) (word : List Int) (a : Nat) : Nat → Int × Int
  | 0 => ((a : Int) + 1, -1)
  | k + 1 => inF l word a k (word.length - a) (outF l word a k)
/-- The best at a place, as a longest match. -/
def lgW (l : List Rl) (word : List Int) (a : Nat) : Int × Int := if 0 ≤ (outF l word a l.length).2 then outF l word a l.length else (-1, -1)
theorem inF_rng {l : List Rl} {word : List Int} {a k len : Nat} (hl : word.length = len) : ∀ (n : Nat) (st : Int × Int), a + n ≤ len → ((a : Int) < st.1 ∧ st.1 ≤ (len : Int)) → (-1 ≤ st.2) → ((a : Int) < (inF l word a k n st).1 ∧ (inF l word a k n st).1 ≤ (len : Int)) ∧ -1 ≤ (inF l word a k n st).2
  | 0, st, _, h, h2 => ⟨h, h2⟩
  | n + 1, st, hn, h, h2 => by
    unfold inF
    split
    · exact inF_rng hl n _ (by omega) ⟨by show (a : Int) < (a : Int) + ((n + 1 : Nat) : Int); omega, by show (a : Int) + ((n + 1 : Nat) : Int) ≤ _; omega⟩ (by show -1 ≤ (k : Int); omega)
    · exact inF_rng hl n st (by omega) h h2
theorem outF_rng {l : List Rl} {word : List Int} {a len : Nat} (hl : word.length = len) (ha : a < len) : ∀ k, ((a : Int) < (outF l word a k).1 ∧ (outF l word a k).1 ≤ (len : Int)) ∧ -1 ≤ (outF l word a k).2
  | 0 => ⟨⟨by show (a : Int) < (a : Int) + 1; omega, by show (a : Int) + 1 ≤ _; omega⟩, by show (-1 : Int) ≤ -1; omega⟩
  | k + 1 => by
    obtain ⟨h1, h2⟩ := outF_rng hl ha k
    unfold outF
    exact inF_rng hl _ _ (by omega) h1 h2
theorem lgW_ok (l : List Rl) (word : List Int) : LgOk (lgW l word) word.length := fun a ha => by
  unfold lgW
  split
  · exact .inr (outF_rng rfl ha l.length).1
  · left; show (-1 : Int) ≤ 0; omega
/-- What no rule ends leaves the first guess. -/
theorem inF_none {l : List Rl} {word : List Int} {a k : Nat} : ∀ (n : Nat) (st : Int × Int), (inF l word a k n st).2 < 0 → inF l word a k n st = st
  | 0, st, _ => rfl
  | n + 1, st, h => by
    unfold inF at h ⊢
    split
    · rename_i q
      rw [if_pos q] at h
      have := inF_none n _ h
      rw [this] at h
      exact absurd h (by show ¬ (k : Int) < 0; omega)
    · rename_i q
      rw [if_neg q] at h
      exact inF_none n st h
theorem outF_none {l : List Rl} {word : List Int} {a : Nat} : ∀ k, (outF l word a k).2 < 0 → outF l word a k = ((a : Int) + 1, -1)
  | 0, _ => rfl
  | k + 1, h => by
    unfold outF at h ⊢
    have h1 := inF_none _ _ h
    rw [h1] at h ⊢
    exact outF_none k h
theorem piece_lgW (l : List Rl) (word : List Int) {a : Nat} (ha : a < word.length) : pieceF (lgW l word a) a = ⟨a, (outF l word a l.length).1, (outF l word a l.length).2⟩ := by
  unfold lgW
  split
  · unfold pieceF
    have := (outF_rng (l := l) rfl ha l.length).1.1
    rw [if_pos (by omega)]
  · rename_i q
    unfold pieceF
    rw [if_neg (by show ¬ (0 : Int) < -1; omega), outF_none l.length (by omega)]

set_option maxRecDepth 100000 in
set_option maxHeartbeats 6400000 in
theorem rwords_any (a : Option Addr) (n0 cap0 : Nat) (l : List Rl) (b : Option Addr) (len cap : Nat) (word : List Int) (w : World) (hR : Rs w a n0 l) (hn0 : n0 ≤ 1000) (hsh : ∀ x ∈ l, shapesE x.n x.t = true) (hz : word.length = len) (hl : len ≤ cap) (hc : cap ≤ maxLen) (hl2 : len ≤ 1000) (hW : Wd w b word) :
    Calls Tryz.prog 26 #[.slice a n0 cap0, .slice b len cap] w fun e w' => ∃ v, e = .returned v ∧ w'.ownsRow w.heap.size 30 3 v (cutW (lgW l word) len).length (cellsP9 (cutW (lgW l word) len)) ∧ Below w.heap.size w w' := by
  obtain ⟨iP, hiP, hzP, hsP, hbP⟩ := info_parts infoP
  have HR := hide hR
  have HW := hide hW
  have HSH := hide hsh
  have HLO := hide (show LgOk (lgW l word) len from hz ▸ lgW_ok l word)
  have HZ := hide hz
  have HL0 := hide hR.1
  have hcc := hc
  unfold maxLen at hcc
  clear hR hW hsh hz
  go_enter Tryz.func26, Tryz.ntmps26
  go_wp2_with fail
  go_loopw [5, 6] (fun v i wr => ∃ (ps : List Pc) (x f : Nat), x ≤ len ∧ len ≤ x + f ∧ ps.length ≤ x ∧ i = .int .i64 x ∧ cutW (lgW l word) len = ps ++ cutF (lgW l word) len f x ∧ wr.ownsRow w.heap.size 30 3 v ps.length (cellsP9 ps) ∧ Below w.heap.size w wr) (fun _ i _ => len - (intOf i).toNat)
  case atStart => exact ⟨[], 0, len, by omega, by omega, by simp, rfl, rfl, World.ownsRow_nil _ _ _ _, Below.refl _ _⟩
  case round =>
    obtain ⟨ps, x, f, hx, hf, hpl, rfl, hcut, hown, hb⟩ := hrel
    have HO := hide hown
    have HB := hide hb
    have HCUT := hide hcut
    clear hcut hb
    obtain ⟨va, vc, rfl⟩ := own_form hown
    clear hown
    by_cases hlt : x < len
    · obtain ⟨t, ht, ht1, ht2⟩ := piece_to HLO.out hlt
      have HNX := hide (cut_next HLO.out hlt hf ht ht1)
      have HPE := hide (piece_lgW l word (a := x) (by rw [HZ.out]; exact hlt))
      have HHT := hide ht
      have HB1 := hide (HB.out.alloc HB.out.size (.cells #[.int .i64 (x : Int), .int .i64 ((x : Int) + 1), .int .i64 (-1)] 30))
      have HBOX := hide (heap_alloc_last wr (.cells #[.int .i64 (x : Int), .int .i64 ((x : Int) + 1), .int .i64 (-1)] 30))
      have HO1 := hide (HO.out.alloc (.cells #[.int .i64 (x : Int), .int .i64 ((x : Int) + 1), .int .i64 (-1)] 30))
      have HOL := hide (fun k (hk : (Value.slice va ps.length vc).ownBlock = some k) => show k < wr.heap.size from (own_type HO.out hk).2.1)
      clear ht
      obtain ⟨L, hL⟩ : ∃ L, len - x = L := ⟨_, rfl⟩
      have eL : (len : Int) - (x : Int) = (L : Int) := by omega
      have eN : (L : Int) + 1 = ((L + 1 : Nat) : Int) := by omega
      obtain ⟨N, hN⟩ : ∃ N, L + 1 = N := ⟨_, rfl⟩
      rw [hN] at eN
      have HLL := hide (And.intro hL hN)
      clear hL
      go_wp2_with fail
      generalize wr.alloc (.cells #[.int .i64 (x : Int), .int .i64 ((x : Int) + 1), .int .i64 (-1)] 30) = WB at *
      generalize hq : wr.heap.size = q at *
      go_loopw [8] (fun i wr => ∃ (k : Nat) (st : Int × Int), k ≤ n0 ∧ i = .int .i64 k ∧ st = outF l word x k ∧ wr.heap[q]? = some (.cells #[.int .i64 (x : Int), .int .i64 st.1, .int .i64 st.2] 30 (0, 0)) ∧ wr.ownsRow w.heap.size 30 3 (.slice va ps.length vc) ps.length (cellsP9 ps) ∧ Below w.heap.size w wr) (fun i _ => n0 - (intOf i).toNat)
      case atStart => exact ⟨0, _, Nat.zero_le _, rfl, rfl, HBOX.out, HO1.out, HB1.out⟩
      case round =>
        obtain ⟨k, st, hk, rfl, hst, hbx, hown, hb⟩ := hrel
        have HST := hide hst
        have HBX := hide hbx
        have HO2 := hide hown
        have HB2 := hide hb
        clear hst hbx hown hb HBOX HO1 HB1
        by_cases hkn : k < n0
        · obtain ⟨rx, hrx⟩ : ∃ y, l[k]? = some y := ⟨_, List.getElem?_eq_getElem (by rw [HL0.out]; exact hkn)⟩
          obtain ⟨-, h0 | ⟨rb, ro, rfl, hcells⟩⟩ := rs_below HB2.out HR.out
          · omega
          obtain ⟨kk, ks', ka, kl, kc, r0, r1, r2, r3, r4, r5, r6⟩ := hcells k rx hrx
          obtain ⟨wb, wo, hwb, hw0⟩ := HW.out x (word[x]'(by rw [HZ.out]; exact hlt)) (List.getElem?_eq_getElem _)
          subst hwb
          have i1 : (0 : Int) ≤ (k : Int) := by omega
          have i2 : (k : Int) < (n0 : Int) := by omega
          have hmk : ∀ w, (Instr.makeSlice 70 (.int .i64 (N : Int)) (.int .i64 (N : Int))).run Tryz.prog w = .ok (.slice (some ⟨w.heap.size, 0, none⟩) N N) (w.alloc (.cells (rowB N fun _ => false) 4)) := make39 N (by omega)
          have hm0 := mk_new1 wr N
          obtain ⟨s0, s1⟩ := mk_cell hm0 (j := 0) (by omega)
          have i3 : (0 : Int) < (N : Int) := by omega
          have HMK := hide (show Mk (wr.alloc (.cells ((rowB N fun _ => false).setIfInBounds 0 (.bool true)) 4)) wr.heap.size N (fun j => decide (j = 0)) from by
            rw [rowB_set _ _ (show 0 < N by omega)]
            exact mk_congr (g := fun i => if i = 0 then true else false) (heap_alloc_last wr _) (fun j _ => by by_cases e : j = 0 <;> simp [e]))
          have HBF := hide ((Below.refl wr.heap.size wr).alloc (Nat.le_refl _) (.cells ((rowB N fun _ => false).setIfInBounds 0 (.bool true)) 4))
          have HRX := hide (fun (w' : World) (hb : Below w.heap.size w w') => (rs_below hb HR.out))
          have HSX := hide (HSH.out rx (List.mem_of_getElem? hrx))
          have HRXE := hide hrx
          have HRC := hide (show ∀ w', Below wr.heap.size wr w' → (w'.cell? ⟨rb, ro + k * 5 + 1, none⟩ = some (.int .u8 kk) ∧ w'.cell? ⟨rb, ro + k * 5 + 2, none⟩ = some (.int .u16 ks') ∧ w'.cell? ⟨rb, ro + k * 5 + 3, none⟩ = some (.slice ka kl kc)) ∧ Rx w' rx.n rx.t (.agg #[.int .u8 kk, .int .u16 ks', .slice ka kl kc]) from fun w' hb => ⟨⟨(hb.cell (p := ⟨rb, ro + k * 5 + 1, none⟩) (cell_lt r1)).trans r1, (hb.cell (p := ⟨rb, ro + k * 5 + 2, none⟩) (cell_lt r2)).trans r2, (hb.cell (p := ⟨rb, ro + k * 5 + 3, none⟩) (cell_lt r3)).trans r3⟩, rx_below hb _ _ _ r6⟩)
          clear hcells hw0 r0 r4 r5 hrx hm0 r1 r2 r3 r6
          go_upto_region 10 with fail
          clear s0 s1 hmk
          generalize wr.alloc (.cells ((rowB N fun _ => false).setIfInBounds 0 (.bool true)) 4) = wF at *
          obtain ⟨⟨r1, r2, r3⟩, -⟩ := HRC.out wF HBF.out
          have hxc : ¬ cap = x := by omega
          have HWD := hide (show Wd wF.drew (some ⟨wb, wo + x, none⟩) (word.drop x) from by
            have h1 := wd_drop (wd_below (show Below w.heap.size w wF from HB2.out.trans (HBF.out.mono HB2.out.size)) HW.out) x
            rw [Option.map_some, add_at] at h1
            exact h1)
          have HLD := hide (show (word.drop x).length = len - x by rw [List.length_drop, HZ.out])
          have HLN := hide (show ((len - x : Nat) : Int) + 1 = (N : Int) by have := HLL.out; omega)
          have HMD := hide (show Mk wF.drew wr.heap.size N (fun j => decide (j = 0)) from HMK.out)
          have HRD := hide (HRC.out wF.drew (HBF.out.drew)).2
          go_region_held3 (fun w' => w'.cell? ⟨rb, ro + k * 5 + 1, none⟩ = some (.int .u8 kk) ∧ w'.cell? ⟨rb, ro + k * 5 + 2, none⟩ = some (.int .u16 ks') ∧ w'.cell? ⟨rb, ro + k * 5 + 3, none⟩ = some (.slice ka kl kc)) (first | assumption | go_keep) ((go_at_call 49; refine (ends_any (word.drop x) rx.n rx.t _ (some ⟨wb, wo + x, none⟩) (len - x) N (cap - x) wr.heap.size (fun j => decide (j = 0)) wF.drew HLD.out HLN.out (by omega) HRD.out HSX.out HWD.out HMD.out).mono ?_; rintro e w5 ⟨F5, hF5, rfl, hm5, hb5⟩; have HM5 := hide hm5; have HB5 := hide hb5; have k8 := (HRC.out w5 ((HBF.out.drew).trans (hb5.mono (by have := HBF.out.size; exact this)))).1))
          all_goals
            have hqlt : q < wr.heap.size := (Array.getElem?_eq_some_iff.1 HBX.out).1
            have HBD := hide ((HBF.out.drew).trans (HB5.out.mono (by have := HBF.out.size; exact this)))
            have HBX5 := hide ((HBD.out.block q hqlt).trans HBX.out)
            have HO5 := hide (own_move (w' := w5) HO2.out (fun j hj => HBD.out.block j (own_type HO2.out hj).2.1))
            have HBW5 := hide (HB2.out.trans (HBD.out.mono HB2.out.size))
            have HFQ := hide (show F5 ≠ q by have h1 := HBF.out.size; have h2 : wF.heap.size ≤ F5 := hF5; omega)
            have HHW := hide (fun (m : Nat) => show hasW l word x k m = endsE (word.drop x) rx.n rx.t (fun j => decide (j = 0)) m from by unfold hasW; rw [HRXE.out])
            obtain ⟨E, hE⟩ : ∃ E, endsE (word.drop x) rx.n rx.t (fun j => decide (j = 0)) = E := ⟨_, rfl⟩
            rw [hE] at HM5 HHW
            clear hE r1 r2 r3 k8 hb5 hm5 hqlt hxc HMK HBX HO2 HB2
            go_wp2_with fail
            go_loopw [11] (fun i wr => ∃ (m : Nat) (st' : Int × Int), m ≤ L ∧ i = .int .i64 m ∧ inF l word x k m st' = inF l word x k L st ∧ wr.heap[q]? = some (.cells #[.int .i64 (x : Int), .int .i64 st'.1, .int .i64 st'.2] 30 (0, 0)) ∧ wr.ownsRow w.heap.size 30 3 (.slice va ps.length vc) ps.length (cellsP9 ps) ∧ Mk wr F5 N E ∧ Below w.heap.size w wr) (fun i _ => (intOf i).toNat)
            case atStart => exact ⟨L, st, Nat.le_refl _, rfl, rfl, HBX5.out, HO5.out, HM5.out, HBW5.out⟩
            case round =>
              obtain ⟨m, st', hm, rfl, hin, hbx, hown, hmk, hb⟩ := hrel
              have HIN := hide hin
              have HBX6 := hide hbx
              have HO6 := hide hown
              have HM6 := hide hmk
              have HB6 := hide hb
              clear hin hbx hown hmk hb HBX5 HO5 HM5 HBW5
              obtain ⟨t1, t2⟩ := st'
              replace HBX6 : Hid (wr.heap[q]? = some (.cells #[.int .i64 (x : Int), .int .i64 t1, .int .i64 t2] 30 (0, 0))) := HBX6
              obtain ⟨g0, g1, g2, gz⟩ := p_cells HBX6.out
              have z1 := gz 1
              have z2 := gz 2
              by_cases hm0 : m = 0
              · subst hm0
                have HST2 := hide (show (t1, t2) = outF l word x (k + 1) from by
                  show _ = inF l word x k (word.length - x) (outF l word x k)
                  rw [HZ.out, HLL.out.1, ← HST.out, ← HIN.out]; rfl)
                go_wp2
                go_roundw
                case rel => exact ⟨k + 1, (t1, t2), by omega, by go_num, HST2.out, HBX6.out, HO6.out, HB6.out⟩
                case measure => simp [intOf]; omega
              · obtain ⟨m', rfl⟩ : ∃ m', m = m' + 1 := ⟨m - 1, by omega⟩
                have dm : decide ((0 : Int) < ((m' + 1 : Nat) : Int)) = true := decide_eq_true (by omega)
                have hmN : m' + 1 < N := by omega
                obtain ⟨y0, -⟩ := mk_cell HM6.out hmN
                have y1 : (0 : Int) ≤ ((m' + 1 : Nat) : Int) := by omega
                have y2 : ((m' + 1 : Nat) : Int) < (N : Int) := by omega
                have eM : ((m' + 1 : Nat) : Int) - 1 = (m' : Int) := by omega
                obtain ⟨M, hM⟩ : ∃ M, m' + 1 = M := ⟨_, rfl⟩
                have HMM := hide hM
                have hstep := HIN.out
                rw [show inF l word x k (m' + 1) (t1, t2) = inF l word x k m' (if hasW l word x k (m' + 1) = true ∧ (t2 < 0 ∨ t1 < (x : Int) + ((m' + 1 : Nat) : Int)) then ((x : Int) + ((m' + 1 : Nat) : Int), (k : Int)) else (t1, t2)) from rfl, HHW.out] at hstep
                rw [hM] at dm hmN y0 y1 y2 eM hstep hm ⊢
                obtain ⟨zz, ezz⟩ : ∃ zz : Nat, (x : Int) + (M : Int) = (zz : Int) := ⟨x + M, by omega⟩
                rw [ezz] at hstep
                have HSTEP := hide hstep
                clear hstep hM
                cases hEM : E M
                · rw [hEM] at y0
                  have HS2 := hide (show inF l word x k m' (t1, t2) = inF l word x k L st from by
                    have := HSTEP.out
                    rw [hEM, if_neg (by simp)] at this
                    exact this)
                  clear hEM
                  go_wp2
                  go_roundw
                  case rel => exact ⟨m', (t1, t2), by have := HMM.out; omega, by first | rfl | rw [eM] | go_num, HS2.out, HBX6.out, HO6.out, HM6.out, HB6.out⟩
                  case measure => have := HMM.out; simp [intOf]; omega
                · rw [hEM] at y0
                  by_cases c : t2 < 0 ∨ t1 < (zz : Int)
                  · have HS2 := hide (show inF l word x k m' ((zz : Int), (k : Int)) = inF l word x k L st from by
                      have := HSTEP.out
                      rw [hEM, if_pos ⟨rfl, c⟩] at this
                      exact this)
                    have HBX7 := hide (show ((wr.setCell ⟨q, 1, none⟩ (.int .i64 (zz : Int))).setCell ⟨q, 2, none⟩ (.int .i64 (k : Int))).heap[q]? = some (.cells #[.int .i64 (x : Int), .int .i64 (zz : Int), .int .i64 (k : Int)] 30 (0, 0)) by rw [blk_set (blk_set HBX6.out 1 _) 2 _]; rfl)
                    have hnq : (Value.slice va ps.length vc).ownBlock ≠ some q := fun e => by have := HOL.out q e; omega
                    have HO7 := hide (set_far (i := 2) (u := .int .i64 (k : Int)) (set_far (i := 1) (u := .int .i64 (zz : Int)) HO6.out hnq) hnq)
                    have HM7 := hide (mk_other (mk_other HM6.out HFQ.out 1 (.int .i64 (zz : Int))) HFQ.out 2 (.int .i64 (k : Int)))
                    have hwq : w.heap.size ≤ q := by have := HB.out.size; omega
                    have HB7 := hide ((HB6.out.setCell (p := ⟨q, 1, none⟩) hwq (.int .i64 (zz : Int))).setCell (p := ⟨q, 2, none⟩) hwq (.int .i64 (k : Int)))
                    clear hEM hnq hwq
                    by_cases c1 : t2 < 0
                    · have d1 : decide (t2 < 0) = true := by simp [c1]
                      clear c c1
                      go_wp2
                      go_roundw
                      case rel => exact ⟨m', ((zz : Int), (k : Int)), by have := HMM.out; omega, by first | rfl | rw [eM] | go_num, HS2.out, HBX7.out, HO7.out, HM7.out, HB7.out⟩
                      case measure => have := HMM.out; simp [intOf]; omega
                    · have d1 : decide (t2 < 0) = false := by simp; omega
                      have c2 : t1 < (zz : Int) := by rcases c with c | c; exact absurd c c1; exact c
                      have d2 : decide (t1 < (zz : Int)) = true := by simp [c2]
                      clear c
                      go_wp2
                      go_roundw
                      case rel => exact ⟨m', ((zz : Int), (k : Int)), by have := HMM.out; omega, by first | rfl | rw [eM] | go_num, HS2.out, HBX7.out, HO7.out, HM7.out, HB7.out⟩
                      case measure => have := HMM.out; simp [intOf]; omega
                  · have HS2 := hide (show inF l word x k m' (t1, t2) = inF l word x k L st from by
                      have := HSTEP.out
                      rw [hEM, if_neg (fun q => c q.2)] at this
                      exact this)
                    have d1 : decide (t2 < 0) = false := by simp; omega
                    have d2 : decide (t1 < (zz : Int)) = false := by simp; omega
                    clear hEM c
                    go_wp2
                    go_roundw
                    case rel => exact ⟨m', (t1, t2), by have := HMM.out; omega, by first | rfl | rw [eM] | go_num, HS2.out, HBX6.out, HO6.out, HM6.out, HB6.out⟩
                    case measure => have := HMM.out; simp [intOf]; omega
        · have ek : k = n0 := by omega
          obtain ⟨t1, t2⟩ := st
          have HPF := hide (show pieceF (lgW l word x) x = ⟨(x : Int), t1, t2⟩ by
            have h1 := HPE.out
            rw [HL0.out, ← ek, ← HST.out] at h1
            exact h1)
          have HET := hide (show t1 = (t : Int) by have := HHT.out; rw [HPF.out] at this; exact this)
          have dkn : decide ((k : Int) < (n0 : Int)) = false := by simp; omega
          replace HBX : Hid (wr.heap[q]? = some (.cells #[.int .i64 (x : Int), .int .i64 t1, .int .i64 t2] 30 (0, 0))) := HBX
          obtain ⟨g0, g1, g2, -⟩ := p_cells HBX.out
          obtain ⟨np, hnp⟩ : ∃ np, ps.length = np := ⟨_, rfl⟩
          have HNP := hide hnp
          rw [hnp] at hpl
          have HOX' := hide (show wr.ownsRow w.heap.size 30 3 (.slice va np vc) np (cellsP9 ps) from hnp ▸ HO2.out)
          have HSZ := hide (show w.heap.size ≤ (wr.alloc (.cells #[.int .i64 (x : Int), .int .i64 t1, .int .i64 t2] 30)).heap.size by have := HB2.out.size; simp; omega)
          have hqlt : q < wr.heap.size := (Array.getElem?_eq_some_iff.1 HBX.out).1
          rw [hnp]
          clear ek hnp
          go_wp2_with (first
            | (at_builtin; refine wpList_append_lies _ rfl _ _ 26 rfl w.heap.size 30 iP (.agg #[.int .i64 0, .int .i64 0, .int .i64 0]) 3 24 Tryz.underlying26 hiP hzP hsP hbP (by simp [Value.cells]) (by decide) _ np (cellsP9 ps) rfl (HOX'.out.alloc _) ⟨_, 0, none⟩ 1 1 [.int .i64 (x : Int), .int .i64 t1, .int .i64 t2] rfl rfl (three_new _ _ _ _ _) (fun u hu => by simp only [List.mem_cons, List.not_mem_nil, or_false] at hu; rcases hu with rfl | rfl | rfl <;> rfl) (by decide) (by unfold maxLen; omega) (by omega) HSZ.out _ rfl ?_; intro g' cap' w3 hown3 hg3 hat3 hlt3; have hx3 : w3.heap[q]? = some (.cells #[.int .i64 (x : Int), .int .i64 t1, .int .i64 t2] 30 (0, 0)) := ((hg3.block q (by simp; omega) (fun e => by have := HOL.out q (by rw [← HNP.out] at e; exact e.symm); omega)).trans (Below.heap_alloc _ _ _ hqlt)).trans HBX.out; have g4 := (p_cells hx3).2.1))
          have hb3 := (HB2.out.alloc HB2.out.size (.cells #[.int .i64 (x : Int), .int .i64 t1, .int .i64 t2] 30)).grown hg3 HSZ.out (fun kk hkk => (own_type HOX'.out hkk).1)
          have hlen : (ps ++ [(⟨(x : Int), t1, t2⟩ : Pc)]).length = np + 1 := by simp [HNP.out]
          have hcells : cellsP9 (ps ++ [(⟨(x : Int), t1, t2⟩ : Pc)]) = cellsP9 ps ++ [.int .i64 (x : Int), .int .i64 t1, .int .i64 t2] := by rw [cellsP_app]; rfl
          go_roundw
          case rel => exact ⟨ps ++ [⟨(x : Int), t1, t2⟩], t, f, by omega, by omega, by rw [hlen]; omega, by rw [HET.out], by rw [HCUT.out, HNX.out, HPF.out, List.append_assoc]; rfl, by rw [hlen, hcells]; exact hown3, hb3⟩
          case measure =>
            have e7 := HET.out
            simp [intOf]; omega
    · have e : x = len := by omega
      have HEND := hide (show cutW (lgW l word) len = ps from by rw [HCUT.out, cut_end _ _ _ (by omega), List.append_nil])
      subst e
      go_wp2
      go_ret
      exact ⟨_, rfl, by rw [HEND.out]; exact HO.out, HB.out⟩
end Go.Proofs.YtbbfjjjnifomgaaGreatDoor.A



/- The document's Nodes and Regexes of rules. -/
namespace Go.Proofs.YtbbfjjjnifomgaaGreatDoor.A
open Go.RowKit
set_option linter.unusedVariables false

/-- How many nodes rules have. -/
def nodesL (l : List Rl) : Nat := (l.map fun x => nodesE x.n x.t).sum
theorem nodesL_le {l : List Rl} (h : ∀ x ∈ l, x.n ≤ 1000) : nodesL l ≤ 100000 * l.length := by
  induction l with
  | nil => exact Nat.le_refl _
  | cons x r ih =>
    have h1 := ih fun y hy => h y (List.mem_cons_of_mem _ hy)
    have h2 := h x List.mem_cons_self
    have h3 := nodes_le x.n x.t
    have h4 : nodesL (x :: r) = nodesE x.n x.t + nodesL r := rfl
    rw [h4, List.length_cons]
    omega
theorem nodesL_take {l : List Rl} {i : Nat} {x : Rl} (h : l[i]? = some x) : nodesL (l.take (i + 1)) = nodesL (l.take i) + nodesE x.n x.t := by
  rw [take_at h]
  unfold nodesL
  rw [List.map_append, List.sum_append]
  rfl

set_option maxRecDepth 100000 in
set_option maxHeartbeats 1600000 in
theorem rnodesL_any (a : Option Addr) (n0 cap0 : Nat) (l : List Rl) (w : World) (hR : Rs w a n0 l) (hn0 : n0 ≤ 1000) (hd : ∀ x ∈ l, x.n ≤ 1000) :
    Calls Tryz.prog 20 #[.slice a n0 cap0] w fun e w' => e = .returned (.int .i64 (nodesL l : Nat)) ∧ Below w.heap.size w w' := by
  have HR := hide hR
  have HL0 := hide hR.1
  have HD := hide hd
  have HTOT := hide (show nodesL l ≤ 100000000 from by have := nodesL_le hd; have := hR.1; omega)
  clear hR hd
  go_enter Tryz.func20, Tryz.ntmps20
  go_wp2_with fail
  go_loopw [3, 4] (fun s i wr => ∃ (k d : Nat), k ≤ n0 ∧ i = .int .i64 k ∧ s = .int .i64 d ∧ d = nodesL (l.take k) ∧ Below w.heap.size w wr) (fun _ i _ => n0 - (intOf i).toNat)
  case atStart => exact ⟨0, 0, Nat.zero_le _, rfl, rfl, rfl, Below.refl _ _⟩
  case round =>
    obtain ⟨k, d, hk, rfl, rfl, hst, hb⟩ := hrel
    have HB := hide hb
    have HST := hide hst
    clear hb hst
    by_cases hkn : k < n0
    · obtain ⟨rx, hrx⟩ : ∃ y, l[k]? = some y := ⟨_, List.getElem?_eq_getElem (by rw [HL0.out]; exact hkn)⟩
      obtain ⟨-, h0 | ⟨rb, ro, rfl, hcells⟩⟩ := rs_below HB.out HR.out
      · omega
      obtain ⟨kk, ks', ka, kl, kc, r0, r1, r2, r3, r4, r5, r6⟩ := hcells k rx hrx
      have HRX := hide r6
      have HN := hide (show d + nodesE rx.n rx.t = nodesL (l.take (k + 1)) from by rw [nodesL_take hrx, HST.out])
      have hle : nodesL (l.take (k + 1)) ≤ 100000000 := Nat.le_trans (by
        have e : nodesL l = nodesL (l.take (k + 1)) + nodesL (l.drop (k + 1)) := by
          unfold nodesL
          rw [← List.sum_append, ← List.map_append, List.take_append_drop]
        omega) HTOT.out
      have hdx := HD.out rx (List.mem_of_getElem? hrx)
      have HDX := hide hdx
      have eN := HN.out
      have h1 : (k : Int) < (n0 : Int) := by omega
      have h2 : (0 : Int) ≤ (k : Int) := by omega
      clear hcells hrx hdx r0 r4 r5 r6
      obtain ⟨X, hX⟩ : ∃ X, nodesE rx.n rx.t = X := ⟨_, rfl⟩
      have HX := hide hX
      rw [hX] at eN
      clear hX
      obtain ⟨T, hT⟩ : ∃ T, nodesL (l.take (k + 1)) = T := ⟨_, rfl⟩
      have HT := hide hT
      rw [hT] at eN hle
      clear hT
      have e3 : (d : Int) + (X : Int) = (T : Int) := by omega
      go_wp2_with (first
        | (go_at_call 39; refine (rnodes_any rx.n rx.t _ _ HDX.out HRX.out).mono ?_; rintro e w5 ⟨rfl, hb5⟩; have HB5 := hide hb5; rw [HX.out])
        | fail)
      go_roundw
      case rel => exact ⟨k + 1, T, by omega, by go_num, by first | rfl | rw [e3] | go_num, HT.out.symm, HB.out.trans (HB5.out.mono HB.out.size)⟩
      case measure => simp [intOf]; omega
    · have e : k = n0 := by omega
      have HE := hide (show nodesL (l.take k) = nodesL l from by rw [e, ← HL0.out, List.take_length])
      subst e
      go_wp2_with fail
      go_ret
      exact ⟨by rw [HST.out, HE.out]; rfl, HB.out⟩
end Go.Proofs.YtbbfjjjnifomgaaGreatDoor.A


