/- The program's Small. -/
import Derived.OpenShut
import Derived.Lib.LaidTab
import Derived.Below
import Derived.Outline
import Derived.Deep.Heap
import Derived.Deep.OwnRows
import Derived.Deep.QuietTactic
import Derived.Deep.Slices
import Derived.ProofKit
import Derived.WalkKit
import Derived.WalkSpells
import Derived.WalkLawsBesides
import Derived.Deep.WholeRow
import Derived.Deep.MidRow
import Derived.DeepKeys5
import Derived.Maps.OwnSet
import Derived.Maps.OwnOps
import Derived.Maps.AppendAt
import Derived.Maps.RangeWalk
import Derived.Deep.RegionLaw
import Derived.Deep.Cut
import Derived.Deep.CutRange
import Derived.Deep.RegionHeld3
import Derived.Deep.AppendLies
import Derived.BigQuiet
import Derived.Laws.Tables
import Derived.Laws.Rows
import Derived.Laws.CopyOwn
import Derived.Shelf.Small.Strs
import Derived.Shelf.Strconv.Itoa0
import Derived.Shelf.Strconv.Itoa1
import Derived.Shelf.LaysM
import Derived.Shelf.Strconv.Itoa2
import Derived.Shelf.Strconv.Clone
import Derived.Shelf.Strings.Search1
import Derived.Shelf.Strings.Search2
import Derived.Shelf.Strings.Search3
import Derived.Shelf.Strings.Count
import Derived.Shelf.Strings.Shaped
import Derived.Shelf.Strconv.AppendUint10
import Derived.Shelf.Strconv.AppendInt10
import Derived.Shelf.Strconv.AppendIntPublic10
import Derived.Shelf.Strings.Split
import Derived.Shelf.Strings.SplitShaped
import Derived.Shelf.Bits.Mul64
import Derived.Shelf.Unicode.DecodeSlow
import Derived.Ground.Names2Prog
import Derived.Shelf.Slices.Clone
import Derived.Ground.SlgnProg
import Derived.Shelf.SlicesE.Clone
import Derived.Deep.LoopGhost
import Derived.Maps.Keyed
import Derived.BigRegion
import Derived.Deep.AppendSrc
import Derived.Deep.Strs
import Derived.Laws.AppendOwnNone
import Derived.Laws.AppendOwn
import Derived.Laws.IdiomStrings
import Derived.Laws.BytesArg
import Derived.LaidMore
import Derived.HandedShaped
import Derived.Shelf.Vars
import Derived.MakeChecks
import Derived.Stop.LaidErr
import Derived.Laws.OwnMore
import Derived.OwnWalk
import Derived.Defers
import Derived.Recover
import Derived.Lib.SplitLaws
import Derived.Test.YtbbfjjjnifomgaaGreatDoorK1
import Derived.Test.YtbbfjjjnifomgaaGreatDoorK4
import Derived.Test.YtbbfjjjnifomgaaGreatDoorK6
import Derived.Test.YtbbfjjjnifomgaaGreatDoorK8
import Derived.Test.YtbbfjjjnifomgaaGreatDoorK11
import Derived.Test.YtbbfjjjnifomgaaGreatDoorK13
import Derived.Test.YtbbfjjjnifomgaaGreatDoorK20
import Derived.Test.YtbbfjjjnifomgaaGreatDoorK23
import Derived.Test.YtbbfjjjnifomgaaGreatDoorK24
import Derived.Test.YtbbfjjjnifomgaaGreatDoorK25
import Derived.Test.YtbbfjjjnifomgaaGreatDoorK26
import Derived.Test.YtbbfjjjnifomgaaGreatDoorK27
import Derived.Test.YtbbfjjjnifomgaaGreatDoorK29
import Derived.Test.YtbbfjjjnifomgaaGreatDoorK30
import Derived.Test.YtbbfjjjnifomgaaGreatDoorK33
import Derived.Test.YtbbfjjjnifomgaaGreatDoorK35
import Derived.Test.YtbbfjjjnifomgaaGreatDoorK36
import Derived.Test.YtbbfjjjnifomgaaGreatDoorK37
import Derived.Test.YtbbfjjjnifomgaaGreatDoorK38
import Derived.Test.YtbbfjjjnifomgaaGreatDoorK39
namespace Go.Proofs.YtbbfjjjnifomgaaGreatDoor.A
open Go.RowKit Go.Maps
set_option linter.unusedVariables false
attribute [local go_sem ↓] wp_build25s wp_load63s
attribute [local go_sem] isBlk_agg cells_agg rowM_drew rowMok_drew

theorem msmall_no (a0 a1 : Option Addr) (n0 n1 c0 c1 : Nat) (nx : List (List Int)) (ru : List Int) (w : World) (hm : Dm w a0 a1 n0 n1 nx ru) (hr : rightD nx ru = false) :
    Calls Tryz.prog 82 #[.agg #[.slice a0 n0 c0, .slice a1 n1 c1]] w fun e w' => e = .returned (.agg #[.slice none 0 0, .slice none 0 0]) ∧ Below w.heap.size w w' := by
  have HBX := hide (heap_alloc_last w (.cells #[.slice a0 n0 c0, .slice a1 n1 c1] 25))
  have hb0 := (Below.refl w.heap.size w).alloc (Nat.le_refl _) (.cells #[.slice a0 n0 c0, .slice a1 n1 c1] 25)
  have hb1 := hb0.alloc (by simp) (.cells #[.slice none 0 0, .slice none 0 0] 25)
  have HN2 := hide (show ((w.alloc (.cells #[.slice a0 n0 c0, .slice a1 n1 c1] 25)).alloc (.cells #[.slice none 0 0, .slice none 0 0] 25)).heap[w.heap.size + 1]? = some (.cells #[.slice none 0 0, .slice none 0 0] 25 (0, 0)) from by
    have h := nil2 (w.alloc (.cells #[.slice a0 n0 c0, .slice a1 n1 c1] 25))
    rw [show (w.alloc (.cells #[.slice a0 n0 c0, .slice a1 n1 c1] 25)).heap.size = w.heap.size + 1 by simp] at h
    exact h)
  obtain ⟨p0, p1, -⟩ := d_cells ((Below.heap_alloc (w.alloc (.cells #[.slice a0 n0 c0, .slice a1 n1 c1] 25)) (.cells #[.slice none 0 0, .slice none 0 0] 25) w.heap.size (by simp)).trans HBX.out)
  have hm2 := dm_below' hb1 hm
  have HB1 := hide hb1
  have HC := hide (dright_any a0 a1 n0 n1 c0 c1 nx ru _ hm2.l0 hm2.l1 hm2.dr hm2.wd hm2.m0 hm2.m1)
  rw [hr] at HC
  clear hb0 hb1 hm hm2 hr HBX
  go_enter Tryz.func82, Tryz.ntmps82
  go_wp2_with fail
  generalize (w.alloc (.cells #[.slice a0 n0 c0, .slice a1 n1 c1] 25)).alloc (.cells #[.slice none 0 0, .slice none 0 0] 25) = W at *
  refine HC.out.mono ?_
  rintro e w1 ⟨rfl, hb1⟩
  have h1 := (hb1.block (w.heap.size + 1) (Array.getElem?_eq_some_iff.1 HN2.out).1).trans HN2.out
  have HB2 := hide (HB1.out.trans (hb1.mono HB1.out.size))
  have HWF := hide (set2 (x := .slice none 0 0) (y := .slice none 0 0) h1)
  have HBF := hide (below_set2 (x := .slice none 0 0) (y := .slice none 0 0) HB2.out (Nat.le_succ w.heap.size))
  obtain ⟨q0, q1, qz⟩ := d_cells h1
  have y0 := qz 0
  have y1 := qz 1
  clear hb1 h1 qz p0 p1 HC
  go_wp2
  obtain ⟨m0, m1, -⟩ := d_cells HWF.out
  refine bodyPost_ret (v := .agg #[.slice none 0 0, .slice none 0 0]) (by simp [results, Tryz.results82, go_sem, m0, m1]) rfl ?_
  exact ⟨rfl, HBF.out⟩

/-- An entry of the map that a literal makes. -/
theorem wp_insert43 {ops : Array Oper} {rest : List Oper} {o : Oper} {a : Act} {w : World} {Q : Exit → Act → World → Prop} (hg : o.guard = none) (m x v : Operand) (hop : o.op = Op.insert 163 m x v)
    (b n : Nat) (D : DataW Unit) (hm : a.eval m = .map (some b)) (hown : w.ownsMap Tryz.prog 3 (plainElem Tryz.prog 3) b n D) (hn : n < maxLen) {z y : Int} (hx : a.eval x = .int .i64 z) (hv : a.eval v = .int .i64 y) (hz : keyOf Tryz.prog 3 (.int .i64 z) = some (kN z)) (hy : (Lit.int .i64 y).wf = true)
    (hK : ∀ w', w'.ownsMap Tryz.prog 3 (plainElem Tryz.prog 3) b (n + 1) (D.put (kN z) (.lit (.int .i64 y))) → w.grownBy w' (some b) → wpList Tryz.prog ops Q rest (a.put o.dst undef) w') :
    wpList Tryz.prog ops Q (o :: rest) a w :=
  wpList_plain hg fun K' hK' => by
    obtain ⟨w', hrun, h1, h2⟩ := hown.update law3 Tryz.underlying163 hn hz (plainElem_int Tryz.underlying3 hy)
    have h3 := hK' _ _ (hK w' h1 h2)
    unfold Oper.wp
    simp [execOp, hop, hm, hx, hv, hrun, Result.andThen]
    exact h3

/-- As ResS, and both lists lie in memory of their own. -/
def ResO (w : World) (σ : List (List Int) × List (List Int) × List Int) (e : Ending) (w' : World) : Prop :=
  ∃ b0 b1 d0 d1, e = .returned (.agg #[.slice b0 σ.2.1.length d0, .slice b1 σ.2.2.length d1]) ∧ Dr w' b0 σ.2.1 ∧ Wd w' b1 σ.2.2 ∧ Below w.heap.size w w' ∧ (∀ a, b0 = some a → w.heap.size ≤ a.block) ∧ ∀ a, b1 = some a → w.heap.size ≤ a.block
set_option maxRecDepth 100000 in
set_option maxHeartbeats 6400000 in
theorem msmall_yes (a0 a1 : Option Addr) (n c0 c1 : Nat) (nx : List (List Int)) (ru : List Int) (w : World) (hm : Dm w a0 a1 n n nx ru) (hr : rightD nx ru = true) (hx : Mx nx ru n) :
    Calls Tryz.prog 82 #[.agg #[.slice a0 n c0, .slice a1 n c1]] w fun e w' => ∃ F, IsCls nx ru n F ∧ ResO w (smF8 nx ru n (AC F) (GC F) 201) e w' := by
  obtain ⟨i41, hi41, hz41, hs41, hb41⟩ := info_parts info66'
  obtain ⟨i3, hi3, hz3, hs3, hb3⟩ := info_parts info3
  have hn2 := hx.most
  have hn1 := hx.pos
  have HBX := hide (heap_alloc_last w (.cells #[.slice a0 n c0, .slice a1 n c1] 25))
  have hb0 := (Below.refl w.heap.size w).alloc (Nat.le_refl _) (.cells #[.slice a0 n c0, .slice a1 n c1] 25)
  have HB0 := hide hb0
  have HM := hide (dm_below' hb0 hm)
  have HX := hide hx
  have HS := hide (show (w.alloc (.cells #[.slice a0 n c0, .slice a1 n c1] 25)).heap.size = w.heap.size + 1 by simp)
  have HN2 := hide (nil2 (w.alloc (.cells #[.slice a0 n c0, .slice a1 n c1] 25)))
  have HBN := hide ((Below.refl (w.alloc (.cells #[.slice a0 n c0, .slice a1 n c1] 25)).heap.size (w.alloc (.cells #[.slice a0 n c0, .slice a1 n c1] 25))).alloc (Nat.le_refl _) (.cells #[.slice none 0 0, .slice none 0 0] 25))
  have HSN := hide (show ((w.alloc (.cells #[.slice a0 n c0, .slice a1 n c1] 25)).alloc (.cells #[.slice none 0 0, .slice none 0 0] 25)).heap.size = w.heap.size + 2 by simp)
  have HR := hide hr
  clear hb0 hm hx hr
  go_enter Tryz.func82, Tryz.ntmps82
  go_upto_region 1 with fail
  generalize w.alloc (.cells #[.slice a0 n c0, .slice a1 n c1] 25) = W1 at *
  generalize W1.alloc (.cells #[.slice none 0 0, .slice none 0 0] 25) = W2 at *
  rw [HS.out] at HN2 HBN
  have HW2 := hide (show ∀ wr, Below W2.heap.size W2 wr → (wr.cell? ⟨w.heap.size, 0, none⟩ = some (.slice a0 n c0) ∧ wr.cell? ⟨w.heap.size, 1, none⟩ = some (.slice a1 n c1)) ∧ Dm wr a0 a1 n n nx ru ∧ wr.heap[w.heap.size + 1]? = some (.cells #[.slice none 0 0, .slice none 0 0] 25 (0, 0)) from fun wr hb => by
    have hs := HSN.out
    have h0 : Below (w.heap.size + 1) W1 wr := HBN.out.trans (hb.mono (by omega))
    have h1 := (h0.block w.heap.size (by omega)).trans HBX.out
    obtain ⟨q0, q1, -⟩ := d_cells h1
    exact ⟨⟨q0, q1⟩, dm_below' (by rw [HS.out]; exact h0) HM.out, (hb.block _ (by omega)).trans HN2.out⟩)
  obtain ⟨⟨p0, p1⟩, hdm, -⟩ := HW2.out W2 (Below.refl _ _)
  have HC := hide (dright_any a0 a1 n n c0 c1 nx ru W2 hdm.l0 hdm.l1 hdm.dr hdm.wd hdm.m0 hdm.m1)
  rw [HR.out] at HC
  clear hdm
  go_wp2_with fail
  refine HC.out.mono ?_
  rintro e w4 ⟨rfl, hb4⟩
  have HB4 := hide hb4
  obtain ⟨⟨p0', p1'⟩, hdm, -⟩ := HW2.out w4 hb4
  have HDM4 := hide hdm
  clear hb4 hdm HC p0 p1
  go_wp2_with fail
  refine (classes_any a0 a1 n c0 c1 nx ru w4 HX.out HDM4.out).mono ?_
  rintro e w5 ⟨F, C, hcl, rfl, hik, hC, hb5⟩
  have HB5 := hide (HB4.out.trans (hb5.mono HB4.out.size))
  have HCL := hide hcl
  have HIK := hide hik
  have HW3 := hide (show ∀ wr, Below w5.heap.size w5 wr → (wr.cell? ⟨w.heap.size, 0, none⟩ = some (.slice a0 n c0) ∧ wr.cell? ⟨w.heap.size, 1, none⟩ = some (.slice a1 n c1)) ∧ Dm wr a0 a1 n n nx ru ∧ wr.heap[w.heap.size + 1]? = some (.cells #[.slice none 0 0, .slice none 0 0] 25 (0, 0)) from fun wr hb => HW2.out wr (HB5.out.trans (hb.mono HB5.out.size)))
  have hCB : C < w5.heap.size := ik_lt hik
  have hF0 := hcl.rng 0 (by omega)
  have hmp := World.ownsMap_made (w5.alloc (.cells #[.int .i64 0] 3)) Tryz.prog 3 (plainElem (H := Unit) Tryz.prog 3)
  rw [show (w5.alloc (.cells #[.int .i64 0] 3)).heap.size = w5.heap.size + 1 by simp] at hmp
  have HMP := hide hmp
  have hb6 := ((Below.refl w5.heap.size w5).alloc (Nat.le_refl _) (.cells #[.int .i64 0] 3)).alloc (by simp) (.map #[] 0)
  have HB6 := hide hb6
  have HIK6 := hide (ik_old hb6 hik)
  have HFV := hide (show ((w5.alloc (.cells #[.int .i64 0] 3)).alloc (.map #[] 0)).ownsRow w5.heap.size 3 1 (.slice (some ⟨w5.heap.size, 0, none⟩) 1 1) 1 [.int .i64 0] from (own_one w5 w5.heap.size (.int .i64 0) 3 (Nat.le_refl _)).alloc _)
  have HS6 := hide (show ((w5.alloc (.cells #[.int .i64 0] 3)).alloc (.map #[] 0)).heap.size = w5.heap.size + 2 by simp)
  obtain ⟨k0, -⟩ := ik_cell HIK6.out (show 0 < n by omega)
  obtain ⟨k0', -⟩ := ik_cell HIK.out (show 0 < n by omega)
  have HKY := hide (key3 hF0.1 (show F 0 ≤ 10000 by omega))
  have hmm := @run_makeMap Tryz.prog
  have j1 : (0 : Int) < (n : Int) := by omega
  clear hcl hik hb5 hmp hb6 p0' p1'
  go_wp2_with (first
    | (refine wp_insert43 rfl _ _ _ rfl (w5.heap.size + 1) 0 (.map []) rfl HMP.out (by unfold maxLen; omega) rfl rfl HKY.out (by decide) ?_; intro w7 hown7 hg7; have HG7 := hide hg7; have HO7 := hide hown7; clear hown7 hg7))
  have HB9 := hide (show Below w5.heap.size w5 ((w7.alloc (.cells #[.slice (some ⟨C, 0, none⟩) n n, .slice (some ⟨w5.heap.size, 0, none⟩) 1 1, .map (some (w5.heap.size + 1))] 165)).alloc (.cells #[.slice none 0 0, .slice none 0 0] 25)) from by
    have h6 := HS6.out
    have h7 := HG7.out.size
    exact ((HB6.out.grown HG7.out (by omega) (fun q hq => by cases hq; omega)).alloc (by omega) _).alloc (by simp; omega) _)
  have HSN9 := hide (show Sn ((w7.alloc (.cells #[.slice (some ⟨C, 0, none⟩) n n, .slice (some ⟨w5.heap.size, 0, none⟩) 1 1, .map (some (w5.heap.size + 1))] 165)).alloc (.cells #[.slice none 0 0, .slice none 0 0] 25)) w5.heap.size n w7.heap.size (w5.heap.size + 1) C (w7.heap.size + 1) F (.slice (some ⟨w5.heap.size, 0, none⟩) 1 1) (.slice none 0 0) (.slice none 0 0) [0] [] [] from by
    have h6 := HS6.out
    have h7 := HG7.out.size
    have hC7 : Ik w7 C n F := (HG7.out.block C (by omega) (fun e => by have := Option.some.inj e; omega)).trans HIK6.out
    have hf7 : w7.ownsRow w5.heap.size 3 1 (.slice (some ⟨w5.heap.size, 0, none⟩) 1 1) 1 [.int .i64 0] := own_move HFV.out (fun k hk => by
      have e : w5.heap.size = k := by simpa [Value.ownBlock] using hk
      subst e
      exact HG7.out.block _ (by omega) (fun e => by have := Option.some.inj e; omega))
    have two : ∀ k, k < w7.heap.size → ((w7.alloc (.cells #[.slice (some ⟨C, 0, none⟩) n n, .slice (some ⟨w5.heap.size, 0, none⟩) 1 1, .map (some (w5.heap.size + 1))] 165)).alloc (.cells #[.slice none 0 0, .slice none 0 0] 25)).heap[k]? = w7.heap[k]? := fun k hk => (Below.heap_alloc _ _ _ (by simp; omega)).trans (Below.heap_alloc _ _ _ hk)
    refine ⟨(Below.heap_alloc _ _ _ (by simp)).trans (heap_alloc_last w7 _), by omega, by omega, hCB, (two C (by omega)).trans hC7, (hf7.alloc _).alloc _, fun z hz => ?_, ⟨_, map_move HO7.out (two _ (map_lt HO7.out)), ?_⟩, ?_, by omega, World.ownsRow_nil _ _ _ _, World.ownsRow_nil _ _ _ _, fun k _ h => by simp [Value.ownBlock] at h⟩
    · rw [List.mem_singleton] at hz; subst hz; omega
    · have ht := tieN_new (z := F 0) tieN_nil HMP.out.isMap hF0.1 (by omega) (by simp)
      exact ht
    · have h := nil2 (w7.alloc (.cells #[.slice (some ⟨C, 0, none⟩) n n, .slice (some ⟨w5.heap.size, 0, none⟩) 1 1, .map (some (w5.heap.size + 1))] 165))
      rw [show (w7.alloc (.cells #[.slice (some ⟨C, 0, none⟩) n n, .slice (some ⟨w5.heap.size, 0, none⟩) 1 1, .map (some (w5.heap.size + 1))] 165)).heap.size = w7.heap.size + 1 by simp] at h
      exact h)
  clear HS6 HFV HIK6 HB6 HMP HG7 HO7 k0 k0' hmm
  generalize (w7.alloc (.cells #[.slice (some ⟨C, 0, none⟩) n n, .slice (some ⟨w5.heap.size, 0, none⟩) 1 1, .map (some (w5.heap.size + 1))] 165)).alloc (.cells #[.slice none 0 0, .slice none 0 0] 25) = W9 at *
  generalize hB : w5.heap.size = B at *
  generalize w7.heap.size = q at *
  generalize hd : q + 1 = d at *
  have HLN := hide (fun m => stM_len HX.out (ac_alk HCL.out) (gc_live HCL.out) m)
  have HLS := hide (fun (s : Nat) (hs : s < n) (r : Int) (hr : ru[s]? = some r) => lsM_cls HX.out (ac_alk HCL.out) hs hr)
  have HRW := hide (fun (fv nv rv : Value) (fd : List Int) (nx' : List (List Int)) (ru' : List Int) (s : Nat) (row : List Int) (wr : World) (h : Sn wr B n q (B + 1) C d F fv nv rv fd nx' ru') (hs : s < n) (hrow : nx[s]? = some row) (hl : fd.length ≤ 4000) => srow_any B n q (B + 1) C d s F fv nv rv fd nx' ru' nx ru row wr HX.out HCL.out h hs hrow hl)
  have HSL0 := hide (show SL F n [0] = [clsM (AC F) n 0] from rfl)
  obtain ⟨start, hst⟩ : ∃ start, clsM (AC F) n 0 = start := ⟨_, rfl⟩
  obtain ⟨ls, hls⟩ : ∃ ls, lsM ru = ls := ⟨_, rfl⟩
  obtain ⟨tr, htr⟩ : ∃ tr, trM nx (AC F) (GC F) n = tr := ⟨_, rfl⟩
  rw [hst, hls, htr] at HLN
  rw [hls] at HLS
  rw [htr] at HRW
  rw [hst] at HSL0
  have HNM := hide (And.intro hst (And.intro hls htr))
  clear hst hls htr
  go_loopw [6, 7] (fun s6 _ wr => ∃ (k : Nat) (fv nv rv : Value) (fd : List Int), s6 = .int .i64 k ∧ k ≤ 200 ∧ (∀ j, j < k → j < (stF tr ls start j).1.length) ∧ Sn wr B n q (B + 1) C d F fv nv rv fd (stF tr ls start k).2.1 (stF tr ls start k).2.2 ∧ SL F n fd = (stF tr ls start k).1 ∧ Below B w5 wr) (fun s6 _ _ => 201 - (intOf s6).toNat)
  case atStart => exact ⟨0, _, _, _, [0], rfl, by omega, fun j hj => by omega, HSN9.out, HSL0.out, HB9.out⟩
  case round =>
    obtain ⟨k, fv, nv, rv, fd, rfl, hk2, hlow, hsn, hsl, hbw⟩ := hrel
    have HSM := hide hsn
    have HSL := hide hsl
    have HBW := hide hbw
    have HLOW := hide hlow
    obtain ⟨hl1', hl2'⟩ := st_len k hlow
    have HL1 := hide hl1'
    have HL2 := hide hl2'
    have hlen := HLN.out k
    have HFL := hide (show fd.length = (stF tr ls start k).1.length by rw [← hsl, sl_len])
    clear hsn hsl hbw hlow HSN9 HB9 hl1' hl2' HSL0
    obtain ⟨nf, hnf⟩ : ∃ nf, fd.length = nf := ⟨_, rfl⟩
    have HNF := hide hnf
    have hnf2 : nf = (stF tr ls start k).1.length := by rw [← hnf]; exact HFL.out
    obtain ⟨xf, cf, hfv⟩ := own_form HSM.out.f
    rw [hnf] at hfv
    subst hfv
    obtain ⟨r0, r1, r2, rz⟩ := q_cells8 HSM.out.blk
    clear hnf rz r0 r2
    by_cases hlt : k < (stF tr ls start k).1.length
    · obtain ⟨z, hzk⟩ : ∃ z, fd[k]? = some z := ⟨_, List.getElem?_eq_getElem (by rw [HFL.out]; exact hlt)⟩
      have hzr := HSM.out.rng z (List.mem_of_getElem? hzk)
      obtain ⟨t, rfl⟩ : ∃ t : Nat, z = t := ⟨z.toNat, by omega⟩
      have htn : t < n := by omega
      have hsk : (stF tr ls start k).1[k]? = some (clsM (AC F) n t) := by
        rw [← HSL.out]
        unfold SL
        rw [List.getElem?_map, hzk]
        rfl
      have HZK := hide hzk
      have HHS := hide hsk
      have HST := hide (st_some (ls := ls) hsk)
      have HKL := hide hlt
      obtain ⟨s', hs'⟩ : ∃ s', clsM (AC F) n t = s' := ⟨_, rfl⟩
      have HSE := hide hs'
      rw [hs'] at HST HHS
      obtain ⟨gf, cf', hfe, -, -⟩ := HSM.out.f.form (by rw [HNF.out]; omega)
      obtain ⟨rfl, -, rfl⟩ := Value.slice.inj hfe
      have ho2 := HSM.out.f
      rw [HNF.out] at ho2
      have ek := ho2.cellAt k (by omega)
      rw [List.getElem?_map, hzk] at ek
      replace ek : _ = some (Value.int .i64 (t : Int)) := ek
      have i7 : (0 : Int) ≤ (k : Int) := by omega
      have i8 : (k : Int) < (nf : Int) := by omega
      clear hzk hsk hs' hlt hfe ho2
      go_upto_region 10 with fail
      clear ek i8 r1
      go_cut [] from 22 to 54 (fun wx => ∃ (fv1 nv1 : Value) (r : List Int), Sn wx B n q (B + 1) C d F fv1 nv1 rv (fd ++ r) ((stF tr ls start k).2.1 ++ [(rowF tr s' (stF tr ls start k).1 16).2]) (stF tr ls start k).2.2 ∧ SL F n (fd ++ r) = (rowF tr s' (stF tr ls start k).1 16).1 ∧ Below B w5 wx)
      case first =>
        obtain ⟨row, hrow⟩ : ∃ row, nx[t]? = some row := ⟨_, List.getElem?_eq_getElem (by rw [HX.out.ln]; exact htn)⟩
        obtain ⟨⟨p0, p1⟩, hdm, -⟩ := HW3.out wr HBW.out
        obtain ⟨hrl, b, off, rfl, hrg⟩ := hdm.dr t row hrow
        obtain ⟨hrv, hro⟩ := rowM_at hrg (by rw [cI_len]; exact hrl)
        obtain ⟨e0, e1, ez⟩ := d_cells HSM.out.db
        have f0 := ez 0
        obtain ⟨an, cn, hnv⟩ := own_form HSM.out.n'
        rw [HL1.out] at hnv
        have i9 : (0 : Int) ≤ (t : Int) := by omega
        have i10 : (t : Int) < (n : Int) := by omega
        have hpw := (sn_lt HSM.out).2.2.2.2.1
        have hbdr := below_drew1 wr
        have hRW := HRW.out _ _ _ _ _ _ t row wr.drew (sn_below hbdr HSM.out) htn hrow (by rw [HNF.out]; omega)
        rw [HSE.out, HSL.out] at hRW
        have HROW := hide hRW
        have hcl : (cI (rowF tr s' (stF tr ls start k).1 16).2).length = 16 := by rw [cI_len, row_len]
        have hone : ∀ u ∈ cI (rowF tr s' (stF tr ls start k).1 16).2, u.oneCell' = true := fun u hu => by
          obtain ⟨z, _, rfl⟩ := List.mem_map.1 hu
          rfl
        obtain ⟨cs, hcs⟩ : ∃ cs, cI (rowF tr s' (stF tr ls start k).1 16).2 = cs := ⟨_, rfl⟩
        have HCS := hide hcs
        rw [hcs] at HROW hcl hone
        have HPW := hide hpw
        subst hnv
        clear hrow hdm hrl hrg ez hpw hbdr hRW hcs
        go_region_law ((first
          | (refine step_append_lies _ (by rfl) (.tmp 35) (.tmp 42) 22 (by rfl) B 66 i41 (.agg (Array.replicate 16 (.int .i64 0))) 16 128 Tryz.underlying22 hi41 hz41 hs41 hb41 (by simp [Value.cells]) (by omega) (.slice an k cn) k (cellsR (stF tr ls start k).2.1) (by rfl) (HNVB.out.alloc _) ⟨w2.heap.size, 0, none⟩ 1 1 cs (by rfl) (by omega) (World.news_of_block (cs := cs.toArray) (heap_alloc_last w2 _)) hone (by omega) (by unfold maxLen; omega) (by omega) (HSZ.out _) (w2.heap.size + 1) (by simp) ?_; intro g' cap' w3 hown3 hgrow3 hat3 hlt3; obtain ⟨g5, g6⟩ := HDC.out _ w3 hgrow3)
          | (go_simp; go_at_call 103; refine HROW.out.mono ?_; rintro e w2 ⟨rfl, ⟨fv2, r2, hsn2, hsl2, hr2⟩, hk2⟩; have HSN2 := hide hsn2; have HSL2 := hide hsl2; have HK2 := hide hk2; have HNVB := hide (show w2.ownsRow B 66 16 (.slice an k cn) k (cellsR (stF tr ls start k).2.1) from by have := hsn2.n'; rw [HL1.out] at this; exact this); have HDC := hide (fun (o : Obj) (w3 : World) (hgr : (w2.alloc o).grownBy w3 (Value.slice an k cn).ownBlock) => show w3.cell? ⟨d, 0, none⟩ = some (.slice an k cn) ∧ w3.frozen? ⟨d, 0, none⟩ = false from by
              have hdl := (sn_lt HSN2.out).2.2.1
              have h2 : w3.heap[d]? = some (.cells #[.slice an k cn, rv] 25 (0, 0)) := by
                rw [hgr.block d (by simp; omega) (fun e => own_not HNVB.out HSN2.out.db (by decide) e.symm), Below.heap_alloc _ _ _ hdl]; exact HSN2.out.db
              exact ⟨(d_cells h2).1, (d_cells h2).2.2 0⟩); have HSZ := hide (fun (o : Obj) => show B ≤ (w2.alloc o).heap.size from by have := (sn_lt HSN2.out).2.2.2.2.1; simp; omega); have u2 := (d_cells hsn2.db).1; have u3 := fun o => cell_alloc u2 o; clear hsn2 hsl2 hk2; go_simp)))
        all_goals
          have hsm3 := sn_next (l := (rowF tr s' (stF tr ls start k).1 16).2) HSN2.out hgrow3 (by rw [HL1.out, HCS.out]; exact hown3)
          rw [HL1.out] at hsm3
          have HSM3 := hide hsm3
          have HBW3 := hide ((((HBW.out.trans ((below_drew1 wr).mono HPW.out)).trans (HK2.out.below (show B ≤ wr.drew.heap.size from HPW.out))).alloc (sn_lt HSN2.out).2.2.2.2.1 (.cells cs.toArray 66)).grown hgrow3 (HSZ.out _) (fun kk hkk => (own_type HNVB.out hkk).1) |>.setCell (p := ⟨d, 0, none⟩) (show B ≤ d from HSM.out.dlow) (.slice (some ⟨g', 0, none⟩) (k + 1) cap'))
          clear hsm3 hown3 hgrow3 hat3 hlt3
          go_wp2_with fail
          go_meet
          exact ⟨_, _, r2, HSM3.out, HSL2.out, HBW3.out⟩
      case rest =>
      obtain ⟨wP, rfl⟩ : ∃ y, y = wc := ⟨_, rfl⟩
      obtain ⟨fv1, nv1, r1, hsm1, hsl1, hbw1⟩ := hcut
      have HSM1 := hide hsm1
      have HSL1 := hide hsl1
      have HBW1 := hide hbw1
      clear hsm1 hsl1 hbw1
      obtain ⟨⟨p0, p1⟩, hdm, -⟩ := HW3.out wP HBW1.out
      obtain ⟨rr, hrr, -, -, -⟩ := mx_rule HX.out htn
      obtain ⟨b2, o2, rfl, k2⟩ := hdm.wd t rr hrr
      have HLR := hide (show ls s' = rr from by rw [← HSE.out]; exact HLS.out t htn rr hrr)
      obtain ⟨e0, e1, ez⟩ := d_cells HSM1.out.db
      have f1 := ez 1
      obtain ⟨ar, cr, hrv⟩ := own_form HSM1.out.r
      rw [HL2.out] at hrv
      have i9 : (0 : Int) ≤ (t : Int) := by omega
      have i10 : (t : Int) < (n : Int) := by omega
      have HRO := hide (show wP.ownsRow B 3 1 rv k ((stF tr ls start k).2.2.map (Value.int .i64)) from by
        have := HSM1.out.r
        rw [HL2.out] at this
        exact this)
      have HDC := hide (fun (o : Obj) (w7 : World) (hgr : (wP.alloc o).drew.grownBy w7 rv.ownBlock) => show w7.cell? ⟨d, 1, none⟩ = some rv ∧ w7.frozen? ⟨d, 1, none⟩ = false from by
        have hd5 := HSM1.out.db
        have hdl := (Array.getElem?_eq_some_iff.1 hd5).1
        have h2 : w7.heap[d]? = some (.cells #[nv1, rv] 25 (0, 0)) := by
          rw [hgr.block d (by show d < (wP.alloc o).heap.size; simp; omega) (fun e => own_not HSM1.out.r hd5 (by decide) e.symm)]
          exact (Below.heap_alloc wP o d hdl).trans hd5
        exact ⟨(d_cells h2).2.1, (d_cells h2).2.2 1⟩)
      have hBP := (sn_lt HSM1.out).2.2.2.2.1
      have HSZ := hide (show B ≤ (wP.alloc (.cells #[.int .i64 rr] 3)).drew.heap.size by show B ≤ (wP.alloc _).heap.size; simp; omega)
      have HBP := hide hBP
      clear ez hdm hrr hBP
      have u3 := fun o => cell_alloc e1 o
      subst hrv
      go_upto_region 11 with fail
      go_region_law ((refine step_append_lies _ (by rfl) (.tmp 46) (.tmp 52) 23 (by rfl) B 3 i3 (.int .i64 0) 1 8 Tryz.underlying23 hi3 hz3 hs3 hb3 rfl (by omega) (.slice ar k cr) k ((stF tr ls start k).2.2.map (Value.int .i64)) (by rfl) ((HRO.out.alloc _).drew) ⟨wP.heap.size, 0, none⟩ 1 1 [.int .i64 rr] (by rfl) (by rfl) (fun j u h => one_new wP (.int .i64 rr) 3 j u h) (fun u hu => by simp only [List.mem_singleton] at hu; subst hu; rfl) (by omega) (by unfold maxLen; omega) (by omega) HSZ.out (wP.heap.size + 1) (by simp) ?_; intro g'' cap'' w7 hown7 hgrow7 hat7 hlt7; obtain ⟨g5, g6⟩ := HDC.out _ w7 hgrow7))
      all_goals
        have hg7 : (wP.alloc (.cells #[.int .i64 rr] 3)).grownBy w7 (Value.slice ar k cr).ownBlock := ⟨hgrow7.os, hgrow7.tape, hgrow7.output, hgrow7.size, hgrow7.block⟩
        have hsm8 := sn_rule HSM1.out hg7 (by rw [HL2.out]; exact hown7) (by rcases hat7 with h | h; exact .inl h; right; omega)
        rw [HL2.out] at hsm8
        have HSM8 := hide hsm8
        have HBW8 := hide (((HBW1.out.alloc HBP.out (.cells #[.int .i64 rr] 3)).grown hg7 HSZ.out (fun kk hkk => (own_type HRO.out hkk).1)).setCell (p := ⟨d, 1, none⟩) (show B ≤ d from HSM1.out.dlow) (.slice (some ⟨g'', 0, none⟩) (k + 1) cap''))
        have hk200 : k + 1 ≤ 200 := by have := HKL.out; have := HLN.out k; omega
        clear hsm8 hown7 hgrow7 hg7
        go_wp2
        go_roundw
        case rel => exact ⟨k + 1, _, _, _, fd ++ r1, by go_num, hk200, fun j hj => by
          by_cases e : j = k
          · subst e; exact HKL.out
          · exact HLOW.out j (by omega), by rw [HST.out, HLR.out]; exact HSM8.out, by rw [HST.out]; exact HSL1.out, HBW8.out⟩
        case measure => simp [intOf]; omega
    · have hke : (stF tr ls start k).1.length = k := by
        rcases Nat.eq_zero_or_pos k with h0 | h0
        · subst h0; simp [stF] at hlt
        · have h1 := HLOW.out (k - 1) (by omega)
          have h2 := st_mono (tr := tr) (ls := ls) (start := start) (show k - 1 ≤ k by omega)
          omega
      have HEND := hide (st_end hke hk2)
      obtain rfl : nf = k := by omega
      obtain ⟨an, cn, hnv, hdr⟩ := own_dr HSM.out.n' (fun x hx => by
        obtain ⟨i, hi, e⟩ := List.getElem_of_mem hx
        obtain ⟨s, row, _, h2, h3, _⟩ := st_means nf HLOW.out i (by have := HL1.out; omega)
        rw [List.getElem?_eq_getElem hi, e] at h2
        rw [Option.some.inj h2]; exact h3)
      subst hnv
      obtain ⟨ar, cr, hrv, hwr⟩ := own_len HSM.out.r
      subst hrv
      obtain ⟨e0, e1, ez⟩ := d_cells HSM.out.db
      obtain ⟨-, -, hPX⟩ := HW3.out wr HBW.out
      obtain ⟨q0, q1, qz⟩ := d_cells hPX
      have y0 := qz 0
      have y1 := qz 1
      have HDR := hide (hdr rfl)
      rw [HL1.out] at e0
      rw [HL2.out] at e1
      have hBP : w.heap.size + 2 ≤ B := by have h1 := HB5.out.size; have h2 := HSN.out; omega
      have hbf : ∀ x y, Below w.heap.size w ((wr.setCell ⟨w.heap.size + 1, 0, none⟩ x).setCell ⟨w.heap.size + 1, 1, none⟩ y) := fun x y => below_set2 ((((HB0.out.trans (HBN.out.mono (by omega))).trans (HB5.out.mono (by have := HSN.out; omega))).trans (HBW.out.mono (by omega)))) (by omega)
      have HBF := hide hbf
      have HWF := hide (set2 (x := .slice an nf cn) (y := .slice ar nf cr) hPX)
      have HWR := hide hwr
      have HPD := hide (show ∀ (b i : Nat) (v : Value) (x y : Value), b ≠ w.heap.size + 1 → wr.cell? ⟨b, i, none⟩ = some v → ((wr.setCell ⟨w.heap.size + 1, 0, none⟩ x).setCell ⟨w.heap.size + 1, 1, none⟩ y).cell? ⟨b, i, none⟩ = some v from fun b i v x y hb h => by
        rw [World.cell?_setCell_other _ _ _ _ (fun e => hb (by cases e; rfl)), World.cell?_setCell_other _ _ _ _ (fun e => hb (by cases e; rfl))]; exact h)
      clear qz ez hlt hdr hwr hPX hbf hnf2
      go_wp2
      obtain ⟨m0, m1, -⟩ := d_cells HWF.out
      refine bodyPost_ret (v := .agg #[.slice an nf cn, .slice ar nf cr]) (by simp [results, Tryz.results82, go_sem, m0, m1]) rfl ?_
      refine ⟨F, HCL.out, ?_⟩
      unfold smF8
      obtain ⟨hst, hls, htr⟩ := HNM.out
      rw [htr, hls, hst, HEND.out]
      refine ⟨an, ar, cn, cr, by rw [HL1.out, HL2.out], fun i row hr => ?_, fun i z hz => ?_, HBF.out _ _, fun a ha => ?_, fun a ha => ?_⟩
      · obtain ⟨h1, b, off, e, h2⟩ := HDR.out i row hr
        have hb := (own_type HSM.out.n' (k := b) (by rw [e]; rfl)).1
        exact ⟨h1, b, off, e, fun j v hj => HPD.out b _ v _ _ (by omega) (h2 j v hj)⟩
      · obtain ⟨b, off, e, h2⟩ := HWR.out i z hz
        have hb := (own_type HSM.out.r (k := b) (by rw [e]; rfl)).1
        exact ⟨b, off, e, HPD.out b _ _ _ _ (by omega) h2⟩
      · have hb := (own_type HSM.out.n' (k := a.block) (by rw [ha]; rfl)).1
        omega
      · have hb := (own_type HSM.out.r (k := a.block) (by rw [ha]; rfl)).1
        omega
end Go.Proofs.YtbbfjjjnifomgaaGreatDoor.A


