/- Stores to different blocks. -/
import Derived.WalkKit
import Derived.ProofKit
import Derived.Outline
import Derived.BigQuiet
import Derived.Deep.QuietTactic
import Derived.Below
import Derived.Test.YtbbfjjjnifomgaaGreatDoorK13
import Derived.Test.YtbbfjjjnifomgaaGreatDoorK24
import Derived.Test.YtbbfjjjnifomgaaGreatDoorK39
import Derived.Deep.RegionLaw
import Derived.Deep.RegionHeld3
import Derived.OpenShut
import Derived.Deep.Slices
import Derived.Deep.Strs
import Derived.Deep.OwnRows
import Derived.Deep.WholeRow
import Derived.Deep.Heap
import Derived.Laws.OwnMore
import Derived.Deep.AppendLies
import Derived.Deep.AppendSrc
import Derived.Laws.AppendOwnNone
import Derived.Test.YtbbfjjjnifomgaaGreatDoorK1
import Derived.Test.YtbbfjjjnifomgaaGreatDoorK2
import Derived.Test.YtbbfjjjnifomgaaGreatDoorK3
import Derived.Test.YtbbfjjjnifomgaaGreatDoorK5
import Derived.Test.YtbbfjjjnifomgaaGreatDoorK8
import Derived.Test.YtbbfjjjnifomgaaGreatDoorK11
import Derived.Test.YtbbfjjjnifomgaaGreatDoorK19
import Derived.Test.YtbbfjjjnifomgaaGreatDoorK29
import Derived.Lib.SplitLaws
import Derived.WalkLawsBesides
import Derived.Laws.AppendOwn
import Derived.Shelf.Small.Strs
import Derived.Shelf.Strconv.Itoa0
import Derived.Shelf.Strconv.Itoa1
import Derived.Shelf.LaysM
import Derived.Shelf.Strconv.Itoa2
import Derived.Shelf.Strconv.Clone
import Derived.Shelf.Strings.Search1
import Derived.Shelf.Strings.Search2
import Derived.Shelf.Strings.Search3
import Derived.Shelf.Strings.Count
import Derived.Shelf.Strings.Shaped
import Derived.Shelf.Strconv.AppendUint10
import Derived.Shelf.Strconv.AppendInt10
import Derived.Shelf.Strconv.AppendIntPublic10
import Derived.Shelf.Strings.Split
import Derived.Shelf.Strings.SplitShaped
import Derived.Shelf.Bits.Mul64
import Derived.Shelf.Unicode.DecodeSlow
import Derived.Ground.Names2Prog
import Derived.Shelf.Slices.Clone
import Derived.Ground.SlgnProg
import Derived.Shelf.SlicesE.Clone
import Derived.OwnWalk
import Derived.Defers
import Derived.Recover
import Derived.Laws.IdiomStrings
import Derived.Laws.BytesArg
import Derived.Maps.OwnSet
import Derived.Maps.OwnOps
import Derived.Deep.MidRow
import Derived.Test.YtbbfjjjnifomgaaGreatDoorK4
import Derived.Test.YtbbfjjjnifomgaaGreatDoorK20
import Derived.Test.YtbbfjjjnifomgaaGreatDoorK22
import Derived.Test.YtbbfjjjnifomgaaGreatDoorK23
import Derived.Test.YtbbfjjjnifomgaaGreatDoorK27
import Derived.Lib.LaidTab
import Derived.WalkSpells
import Derived.DeepKeys5
import Derived.Maps.AppendAt
import Derived.Maps.RangeWalk
import Derived.Deep.Cut
import Derived.Deep.CutRange
import Derived.Maps.Keyed
import Derived.Laws.Tables
import Derived.Laws.Rows
import Derived.Laws.CopyOwn
import Derived.Deep.LoopGhost
import Derived.LaidMore
import Derived.HandedShaped
import Derived.Shelf.Vars
import Derived.MakeChecks
import Derived.Stop.LaidErr
import Derived.Test.YtbbfjjjnifomgaaGreatDoorK17
import Derived.Test.YtbbfjjjnifomgaaGreatDoorK42
namespace Go.Proofs.YtbbfjjjnifomgaaGreatDoor.A
open Go.RowKit
theorem set_swap (w : World) {a b : Addr} (h : a.block ≠ b.block) (u v : Value) : (w.setCell a u).setCell b v = (w.setCell b v).setCell a u := by
  have h' := h.symm
  have key : ((w.setCell a u).setCell b v).heap = ((w.setCell b v).setCell a u).heap := by
    apply Array.ext_getElem?
    intro i
    by_cases ha : i = a.block
    · subst ha
      rw [Below.heap_setCell _ _ _ _ h]
      simp only [World.setCell, Array.getElem?_modify, if_neg h']
    · by_cases hb : i = b.block
      · subst hb
        rw [Below.heap_setCell _ _ _ _ h']
        simp only [World.setCell, Array.getElem?_modify, if_neg h]
      · rw [Below.heap_setCell _ _ _ _ hb, Below.heap_setCell _ _ _ _ ha, Below.heap_setCell _ _ _ _ ha, Below.heap_setCell _ _ _ _ hb]
  cases w
  simp only [World.setCell] at key ⊢
  rw [key]
theorem set_swap3 (w : World) {q g : Nat} (h : q ≠ g) (i j k l : Nat) (a b c d : Value) : (((w.setCell ⟨q, i, none⟩ a).setCell ⟨g, j, none⟩ b).setCell ⟨g, k, none⟩ c).setCell ⟨g, l, none⟩ d = (((w.setCell ⟨g, j, none⟩ b).setCell ⟨g, k, none⟩ c).setCell ⟨g, l, none⟩ d).setCell ⟨q, i, none⟩ a := by
  rw [set_swap w (a := ⟨q, i, none⟩) (b := ⟨g, j, none⟩) h, set_swap _ (a := ⟨q, i, none⟩) (b := ⟨g, k, none⟩) h, set_swap _ (a := ⟨q, i, none⟩) (b := ⟨g, l, none⟩) h]
end Go.Proofs.YtbbfjjjnifomgaaGreatDoor.A


/- The scanner's copy of an expression, walked. -/
namespace Go.Proofs.YtbbfjjjnifomgaaGreatDoor.A
open Go.RowKit

set_option maxRecDepth 100000 in
set_option maxHeartbeats 12800000 in
theorem sdup_any : ∀ (n : Nat) (t : Ex n) (v : Value) (w : World), Rx w n t v → shapesE n t = true → realN n t ≤ 100 →
    Calls Tryz.prog 32 #[v] w fun e w' => Makes w n t e w' := by
  intro n
  induction n with
  | zero => intro t v w h; exact h.elim
  | succ n ih =>
    intro t v w h hsh hrn
    obtain ⟨i0, hi0, hz0, hz1, hz2⟩ := info_parts info55
    have hrl := real_len (rx_full _ _ _ h)
    have HRK := hide (fun (x : Ex n) (hx : x ∈ ks t) => Nat.le_trans (real_kid hx) hrn)
    obtain ⟨a, len, cap, rfl, hk, hs, hl, h6, hkids⟩ := rx_open h
    obtain ⟨hok, hall⟩ : okE (kd t) (st t) (ks t).length = true ∧ ∀ x ∈ ks t, shapesE n x = true := by
      have e : (okE (kd t) (st t) (ks t).length && (ks t).all (fun x => shapesE n x)) = true := hsh
      rw [Bool.and_eq_true, List.all_eq_true] at e
      exact e
    have HE := hide (show t = ((kd t, st t, ks t) : Ex (n + 1)) from rfl)
    rw [h6] at hok hrl
    have hlen : len ≤ 100 := by omega
    generalize kd t = kk at *
    generalize st t = ss at *
    generalize ks t = l at *
    have HK := hide hkids
    have HS := hide hall
    have HL := hide h6
    obtain ⟨q, hq⟩ : ∃ q, w.heap.size = q := ⟨_, rfl⟩
    have hW1 := ((((Below.refl w.heap.size w).alloc (Nat.le_refl _) (.cells #[.int .u8 kk, .int .u16 ss, .slice a len cap] 55)).alloc (by simp) (.cells #[.int .u8 0, .int .u16 0, .slice none 0 0] 55)).alloc (by simp; omega) (.cells #[.int .u8 kk, .int .u16 ss, .slice none 0 0] 55))
    have hW2 : (((w.alloc (.cells #[.int .u8 kk, .int .u16 ss, .slice a len cap] 55)).alloc (.cells #[.int .u8 0, .int .u16 0, .slice none 0 0] 55)).alloc (.cells #[.int .u8 kk, .int .u16 ss, .slice none 0 0] 55)).heap.size = q + 3 := by simp [hq]
    have hW3 : St3 (((w.alloc (.cells #[.int .u8 kk, .int .u16 ss, .slice a len cap] 55)).alloc (.cells #[.int .u8 0, .int .u16 0, .slice none 0 0] 55)).alloc (.cells #[.int .u8 kk, .int .u16 ss, .slice none 0 0] 55)) (q + 2) kk ss (.slice none 0 0) := by
      have e := heap_alloc_last ((w.alloc (.cells #[.int .u8 kk, .int .u16 ss, .slice a len cap] 55)).alloc (.cells #[.int .u8 0, .int .u16 0, .slice none 0 0] 55)) (.cells #[.int .u8 kk, .int .u16 ss, .slice none 0 0] 55)
      rw [show ((w.alloc (.cells #[.int .u8 kk, .int .u16 ss, .slice a len cap] 55)).alloc (.cells #[.int .u8 0, .int .u16 0, .slice none 0 0] 55)).heap.size = q + 2 by simp [hq]] at e
      exact e
    have hW4 : St3 (((w.alloc (.cells #[.int .u8 kk, .int .u16 ss, .slice a len cap] 55)).alloc (.cells #[.int .u8 0, .int .u16 0, .slice none 0 0] 55)).alloc (.cells #[.int .u8 kk, .int .u16 ss, .slice none 0 0] 55)) q kk ss (.slice a len cap) := by
      have e := heap_alloc_last w (.cells #[.int .u8 kk, .int .u16 ss, .slice a len cap] 55)
      rw [hq] at e
      exact (Below.heap_alloc _ _ _ (by simp [hq]; omega)).trans ((Below.heap_alloc _ _ _ (by simp [hq])).trans e)
    have hW5 : St3 (((w.alloc (.cells #[.int .u8 kk, .int .u16 ss, .slice a len cap] 55)).alloc (.cells #[.int .u8 0, .int .u16 0, .slice none 0 0] 55)).alloc (.cells #[.int .u8 kk, .int .u16 ss, .slice none 0 0] 55)) (q + 1) 0 0 (.slice none 0 0) := by
      have e := heap_alloc_last (w.alloc (.cells #[.int .u8 kk, .int .u16 ss, .slice a len cap] 55)) (.cells #[.int .u8 0, .int .u16 0, .slice none 0 0] 55)
      rw [show (w.alloc (.cells #[.int .u8 kk, .int .u16 ss, .slice a len cap] 55)).heap.size = q + 1 by simp [hq]] at e
      exact (Below.heap_alloc _ _ _ (by simp [hq])).trans e
    have HW := hide (And.intro hW1 (And.intro hW2 (And.intro hW3 (And.intro hW4 hW5))))
    clear h hkids hsh hok hall h6 hrn hrl hl hW1 hW2 hW3 hW4 hW5
    go_enter Tryz.func32, Tryz.ntmps32
    go_wp2_with fail
    obtain ⟨hW1, hW2, hW3, hW4, hW5⟩ := HW.out
    clear HW
    generalize ((w.alloc (.cells #[.int .u8 kk, .int .u16 ss, .slice a len cap] 55)).alloc (.cells #[.int .u8 0, .int .u16 0, .slice none 0 0] 55)).alloc (.cells #[.int .u8 kk, .int .u16 ss, .slice none 0 0] 55) = W at *
    rw [hq] at hW1
    have HQ := hide hq
    obtain ⟨q2, hq2⟩ : ∃ q2, q + 1 + 1 = q2 := ⟨_, rfl⟩
    rw [hq2]
    rw [show q + 2 = q2 by omega] at hW3
    have HQ2 := hide (show q2 = q + 2 by omega)
    clear hq2
    have HW1 := hide hW1
    have HW2 := hide hW2
    have HW3 := hide hW3
    have HW4 := hide hW4
    have HW5 := hide hW5
    clear hq hW1 hW2 hW3 hW4 hW5
    go_loopw [5, 14] (fun _ u wr => ∃ (i : Nat) (vv : Value) (ys : List Nd) (Ss : List (List Nat)), i ≤ len ∧ u = .int .i64 i ∧ St3 wr q2 kk ss vv ∧ Mkg (q + 3) wr n (l.take i) vv ys Ss ∧ Below q2 W wr ∧ q + 3 ≤ wr.heap.size) (fun _ u _ => len - (intOf u).toNat)
    case atStart => exact ⟨0, _, [], [], Nat.zero_le _, rfl, HW3.out, mkg_nil _ _ _, Below.refl _ _, by rw [HW2.out]; exact Nat.le_refl _⟩
    case round =>
      obtain ⟨i, vv, ys, Ss, hi, rfl, hst, hmk, hb, hsz⟩ := hrel
      by_cases hlt : i < len
      · obtain ⟨x, b, off, c0, c1, c2, rfl, hx, k0, k1, k2, k3⟩ := HK.out wr (by rw [HQ.out]; exact HW1.out.trans (hb.mono (by have := HQ2.out; omega))) i hlt
        obtain ⟨kx, sx, ax, lx, cx, rfl, rfl, rfl⟩ := rx_cells k3
        have HMEM := hide (List.mem_of_getElem? hx)
        have HN := hide (take_at hx)
        have HLI := hide (show (l.take i).length = i by simp; have := HL.out; omega)
        have i3 : (0 : Int) ≤ (i : Int) := by omega
        have i4 : (i : Int) < (len : Int) := by omega
        have hbA := (Below.refl wr.heap.size wr).alloc (Nat.le_refl _) (.cells #[.int .u8 kx, .int .u16 sx, .slice ax lx cx] 55)
        have HXA := hide (rx_below hbA n x _ k3)
        have HST := hide (st3_below hst hbA (st3_lt hst))
        have HMK := hide (mkg_below hmk hbA)
        have HBA := hide (hb.alloc (by have := HQ2.out; omega) (.cells #[.int .u8 kx, .int .u16 sx, .slice ax lx cx] 55))
        have HSZ := hide (show q + 3 ≤ (wr.alloc (.cells #[.int .u8 kx, .int .u16 sx, .slice ax lx cx] 55)).heap.size by simp; omega)
        have HBX := hide (box3 wr (.int .u8 kx) (.int .u16 sx) (.slice ax lx cx) 55)
        have HSA := hide (show (wr.alloc (.cells #[.int .u8 kx, .int .u16 sx, .slice ax lx cx] 55)).heap.size = wr.heap.size + 1 by simp)
        clear hx k3 hbA hst hmk hb hsz
        go_wp2_with fail
        obtain ⟨t0, t1, t2⟩ := HBX.out
        clear HBX k0 k1 k2
        generalize wr.alloc (.cells #[.int .u8 kx, .int .u16 sx, .slice ax lx cx] 55) = V at *
        obtain ⟨z, hz⟩ : ∃ z, wr.heap.size = z := ⟨_, rfl⟩
        rw [hz] at t0 t1 t2 HSA
        rw [hz]
        clear hz
        obtain ⟨s0, s1, s2, s3⟩ := st3_cells HST.out
        have s4 := s3 2
        clear s0 s1 s3
        have HOW := hide (fun (w2 : World) (hb2 : Below V.drew.heap.size V.drew w2) (y : Nd) => show (w2.alloc (.cells #[.int .u8 y.k, .int .u16 y.s, .slice y.a y.l y.c] 55)).ownsRow (q + 3) 55 3 vv i (cellsN ys) ∧ (∀ j u, (cellsO y)[j]? = some u → (w2.alloc (.cells #[.int .u8 y.k, .int .u16 y.s, .slice y.a y.l y.c] 55)).cell? ((⟨w2.heap.size, 0, none⟩ : Addr).add j) = some u) ∧ q + 3 ≤ (w2.alloc (.cells #[.int .u8 y.k, .int .u16 y.s, .slice y.a y.l y.c] 55)).heap.size ∧ (w2.alloc (.cells #[.int .u8 y.k, .int .u16 y.s, .slice y.a y.l y.c] 55)).heap.size = w2.heap.size + 1 from
          ⟨by have := (own_below HMK.out.1 ((ubelow_drew1 V).trans hb2)).alloc (.cells #[.int .u8 y.k, .int .u16 y.s, .slice y.a y.l y.c] 55); rw [HLI.out] at this; exact this, one_newN w2 y 55, by have := hb2.size; have := HSZ.out; simp at *; omega, by simp⟩)
        have HSW := hide (fun (w2 : World) (hb2 : Below V.drew.heap.size V.drew w2) (o : Obj) (w3 : World) (hgr : (w2.alloc o).grownBy w3 vv.ownBlock) => show w3.cell? ⟨q2, 2, none⟩ = some vv ∧ w3.frozen? ⟨q2, 2, none⟩ = false from by
          have b1 := (ubelow_drew1 V).trans hb2
          have st1 := st3_below HST.out b1 (st3_lt HST.out)
          have st2 : St3 (w2.alloc o) q2 kk ss vv := (Below.heap_alloc _ _ _ (st3_lt st1)).trans st1
          have st3 := st3_grown st2 hgr (fun e => by have := (HMK.out.1.lt q2 e.symm).1; have := HQ2.out; omega)
          obtain ⟨_, _, j2, j3⟩ := st3_cells st3
          exact ⟨j2, j3 2⟩)
        go_region_law ((first | (refine step_append_lies _ (by rfl) (.tmp 19) (.tmp 22) 50 (by rfl) (q + 3) 55 i0 (.agg #[.int .u8 0, .int .u16 0, .slice none 0 0]) 3 32 Tryz.underlying50 hi0 hz0 hz1 hz2 rfl (by omega) vv i (cellsN ys) (by rfl) (HOW.out w2 hb2 y).1 ⟨w2.heap.size, 0, none⟩ 1 1 (cellsO y) (by rfl) rfl (HOW.out w2 hb2 y).2.1 (cellsO_one' y) (by omega) (by unfold maxLen; omega) (by omega) (HOW.out w2 hb2 y).2.2.1 _ (HOW.out w2 hb2 y).2.2.2 ?_; intro g cap' w3 hown3 hgrow3 hat3 hlt3; obtain ⟨g5, g6⟩ := HSW.out w2 hb2 _ w3 hgrow3) | (go_simp; go_at_call 32; refine (ih x _ _ (rx_below (ubelow_drew1 V) n x _ HXA.out) (HS.out x HMEM.out) (HRK.out x HMEM.out)).mono ?_; rintro e w2 ⟨y, T, rfl, hT1, hT2, hT3, hb2⟩; have u2 := (hb2.cell (p := ⟨q2, 2, none⟩) (cell_lt s2)).trans s2; have u3 := fun o => cell_allocU u2 o; go_simp)))
        all_goals
          have HR := hide (mkg_next HMK.out HST.out (by have := HQ2.out; omega) (lo := V.heap.size) (Nat.le_refl _) HSZ.out hT1 hT2 hT3 ((ubelow_drew1 V).trans hb2) _ (by rw [HLI.out]; exact hown3) hgrow3 hat3)
          have HZ3 := hide (show q + 3 ≤ w3.heap.size by have := hgrow3.size; have := hb2.size; have := HSZ.out; simp at *; omega)
          rw [HLI.out] at HR
          clear hown3 hgrow3 hat3 hlt3 g5 g6 hT1 hT2 hT3 hb2 HSW HOW u2 u3
          go_wp2
          go_roundw
          case rel => exact ⟨i + 1, _, _, _, by omega, by go_num, HR.out.2.1, by rw [HN.out]; exact HR.out.1, HBA.out.trans (HR.out.2.2.mono (Nat.le_refl _)), by simpa using HZ3.out⟩
          case measure => simp [intOf]; omega
      · have e : i = len := by omega
        subst e
        have HT := hide (show l.take i = l from List.take_of_length_le (by have := HL.out; omega))
        rw [HT.out] at hmk
        have h1 := st3_cells (st3_below HW5.out hb (by have := HQ2.out; omega))
        obtain ⟨m0, m1, m2, m3⟩ := h1
        have m4 := m3 0
        have m5 := m3 1
        have m6 := m3 2
        clear m3
        obtain ⟨n0, -, -, -⟩ := st3_cells (st3_below HW4.out hb (by have := HQ2.out; omega))
        have HBW := hide (show Below q w wr from HW1.out.trans (hb.mono (by have := HQ2.out; omega)))
        have hqq : q + 1 ≠ q2 := by have := HQ2.out; omega
        have hqs := hqq.symm
        obtain ⟨a', len', cap', S, rfl, hTr, hSn, hSl⟩ := mkg_end hmk hk hs
        obtain ⟨o0, o1, o2, o3⟩ := st3_cells hst
        have HTR := hide hTr
        have HSN := hide hSn
        have HSL := hide hSl
        have HEE := hide (show t = ((kk, ss, l) : Ex (n + 1)) from HE.out)
        clear hmk hTr hSn hSl o3 hb hst
        go_wp2
        refine bodyPost_ret (v := .agg #[.int .u8 kk, .int .u16 ss, .slice a' len' cap']) (by simp [results, Tryz.results32, go_sem, m0, m1, m2]) rfl ?_
        refine ⟨⟨kk, ss, a', len', cap'⟩, S, rfl, ?_, HSN.out, fun b hb => by have := HSL.out b hb; rw [HQ.out]; omega, ?_⟩
        · rw [HEE.out]
          exact tr_keep _ _ _ _ (fun b hb => by
            have := HSL.out b hb
            rw [Below.heap_setCell _ _ _ _ (by simp; omega), Below.heap_setCell _ _ _ _ (by simp; omega), Below.heap_setCell _ _ _ _ (by simp; omega)]) HTR.out
        · rw [HQ.out]
          exact ((HBW.out.setCell (by simp) _).setCell (by simp) _).setCell (by simp) _
end Go.Proofs.YtbbfjjjnifomgaaGreatDoor.A


/- A scanner in memory: its block, its expressions, its machine. -/
namespace Go.Proofs.YtbbfjjjnifomgaaGreatDoor.A
open Go.RowKit
set_option linter.unusedVariables false

/-- A scanner's block. -/
def Sk (w : World) (q : Nat) (x b o1 o2 o3 m0 m1 : Value) (f c : Int) : Prop := w.heap[q]? = some (.cells #[x, b, o1, o2, o3, m0, m1, .int .i64 f, .int .i64 c] 87 (0, 0))
theorem sk_cells {w : World} {q : Nat} {x b o1 o2 o3 m0 m1 : Value} {f c : Int} (h : Sk w q x b o1 o2 o3 m0 m1 f c) :
    w.cell? ⟨q, 0, none⟩ = some x ∧ w.cell? ⟨q, 1, none⟩ = some b ∧ w.cell? ⟨q, 2, none⟩ = some o1 ∧ w.cell? ⟨q, 3, none⟩ = some o2 ∧ w.cell? ⟨q, 4, none⟩ = some o3 ∧ w.cell? ⟨q, 5, none⟩ = some m0 ∧ w.cell? ⟨q, 6, none⟩ = some m1 ∧ w.cell? ⟨q, 7, none⟩ = some (.int .i64 f) ∧ w.cell? ⟨q, 8, none⟩ = some (.int .i64 c) := by
  unfold Sk at h
  refine ⟨?_, ?_, ?_, ?_, ?_, ?_, ?_, ?_, ?_⟩ <;> simp [World.cell?, h]
theorem sk_free {w : World} {q : Nat} {x b o1 o2 o3 m0 m1 : Value} {f c : Int} (h : Sk w q x b o1 o2 o3 m0 m1 f c) (j : Nat) : w.frozen? ⟨q, j, none⟩ = false := by
  unfold Sk at h
  simp [World.frozen?, h]
theorem sk_set {w : World} {q : Nat} {x b o1 o2 o3 m0 m1 : Value} {f c : Int} (h : Sk w q x b o1 o2 o3 m0 m1 f c) (j : Nat) (u : Value) : (w.setCell ⟨q, j, none⟩ u).heap[q]? = some (.cells ((#[x, b, o1, o2, o3, m0, m1, .int .i64 f, .int .i64 c] : Array Value).setIfInBounds j u) 87 (0, 0)) := by
  unfold Sk at h
  simp [World.setCell, Array.getElem?_modify, h]
theorem sk_lt {w : World} {q : Nat} {x b o1 o2 o3 m0 m1 : Value} {f c : Int} (h : Sk w q x b o1 o2 o3 m0 m1 f c) : q < w.heap.size := (Array.getElem?_eq_some_iff.1 h).1
theorem sk_below {w w' : World} {q : Nat} {x b o1 o2 o3 m0 m1 : Value} {f c : Int} (h : Sk w q x b o1 o2 o3 m0 m1 f c) (hb : Below w.heap.size w w') : Sk w' q x b o1 o2 o3 m0 m1 f c := (hb.block q (sk_lt h)).trans h
theorem sk_grown {w w' : World} {q : Nat} {r : Option Nat} {x b o1 o2 o3 m0 m1 : Value} {f c : Int} (h : Sk w q x b o1 o2 o3 m0 m1 f c) (hg : w.grownBy w' r) (hr : some q ≠ r) : Sk w' q x b o1 o2 o3 m0 m1 f c := (hg.block q (sk_lt h) hr).trans h
theorem sk_other {w : World} {q : Nat} {x b o1 o2 o3 m0 m1 : Value} {f c : Int} (h : Sk w q x b o1 o2 o3 m0 m1 f c) {a : Addr} (ha : a.block ≠ q) (u : Value) : Sk (w.setCell a u) q x b o1 o2 o3 m0 m1 f c := (Below.heap_setCell _ _ _ _ (fun e => ha e.symm)).trans h

/-- Expressions of rules in a row of one's own, each in memory of its own. -/
def Mkx (base : Nat) (w : World) (ps : List (Rl × Nd)) (v : Value) : Prop :=
  w.ownsRow base 55 3 v ps.length (cellsN (ps.map (·.2))) ∧ ∀ p ∈ ps, ∃ S, Tr w p.1.n p.1.t p.2 S ∧ ∀ b ∈ S, base ≤ b ∧ b < w.heap.size ∧ v.ownBlock ≠ some b
theorem mkx_nil (base : Nat) (w : World) : Mkx base w [] (.slice none 0 0) := ⟨World.ownsRow_nil _ _ _ _, fun p h => by cases h⟩
theorem mkx_kept {base : Nat} {w w' : World} {ps : List (Rl × Nd)} {v : Value} (h : Mkx base w ps v) (hk : Keep base w w') : Mkx base w' ps v := by
  refine ⟨own_kept h.1 hk, fun p hp => ?_⟩
  obtain ⟨S, hT, hS⟩ := h.2 p hp
  exact ⟨S, tr_keep _ _ _ _ (fun b hb => hk.2 b (hS b hb).1 (hS b hb).2.1) hT, fun b hb => ⟨(hS b hb).1, Nat.lt_of_lt_of_le (hS b hb).2.1 hk.1, (hS b hb).2.2⟩⟩
theorem mkx_below {base : Nat} {w w' : World} {ps : List (Rl × Nd)} {v : Value} (h : Mkx base w ps v) (hb : Below w.heap.size w w') : Mkx base w' ps v := mkx_kept h (keep_below hb)
theorem mkx_app {base : Nat} {w w4 : World} {ps : List (Rl × Nd)} {v : Value} (h : Mkx base w ps v) {x : Rl} {y : Nd} {S : List Nat} (hT : Tr w x.n x.t y S) (hS : ∀ b ∈ S, base ≤ b ∧ v.ownBlock ≠ some b) {g cap k : Nat} (hk : ps.length = k)
    (hown : w4.ownsRow base 55 3 (.slice (some ⟨g, 0, none⟩) (k + 1) cap) (k + 1) (cellsN (ps.map (·.2)) ++ cellsO y)) (hsz : w.heap.size ≤ w4.heap.size) (hkeep : ∀ b, base ≤ b → b < w.heap.size → v.ownBlock ≠ some b → b ≠ g → w4.heap[b]? = w.heap[b]?) (hat : v.ownBlock = some g ∨ w.heap.size ≤ g) :
    Mkx base w4 (ps ++ [(x, y)]) (.slice (some ⟨g, 0, none⟩) (k + 1) cap) := by
  subst hk
  refine ⟨by rw [List.map_append, cellsN_app, List.length_append]; show w4.ownsRow base 55 3 _ (ps.length + 1) (_ ++ cellsN [y]); rw [cellsN_one]; exact hown, ?_⟩
  have hnew : ∀ (n : Nat) (t : Ex n) (y : Nd) (S : List Nat), Tr w n t y S → (∀ b ∈ S, base ≤ b ∧ v.ownBlock ≠ some b) → Tr w4 n t y S ∧ ∀ b ∈ S, base ≤ b ∧ b < w4.heap.size ∧ (Value.slice (some ⟨g, 0, none⟩) (ps.length + 1) cap).ownBlock ≠ some b := by
    intro n t y S hT hS
    have hlt := tr_lt n t y S hT
    have hne : ∀ b ∈ S, b ≠ g := fun b hb e => by
      subst e
      rcases hat with hat | hat
      · exact (hS b hb).2 hat
      · have := hlt b hb; omega
    refine ⟨tr_keep n t y S (fun b hb => hkeep b (hS b hb).1 (hlt b hb) (hS b hb).2 (hne b hb)) hT, fun b hb => ⟨(hS b hb).1, Nat.lt_of_lt_of_le (hlt b hb) hsz, fun e => ?_⟩⟩
    have e' : g = b := by simpa [Value.ownBlock] using e
    exact hne b hb e'.symm
  intro p hp
  rcases List.mem_append.1 hp with hp | hp
  · obtain ⟨S', hT', hS'⟩ := h.2 p hp
    obtain ⟨a1, a2⟩ := hnew _ _ _ _ hT' (fun b hb => ⟨(hS' b hb).1, (hS' b hb).2.2⟩)
    exact ⟨S', a1, a2⟩
  · have e : p = (x, y) := by simpa using hp
    subst e
    obtain ⟨a1, a2⟩ := hnew _ _ _ _ hT hS
    exact ⟨S, a1, a2⟩
theorem cellsN_len : ∀ l : List Nd, (cellsN l).length = l.length * 3
  | [] => rfl
  | x :: l => by
    show (cellsO x ++ cellsN l).length = _
    rw [List.length_append, cellsN_len l, List.length_cons]
    show 3 + _ = _
    omega
/-- A slice that lies above a block. -/
def Up9 (q : Nat) (a : Option Addr) : Prop := ∀ x, a = some x → q < x.block
theorem dr_move {w w' : World} {q : Nat} {a : Option Addr} {nx : List (List Int)} (h : Dr w a nx) (hu : Up9 q a) (hk : ∀ b, q < b → b < w.heap.size → w'.heap[b]? = w.heap[b]?) : Dr w' a nx := fun i row hr => by
  obtain ⟨h1, b, off, e, h2⟩ := h i row hr
  refine ⟨h1, b, off, e, fun j v hj => ?_⟩
  have hc := h2 j v hj
  have hq : q < b := hu ⟨b, off, none⟩ e
  exact (World.cell?_of_block (hk b hq (cell_lt hc))).trans hc
theorem wd_move {w w' : World} {q : Nat} {a : Option Addr} {l : List Int} (h : Wd w a l) (hu : Up9 q a) (hk : ∀ b, q < b → b < w.heap.size → w'.heap[b]? = w.heap[b]?) : Wd w' a l := fun i c hc => by
  obtain ⟨b, off, e, h2⟩ := h i c hc
  have hq : q < b := hu ⟨b, off, none⟩ e
  exact ⟨b, off, e, (World.cell?_of_block (hk b hq (cell_lt h2))).trans h2⟩

/-- The rules' marks in a row of one's own. -/
def brV (l : List Rl) : List Value := l.map fun x => .bool x.br

/-- A scanner that was made, of a grammar. -/
def ScN (w : World) (q : Nat) (l : List Rl) : Prop := ∃ (ps : List (Rl × Nd)) (x b : Value), ps.map (·.1) = l ∧ Sk w q x b (.int .u32 0) (.int .i32 0) (.int .u32 0) (.slice none 0 0) (.slice none 0 0) 0 0 ∧ Mkx (q + 1) w ps x ∧ w.ownsRow (q + 1) 4 1 b l.length (brV l)
/-- A scanner that is ready: its machine, why there is none, how many pieces were cut. -/
def ScR (w : World) (q : Nat) (l : List Rl) (nx : List (List Int)) (ru : List Int) (f c : Int) : Prop := ∃ (b : Value) (a0 a1 : Option Addr) (c0 c1 : Nat),
  Sk w q (.slice none 0 0) b (.int .u32 1) (.int .i32 0) (.int .u32 0) (.slice a0 nx.length c0) (.slice a1 ru.length c1) f c ∧ Dr w a0 nx ∧ Wd w a1 ru ∧ Up9 q a0 ∧ Up9 q a1 ∧ w.ownsRow (q + 1) 4 1 b l.length (brV l) ∧ (nx = [] → a0 = none ∧ a1 = none)
theorem own_up {w w' : World} {q n size : Nat} {e : TypeId} {v : Value} {xs : List Value} (h : w.ownsRow (q + 1) e size v n xs) (hk : ∀ b, q < b → b < w.heap.size → w'.heap[b]? = w.heap[b]?) : w'.ownsRow (q + 1) e size v n xs :=
  own_move h fun k hk' => by
    obtain ⟨h1, h2, -⟩ := own_type h hk'
    exact hk k (by omega) h2
theorem scn_below {w w' : World} {q : Nat} {l : List Rl} (h : ScN w q l) (hb : Below w.heap.size w w') : ScN w' q l := by
  obtain ⟨ps, x, b, h1, h2, h3, h4⟩ := h
  exact ⟨ps, x, b, h1, sk_below h2 hb, mkx_below h3 hb, own_up h4 fun k _ hk => hb.block k hk⟩
theorem scr_below {w w' : World} {q : Nat} {l : List Rl} {nx : List (List Int)} {ru : List Int} {f c : Int} (h : ScR w q l nx ru f c) (hb : Below w.heap.size w w') : ScR w' q l nx ru f c := by
  obtain ⟨b, a0, a1, c0, c1, h1, h2, h3, h4, h5, h6, h7⟩ := h
  exact ⟨b, a0, a1, c0, c1, sk_below h1 hb, dr_below hb h2, wd_below hb h3, h4, h5, own_up h6 (fun k _ hk => hb.block k hk), h7⟩
theorem scn_lt {w : World} {q : Nat} {l : List Rl} (h : ScN w q l) : q < w.heap.size := by
  obtain ⟨_, _, _, _, h, _⟩ := h; exact sk_lt h
theorem scr_lt {w : World} {q : Nat} {l : List Rl} {nx : List (List Int)} {ru : List Int} {f c : Int} (h : ScR w q l nx ru f c) : q < w.heap.size := by
  obtain ⟨_, _, _, _, _, h, _⟩ := h; exact sk_lt h
end Go.Proofs.YtbbfjjjnifomgaaGreatDoor.A


/- Expressions of a scanner, as a slice of them. -/
namespace Go.Proofs.YtbbfjjjnifomgaaGreatDoor.A
open Go.RowKit
set_option linter.unusedVariables false

/-- They are expressions at a slice. -/
theorem mkx_exs {base : Nat} {w : World} {ps : List (Rl × Nd)} {v : Value} {N : Nat} (h : Mkx base w ps v) (hN : ∀ p ∈ ps, p.1.n ≤ N) : ∃ a c, v = .slice a ps.length c ∧ Exs w N a (exsL N (ps.map (·.1))) := by
  refine own_exs (w := w) (l := ps.map (·.1)) h.1 (by simp) ⟨by rw [cellsN_len]; simp, fun i x hx => ?_⟩ (Below.refl _ _) (fun x hx => ?_)
  · rw [List.getElem?_map] at hx
    obtain ⟨p, hp, rfl⟩ := Option.map_eq_some_iff.1 hx
    obtain ⟨h1, h2, h3⟩ := cellsN_at (ps.map (·.2)) i p.2 (by rw [List.getElem?_map, hp]; rfl)
    obtain ⟨S, hT, -⟩ := h.2 p (List.mem_of_getElem? hp)
    exact ⟨_, _, _, h1, h2, h3, tr_rx _ _ _ _ hT⟩
  · obtain ⟨p, hp, rfl⟩ := List.mem_map.1 hx
    exact hN p hp

end Go.Proofs.YtbbfjjjnifomgaaGreatDoor.A

