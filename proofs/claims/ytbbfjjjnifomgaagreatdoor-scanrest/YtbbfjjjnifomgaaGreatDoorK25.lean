/- The program's Build. -/
import Derived.Deep.RegionLaw
import Derived.Deep.Cut
import Derived.Deep.CutRange
import Derived.WalkKit
import Derived.ProofKit
import Derived.Outline
import Derived.BigQuiet
import Derived.Deep.QuietTactic
import Derived.Below
import Derived.Deep.RegionHeld3
import Derived.OpenShut
import Derived.Deep.Slices
import Derived.Deep.Strs
import Derived.Deep.OwnRows
import Derived.Deep.WholeRow
import Derived.Deep.AppendSrc
import Derived.Deep.Heap
import Derived.Laws.AppendOwnNone
import Derived.Deep.AppendLies
import Derived.Shelf.Small.Strs
import Derived.Shelf.Strconv.Itoa0
import Derived.Shelf.Strconv.Itoa1
import Derived.Shelf.LaysM
import Derived.Shelf.Strconv.Itoa2
import Derived.Shelf.Strconv.Clone
import Derived.Shelf.Strings.Search1
import Derived.Shelf.Strings.Search2
import Derived.Shelf.Strings.Search3
import Derived.Shelf.Strings.Count
import Derived.Shelf.Strings.Shaped
import Derived.Shelf.Strconv.AppendUint10
import Derived.Shelf.Strconv.AppendInt10
import Derived.Shelf.Strconv.AppendIntPublic10
import Derived.Shelf.Strings.Split
import Derived.Shelf.Strings.SplitShaped
import Derived.Shelf.Bits.Mul64
import Derived.Shelf.Unicode.DecodeSlow
import Derived.Ground.Names2Prog
import Derived.Shelf.Slices.Clone
import Derived.Ground.SlgnProg
import Derived.Shelf.SlicesE.Clone
import Derived.Laws.IdiomStrings
import Derived.Laws.BytesArg
import Derived.Maps.OwnSet
import Derived.Maps.OwnOps
import Derived.Deep.MidRow
import Derived.WalkLawsBesides
import Derived.Laws.AppendOwn
import Derived.Test.YtbbfjjjnifomgaaGreatDoorK1
import Derived.Test.YtbbfjjjnifomgaaGreatDoorK4
import Derived.Test.YtbbfjjjnifomgaaGreatDoorK6
import Derived.Test.YtbbfjjjnifomgaaGreatDoorK7
import Derived.Test.YtbbfjjjnifomgaaGreatDoorK8
import Derived.Test.YtbbfjjjnifomgaaGreatDoorK9
import Derived.Test.YtbbfjjjnifomgaaGreatDoorK11
import Derived.Test.YtbbfjjjnifomgaaGreatDoorK12
import Derived.Test.YtbbfjjjnifomgaaGreatDoorK13
import Derived.Test.YtbbfjjjnifomgaaGreatDoorK15
import Derived.Test.YtbbfjjjnifomgaaGreatDoorK16
import Derived.Test.YtbbfjjjnifomgaaGreatDoorK17
import Derived.Test.YtbbfjjjnifomgaaGreatDoorK23
import Derived.Test.YtbbfjjjnifomgaaGreatDoorK24
namespace Go.Proofs.YtbbfjjjnifomgaaGreatDoor.A
open Go.RowKit Go.Maps

def noDf (z : Int) : Value := .tuple #[.agg #[.slice none 0 0, .slice none 0 0], .int .i64 z]
theorem nil2 (w : World) : (w.alloc (.cells #[.slice none 0 0, .slice none 0 0] 25)).heap[w.heap.size]? = some (.cells #[.slice none 0 0, .slice none 0 0] 25 (0, 0)) := heap_alloc_last w _
theorem set2 {w : World} {g : Nat} {x y c0 c1 : Value} (h : w.heap[g]? = some (.cells #[c0, c1] 25 (0, 0))) : ((w.setCell ⟨g, 0, none⟩ x).setCell ⟨g, 1, none⟩ y).heap[g]? = some (.cells #[x, y] 25 (0, 0)) := by
  have h1 := blk_set h 0 x
  have h2 := blk_set h1 1 y
  rw [h2]; rfl
theorem below_set2 {B : Nat} {w w' : World} {g : Nat} {x y : Value} (h : Below B w w') (hg : B ≤ g) : Below B w ((w'.setCell ⟨g, 0, none⟩ x).setCell ⟨g, 1, none⟩ y) := (h.setCell (by simpa using hg) x).setCell (by simpa using hg) y
theorem row_any' (base q m : Nat) (a0 a1 a2 a3 : Option Addr) (N c0 c1 c2 c3 : Nat) (fs : List (List Int)) (ss : List Nat) (ts rs : List Int) (tr : List Int → Nat → List Int) (sv : Value) (vs : List Value) (S : List (List Int)) (v : Value) (g : Nat → Bool) (w : World)
    (hm : Mach fs ss ts rs N) (hn : NmB base w a0 a1 a2 a3 fs ss ts rs) (htr : TrS fs ss ts N tr) (hF : Fd w base q m (.slice a0 N c0) (.slice a1 N c1) (.slice a2 N c2) (.slice a3 N c3) sv vs S) (hv : w.ownsRow base 3 1 v (lstL g N).length ((lstL g N).map (Value.int .i64))) (hS : S.length ≤ 5000) (ht : Tab base w) :
    Calls Tryz.prog 100 #[.pointer (some ⟨q, 0, none⟩), v] w fun e w' => e = .returned (.agg (cI (rowF tr (lstL g N) S 16).2).toArray) ∧ (∃ sv' r, Fd w' base q m (.slice a0 N c0) (.slice a1 N c1) (.slice a2 N c2) (.slice a3 N c3) sv' (vs ++ r) (rowF tr (lstL g N) S 16).1 ∧ ∀ u ∈ r, ∀ k, u.ownBlock = some k → w.heap.size ≤ k) ∧ Kf base w w' := by
  refine (row_any base q m a0 a1 a2 a3 N c0 c1 c2 c3 fs ss ts rs tr sv vs S v g w hm hn htr hF hv hS ht).mono ?_
  rintro e w' ⟨rfl, ⟨sv', vs', r, hf, rfl, hr⟩, hk⟩
  exact ⟨by rw [rowG_list (row_len _ _ _ _)]; rfl, ⟨sv', r, hf, hr⟩, hk⟩
/-- A finder, new. -/
theorem fd_new (w : World) (x0 x1 x2 x3 : Value) : ∃ W, W = ((((w.alloc (.cells #[x0, x1, x2, x3] 97)).alloc (.map #[] 0)).alloc (.cells #[x0, x1, x2, x3, .slice none 0 0, .map (some (w.heap.size + 1))] 157)).alloc (.cells #[.int .i64 0] 3)) ∧
    Fd W (w.heap.size + 1) (w.heap.size + 1 + 1) (w.heap.size + 1) x0 x1 x2 x3 (.slice none 0 0) [] [] ∧ W.heap[w.heap.size]? = some (.cells #[x0, x1, x2, x3] 97 (0, 0)) ∧ Wd W (some ⟨w.heap.size + 1 + 1 + 1, 0, none⟩) [0] ∧ Below w.heap.size w W ∧ W.heap.size = w.heap.size + 4 := by
  refine ⟨_, rfl, ⟨?_, by omega, World.ownsRow_nil _ _ _ _, rfl, fun i v s h => by simp at h, ⟨.map [], ?_, tieS_nil⟩, Nat.le_refl _⟩, ?_, ?_, ?_, by simp⟩
  · have e := heap_alloc_last ((w.alloc (.cells #[x0, x1, x2, x3] 97)).alloc (.map #[] 0)) (.cells #[x0, x1, x2, x3, .slice none 0 0, .map (some (w.heap.size + 1))] 157)
    rw [show ((w.alloc (.cells #[x0, x1, x2, x3] 97)).alloc (.map #[] 0)).heap.size = w.heap.size + 1 + 1 by simp] at e
    rw [Below.heap_alloc _ _ _ (by simp)]; exact e
  · have m1 := World.ownsMap_made (w.alloc (.cells #[x0, x1, x2, x3] 97)) Tryz.prog 9 (plainElem (H := Unit) Tryz.prog 3)
    rw [show (w.alloc (.cells #[x0, x1, x2, x3] 97)).heap.size = w.heap.size + 1 by simp] at m1
    exact map_move m1 ((Below.heap_alloc _ _ _ (by simp)).trans (Below.heap_alloc _ _ _ (by simp)))
  · rw [Below.heap_alloc _ _ _ (by simp; omega), Below.heap_alloc _ _ _ (by simp; omega), Below.heap_alloc _ _ _ (by simp)]
    exact heap_alloc_last _ _
  · have h := wd_one (((w.alloc (.cells #[x0, x1, x2, x3] 97)).alloc (.map #[] 0)).alloc (.cells #[x0, x1, x2, x3, .slice none 0 0, .map (some (w.heap.size + 1))] 157)) 0
    rw [show (((w.alloc (.cells #[x0, x1, x2, x3] 97)).alloc (.map #[] 0)).alloc (.cells #[x0, x1, x2, x3, .slice none 0 0, .map (some (w.heap.size + 1))] 157)).heap.size = w.heap.size + 1 + 1 + 1 by simp] at h
    exact h
  · exact ((((Below.refl _ _).alloc (Nat.le_refl _) _).alloc (by simp) _).alloc (by simp; omega) _).alloc (by simp; omega) _
theorem cell_alloc {w : World} {a : Addr} {v : Value} (h : w.cell? a = some v) (o : Obj) : (w.alloc o).cell? a = some v := (World.cell?_of_block (Below.heap_alloc w o a.block (cell_lt h))).trans h
theorem blk4 {w : World} {g : Nat} {x y z u : Value} (h : w.heap[g]? = some (.cells #[x, y, z, u] 97 (0, 0))) : w.cell? ⟨g, 0, none⟩ = some x ∧ w.cell? ⟨g, 1, none⟩ = some y ∧ w.cell? ⟨g, 2, none⟩ = some z ∧ w.cell? ⟨g, 3, none⟩ = some u := by
  refine ⟨?_, ?_, ?_, ?_⟩
  · rw [cell_of_row _ _ _ _ _ _ h]; rfl
  · rw [cell_of_row _ _ _ _ _ _ h]; rfl
  · rw [cell_of_row _ _ _ _ _ _ h]; rfl
  · rw [cell_of_row _ _ _ _ _ _ h]; rfl
/-- What Build tells. -/
def OutD (w : World) (σ : List (List Int) × List (List Int) × List Int) (e : Ending) (w' : World) : Prop :=
  if 200 < σ.1.length then e = .returned (noDf 7) ∧ Below w.heap.size w w'
  else ∃ a0 a1 c0 c1, e = .returned (.tuple #[.agg #[.slice a0 σ.2.1.length c0, .slice a1 σ.2.2.length c1], .int .i64 0]) ∧ Dr w' a0 σ.2.1 ∧ Wd w' a1 σ.2.2 ∧ Below w.heap.size w w'

theorem own_form {w : World} {base n size : Nat} {e : TypeId} {v : Value} {xs : List Value} (h : w.ownsRow base e size v n xs) : ∃ x c, v = .slice x n c := by
  rcases h.2 with ⟨rfl, rfl⟩ | ⟨g, cap, cur, rfl, _⟩
  · exact ⟨_, _, rfl⟩
  · exact ⟨_, _, rfl⟩
attribute [local go_sem ↓] wp_build25s
attribute [local go_sem] isBlk_agg cells_agg
set_option maxRecDepth 100000 in
set_option maxHeartbeats 6400000 in
theorem dbuild_yes7 (n : Nat) (a : Option Addr) (len cap : Nat) (l : List (Ex n)) (w : World) (hl : len ≤ maxLen) (h6 : l.length = len) (hkids : Kids w n a len l) (hyes : mayB l = true)
    (fs : List (List Int)) (ss : List Nat) (ts rs : List Int) (N : Nat) (tr : List Int → Nat → List Int) (g0 : Nat → Bool) (hi : Is (FrA l) (SpA l) N fs ss ts) (hr : RsI l len rs) (hrl : rs.length = N) (hN : N = posE 1 l len) (htr : TrS fs ss ts N tr) (hg0 : IsCl fs N (tblB [0] 1) g0) (ht : Tab w.heap.size w) :
    Calls Tryz.prog 81 #[.slice a len cap] w (OutD w (stF tr (lstR rs) (lstL g0 N) 201)) := by
  obtain ⟨hl1, hl2, hful, hsh⟩ := may_open hyes hkids h6
  obtain ⟨i63, hi63, hz63, hs63, hb63⟩ := info_parts (show (Tryz.prog.info? 66).map (fun i => (i.zero, i.size, i.bytes)) = some (some (.agg (Array.replicate 16 (.int .i64 0))), 16, 128) by kernel_rfl)
  obtain ⟨i3, hi3, hz3, hs3, hb3⟩ := info_parts info3
  have hb0 := (Below.refl w.heap.size w).alloc (Nat.le_refl _) (.cells #[.slice none 0 0, .slice none 0 0] 25)
  have HB0 := hide hb0
  have HN2 := hide (nil2 w)
  have HC := hide (build_yes n a len cap l _ hl h6 (kids_below hb0 hkids) hyes)
  have HI := hide hi
  have HR := hide hr
  have HRL := hide hrl
  have HNP := hide hN
  have HTR := hide htr
  have HG0 := hide hg0
  have HT := hide (tab_on ht hb0)
  have HFUL := hide hful
  have HSH := hide hsh
  have H6 := hide h6
  have HL12 := hide (And.intro hl1 hl2)
  clear hkids h6 hyes hb0 hi hr hrl hN htr hg0 ht hful hsh
  go_enter Tryz.func81, Tryz.ntmps81
  go_wp2_with fail
  generalize w.alloc (.cells #[.slice none 0 0, .slice none 0 0] 25) = W at *
  generalize hP : w.heap.size = P at *
  refine HC.out.mono ?_
  rintro e w1 ⟨a0, a1, a2, a3, N', c0, c1, c2, c3, fs', ss', ts', rs', rfl, hnm, hi', hr', hrl', hN', hN3, hb1⟩
  obtain rfl : N' = N := hN'.trans HNP.out.symm
  obtain ⟨rfl, rfl, rfl⟩ := is_one HFUL.out HSH.out hi' HI.out
  obtain rfl := rs_one HFUL.out (hrl'.trans HRL.out.symm) hr' HR.out
  have HM := hide (build_mach HFUL.out H6.out HL12.out.2 HI.out HR.out HRL.out HNP.out hN3)
  have hP2 := (hb1.block P (by rw [← hP]; exact (Array.getElem?_eq_some_iff.1 (hP ▸ HN2.out)).1)).trans HN2.out
  have HP2 := hide hP2
  have HNM := hide hnm
  have HB1 := hide (HB0.out.trans (hb1.mono (by rw [← hP]; exact hP ▸ HB0.out.size)))
  have HT1 := hide (tab_on HT.out (hb1.mono (by rw [← hP]; exact hP ▸ HB0.out.size)))
  clear hi' hr' hrl' hN' hnm hb1 hP2 HC HT HI HR HRL HNP
  have hmm := @run_makeMap Tryz.prog
  go_wp2_with fail
  obtain ⟨W4, eW4, hf4, hn4, hw4, hb4, hs4⟩ := fd_new w1 (.slice a0 N' c0) (.slice a1 N' c1) (.slice a2 N' c2) (.slice a3 N' c3)
  rw [← eW4]
  clear eW4
  have hPw1 : P < w1.heap.size := (Array.getElem?_eq_some_iff.1 HP2.out).1
  have HNB := hide (show NmB (w1.heap.size + 1) W4 a0 a1 a2 a3 fs' ss' ts' rs' from fun w' hb' => nm_below (hb4.trans (hb'.mono (Nat.le_succ _))) HNM.out)
  have HTB := hide (show Tab (w1.heap.size + 1) W4 from tab_up (tab_on HT1.out (hb4.mono (by omega))) (by omega))
  have HF4 := hide hf4
  have HN4 := hide hn4
  have HB4 := hide hb4
  have HP4 := hide ((hb4.block P hPw1).trans HP2.out)
  have HS4 := hide hs4
  clear hf4 hn4 hb4 hs4 HT1 HNM
  generalize hp : w1.heap.size = p at *
  refine (pclose_yes a0 a1 a2 a3 N' c0 c1 c2 c3 fs' ss' ts' rs' _ 1 1 [0] W4 HM.out (HNB.out W4 (Below.refl _ _)) rfl (by decide) hw4).mono ?_
  rintro e w5 ⟨g5, v5, hcl5, rfl, ho5, hb5⟩
  have e5 : lstL g5 N' = lstL g0 N' := lst_congr (isCl_one hcl5 HG0.out)
  rw [e5] at ho5
  have HNE := hide (show lstL g0 N' ≠ [] from fun e => by
    have h0 : (0 : Nat) < N' := HM.out.pos
    have : ((0 : Nat) : Int) ∈ lstL g0 N' := (lst_mem g0 N' _).2 ⟨0, rfl, h0, (HG0.out 0 h0).2 (.here h0 (by decide))⟩
    rw [e] at this; cases this)
  have HFS := hide (show findF [] (lstL g0 N') = ([lstL g0 N'], 0) by unfold findF; rw [if_neg HNE.out, if_neg (by simp)]; rfl)
  have HO5 := hide (own_low ho5 (show p + 1 ≤ W4.heap.size by have := HS4.out; omega))
  have HF5 := hide (fd_below hb5 HF4.out)
  have HB5 := hide (show Below (p + 1) W4 w5 from hb5.mono (by have := HS4.out; omega))
  clear hcl5 ho5 hb5 hw4
  go_wp2_with fail
  refine (find_any (p + 1) (p + 1 + 1) (p + 1) _ _ _ _ _ [] [] v5 (lstL g0 N') w5 HF5.out HO5.out (nn_lst (by omega)) (by simp) (tab_on HTB.out HB5.out)).mono ?_
  rw [HFS.out]
  rintro e w6 ⟨rfl, ⟨sv6, vs6, hf6, hv6⟩, hk6⟩
  have HB6 := hide (HB5.out.trans (hk6.below (fd_lt HF5.out).2.2.2))
  have HV6 := hide hv6
  have HF6 := hide hf6
  clear hf6 hv6 hk6 HF5 HO5 e5
  go_wp2_with fail
  have hp6 : p + 1 ≤ w6.heap.size := (fd_lt HF6.out).2.2.2
  have HBD := hide (show Bd (w6.alloc (.cells #[.slice none 0 0, .slice none 0 0] 25)) (p + 1) (p + 1 + 1) (p + 1) w6.heap.size (.slice a0 N' c0) (.slice a1 N' c1) (.slice a2 N' c2) (.slice a3 N' c3) sv6 (.slice none 0 0) (.slice none 0 0) vs6 [lstL g0 N'] [] [] from
    ⟨fd_below ((Below.refl _ _).alloc (Nat.le_refl _) _) HF6.out, heap_alloc_last _ _, hp6, World.ownsRow_nil _ _ _ _, World.ownsRow_nil _ _ _ _, fun v _ => ap_nil v⟩)
  have HB7 := hide (HB6.out.alloc hp6 (.cells #[.slice none 0 0, .slice none 0 0] 25))
  have HALL := hide (fun k => st_all (tr := tr) (ls := lstR rs') (start := lstL g0 N') (P := fun s => ∃ g, s = lstL g N') ⟨g0, rfl⟩ (fun s ⟨g, e⟩ c hc _ => by
    obtain ⟨h, _, h2⟩ := HTR.out g c hc
    rw [e]
    exact ⟨h, h2⟩) k)
  clear HF6 HFS HB5 HB6 HV6 hPw1
  generalize w6.alloc (.cells #[.slice none 0 0, .slice none 0 0] 25) = W7 at *
  generalize w6.heap.size = d at *
  generalize hst : lstL g0 N' = start at *
  generalize hls : lstR rs' = ls at *
  go_loopw [8] (fun i wr => ∃ (k : Nat) (sv nv rv : Value) (vs : List Value), i = .int .i64 k ∧ k ≤ 200 ∧ (∀ j, j < k → j < (stF tr ls start j).1.length) ∧ (stF tr ls start k).1.length ≤ 200 ∧ Bd wr (p + 1) (p + 1 + 1) (p + 1) d (.slice a0 N' c0) (.slice a1 N' c1) (.slice a2 N' c2) (.slice a3 N' c3) sv nv rv vs (stF tr ls start k).1 (stF tr ls start k).2.1 (stF tr ls start k).2.2 ∧ Below (p + 1) W4 wr) (fun i _ => 201 - (intOf i).toNat)
  case atStart => exact ⟨0, sv6, _, _, vs6, rfl, by omega, fun j hj => by omega, by simp [stF], HBD.out, HB7.out⟩
  case round =>
    obtain ⟨k, sv, nv, rv, vs, rfl, hk2, hlow, hlen, hbd, hbw⟩ := hrel
    have HBD' := hide hbd
    have HBW := hide hbw
    have HLOW := hide hlow
    obtain ⟨hl1', hl2'⟩ := st_len k hlow
    have HL1 := hide hl1'
    have HL2 := hide hl2'
    have HN4' := hide ((hbw.block p (Nat.lt_succ_self p)).trans HN4.out)
    have HPX := hide ((hbw.block P (by have := (Array.getElem?_eq_some_iff.1 HP2.out).1; omega)).trans HP4.out)
    clear hbd hbw hlow HBD HB7 hl1' hl2'
    by_cases hlt : k < (stF tr ls start k).1.length
    · obtain ⟨s, hsk⟩ : ∃ s, (stF tr ls start k).1[k]? = some s := ⟨_, List.getElem?_eq_getElem hlt⟩
      obtain ⟨g, rfl⟩ := HALL.out k s (List.mem_of_getElem? hsk)
      have hvl := HBD'.out.f.len
      obtain ⟨v, hvk⟩ : ∃ v, vs[k]? = some v := ⟨_, List.getElem?_eq_getElem (by rw [hvl]; exact hlt)⟩
      have hov := HBD'.out.f.set k v _ hvk hsk
      have HST := hide (st_some (ls := ls) hsk)
      have HHS := hide hsk
      have HVK := hide hvk
      have HOV := hide hov
      have HVL := hide hvl
      have HKL := hide hlt
      obtain ⟨⟨-, -, -, -, q4', -⟩, -⟩ := f_cells HBD'.out.f.blk
      obtain ⟨xs0, xc0, hsv⟩ := own_form HBD'.out.f.own
      obtain ⟨ns, hns⟩ : ∃ ns, vs.length = ns := ⟨_, rfl⟩
      have i4'' : (k : Int) < (ns : Int) := by omega
      rw [hsv, hns] at q4'
      go_upto_region 10 with fail
      go_cut [] from 25 to 59 (fun wx => ∃ (sv1 nv1 : Value) (vs1 : List Value), Bd wx (p + 1) (p + 1 + 1) (p + 1) d (.slice a0 N' c0) (.slice a1 N' c1) (.slice a2 N' c2) (.slice a3 N' c3) sv1 nv1 rv vs1 (rowF tr (lstL g N') (stF tr ls start k).1 16).1 ((stF tr ls start k).2.1 ++ [(rowF tr (lstL g N') (stF tr ls start k).1 16).2]) (stF tr ls start k).2.2 ∧ vs1[k]? = some v ∧ Below (p + 1) W4 wx)
      case first =>
        clear q4' i4'' hns
        obtain ⟨gs, cs0, rfl, hlgs, hbgs⟩ := HBD'.out.f.own.form (by omega)
        have ek := HBD'.out.f.own.cellAt k (by omega)
        rw [hvk] at ek
        obtain ⟨⟨-, -, -, -, q4, -⟩, -⟩ := f_cells HBD'.out.f.blk
        obtain ⟨e0, e1, ez⟩ := d_cells HBD'.out.db
        have f0 := ez 0
        obtain ⟨av, cv, rfl, hWv⟩ := own_len hov
        obtain ⟨ns, hns⟩ : ∃ ns, vs.length = ns := ⟨_, rfl⟩
        have HNS := hide hns
        rw [hns] at q4
        obtain ⟨an, cn, hnv⟩ := own_form HBD'.out.n
        rw [HL1.out] at hnv
        have i3' : (0 : Int) ≤ (k : Int) := by omega
        have i4' : (k : Int) < (ns : Int) := by omega
        have hpw := (fd_lt HBD'.out.f).2.2.2
        have hbdr := below_drew1 wr
        have HROW := hide (row_any' (p + 1) (p + 1 + 1) (p + 1) a0 a1 a2 a3 N' c0 c1 c2 c3 fs' ss' ts' rs' tr _ vs _ _ g wr.drew HM.out (nmB_on HNB.out (HBW.out.trans (hbdr.mono hpw))) HTR.out (fd_below hbdr HBD'.out.f) (own_move (w' := wr.drew) hov (fun k hk => rfl)) (by omega) (tab_on HTB.out (HBW.out.trans (hbdr.mono hpw))))
        have hcl : (cI (rowF tr (lstL g N') (stF tr ls start k).1 16).2).length = 16 := by rw [cI_len, row_len]
        have hone : ∀ u ∈ cI (rowF tr (lstL g N') (stF tr ls start k).1 16).2, u.oneCell' = true := fun u hu => by
          obtain ⟨z, _, rfl⟩ := List.mem_map.1 hu
          rfl
        obtain ⟨cs, hcs⟩ : ∃ cs, cI (rowF tr (lstL g N') (stF tr ls start k).1 16).2 = cs := ⟨_, rfl⟩
        have HCS := hide hcs
        obtain ⟨nl, hnl⟩ : ∃ nl, (lstL g N').length = nl := ⟨_, rfl⟩
        have HNL := hide hnl
        rw [hcs] at HROW hcl hone
        rw [hnl] at HROW ek
        have HNVB := hide (fun (w2 : World) (hk2 : Kf (p + 1) wr.drew w2) => hk2.own (own_move (w' := wr.drew) HBD'.out.n (fun k hk => rfl)) (by decide) (by decide))
        rw [HL1.out] at HNVB
        have HDW := hide (fun (w2 : World) (hk2 : Kf (p + 1) wr.drew w2) => (d_cells (hk2.heap (show wr.drew.heap[d]? = _ from HBD'.out.db) (by decide) (by decide))).1)
        have HDC := hide (fun (w2 : World) (hk2 : Kf (p + 1) wr.drew w2) (o : Obj) (w3 : World) (hgr : (w2.alloc o).grownBy w3 nv.ownBlock) => show w3.cell? ⟨d, 0, none⟩ = some nv ∧ w3.frozen? ⟨d, 0, none⟩ = false from by
          have h1 := hk2.heap (show wr.drew.heap[d]? = _ from HBD'.out.db) (by decide) (by decide)
          have hdl := (Array.getElem?_eq_some_iff.1 h1).1
          have h2 : w3.heap[d]? = some (.cells #[nv, rv] 25 (0, 0)) := by
            rw [hgr.block d (by simp; omega) (fun e => own_not (HNVB.out w2 hk2) h1 (by decide) e.symm), Below.heap_alloc _ _ _ hdl]; exact h1
          exact ⟨(d_cells h2).1, (d_cells h2).2.2 0⟩)
        have HSZ := hide (fun (w2 : World) (hk2 : Kf (p + 1) wr.drew w2) (o : Obj) => show p + 1 ≤ (w2.alloc o).heap.size from by have := hk2.size; simp at this ⊢; omega)
        have HPW := hide hpw
        clear hsk hvk hov hvl hcs hnl hWv ez hlgs hbgs hbdr hpw HN4' hlt hns HPX
        subst hnv
        go_region_law ((first
          | (refine step_append_lies _ (by rfl) (.tmp 33) (.tmp 40) 22 (by rfl) (p + 1) 66 i63 (.agg (Array.replicate 16 (.int .i64 0))) 16 128 Tryz.underlying22 hi63 hz63 hs63 hb63 (by simp [Value.cells]) (by omega) (.slice an k cn) k (cellsR (stF tr ls start k).2.1) (by rfl) ((HNVB.out w2 hk2).alloc _) ⟨w2.heap.size, 0, none⟩ 1 1 cs (by rfl) (by omega) (World.news_of_block (cs := cs.toArray) (heap_alloc_last w2 _)) hone (by omega) (by unfold maxLen; omega) (by omega) (HSZ.out w2 hk2 _) (w2.heap.size + 1) (by simp) ?_; intro g' cap' w3 hown3 hgrow3 hat3 hlt3; obtain ⟨g5, g6⟩ := HDC.out w2 hk2 _ w3 hgrow3)
          | (go_simp; go_at_call 100; refine HROW.out.mono ?_; rintro e w2 ⟨rfl, ⟨sv2, r2, hf2, hr2⟩, hk2⟩; have u2 := HDW.out w2 hk2; have u3 := fun o => cell_alloc u2 o; go_simp)))
        all_goals
          have hbd3 := bd_next (l := (rowF tr (lstL g N') (stF tr ls start k).1 16).2) (bd_kf (bd_below (below_drew1 wr) HBD'.out) hk2 hf2 hr2) hgrow3 (by rw [HL1.out, HCS.out]; exact hown3)
          rw [HL1.out] at hbd3
          have hbw3 := (((HBW.out.trans ((below_drew1 wr).mono HPW.out)).trans (hk2.below (show p + 1 ≤ wr.drew.heap.size from HPW.out))).alloc (show p + 1 ≤ w2.heap.size by have := HSZ.out w2 hk2 (.cells cs.toArray 66); have := hk2.size; have := HPW.out; simp at *; omega) (.cells cs.toArray 66)).grown hgrow3 (HSZ.out w2 hk2 _) (fun kk hkk => ((HNVB.out w2 hk2).lt kk hkk).1) |>.setCell (p := ⟨d, 0, none⟩) (show p + 1 ≤ d from HBD'.out.dlow) (.slice (some ⟨g', 0, none⟩) (k + 1) cap')
          go_wp2_with fail
          go_meet
          exact ⟨_, _, _, hbd3, by rw [List.getElem?_append_left (List.getElem?_eq_some_iff.1 HVK.out).1]; exact HVK.out, hbw3⟩
      case rest =>
      obtain ⟨wP, rfl⟩ : ∃ y, y = wc := ⟨_, rfl⟩
      obtain ⟨sv1, nv1, vs1, hbd1, hvk1, hbw1⟩ := hcut
      have HBD3 := hide hbd1
      have HBW3 := hide hbw1
      have HVK1 := hide hvk1
      clear hbd1 hbw1 hvk1 q4' i4'' hns hvk hov hvl hsk
      obtain ⟨av, cv, rfl, -⟩ := own_len HOV.out
      obtain ⟨nl, hnl⟩ : ∃ nl, (lstL g N').length = nl := ⟨_, rfl⟩
      have HNL := hide hnl
      have i3' : (0 : Int) ≤ (k : Int) := by omega
      clear hnl
      go_upto_region 11 with fail
      go_cut [] from 25 to 59 (fun wx => ∃ (sv1 nv1 rv1 : Value) (vs1 : List Value), Bd wx (p + 1) (p + 1 + 1) (p + 1) d (.slice a0 N' c0) (.slice a1 N' c1) (.slice a2 N' c2) (.slice a3 N' c3) sv1 nv1 rv1 vs1 (stF tr ls start (k + 1)).1 (stF tr ls start (k + 1)).2.1 (stF tr ls start (k + 1)).2.2 ∧ Below (p + 1) W4 wx)
      case first =>
        clear HPX
        have hl5 := HBD3.out.f.len
        obtain ⟨n2, hn2⟩ : ∃ n2, vs1.length = n2 := ⟨_, rfl⟩
        have hkn : k < n2 := by rw [← hn2]; exact (List.getElem?_eq_some_iff.1 HVK1.out).1
        obtain ⟨gs2, cs2, rfl, -, -⟩ := HBD3.out.f.own.form (by omega)
        have ek := HBD3.out.f.own.cellAt k (by omega)
        rw [HVK1.out] at ek
        obtain ⟨⟨-, -, -, -, q4, -⟩, -⟩ := f_cells HBD3.out.f.blk
        obtain ⟨e0, e1, ez⟩ := d_cells HBD3.out.db
        have f1 := ez 1
        obtain ⟨ar, cr, hrv⟩ := own_form HBD3.out.r
        rw [HL2.out] at hrv
        obtain ⟨y0, y1, y2, y3⟩ := blk4 ((HBW3.out.block p (Nat.lt_succ_self p)).trans HN4.out)
        have hpw5 := (fd_lt HBD3.out.f).2.2.2
        have hset := HBD3.out.f.set k _ _ HVK1.out (by
          obtain ⟨r, hr, _⟩ := row_pre tr (lstL g N') (stF tr ls start k).1 16
          rw [hr, List.getElem?_append_left (List.getElem?_eq_some_iff.1 HHS.out).1]; exact HHS.out)
        obtain ⟨av', cv', eav, hwP⟩ := own_len hset
        obtain ⟨rfl, -, rfl⟩ := Value.slice.inj eav
        have HLE := hide (leastRule_any (.slice a0 N' c0) (.slice a1 N' c1) (.slice a2 N' c2) a3 av N' c3 nl cv rs' (lstL g N') wP.drew (by have := lstL_le g N'; have := HNL.out; omega) HM.out.lr HNL.out ((HNB.out _ (HBW3.out.trans ((below_drew1 wP).mono hpw5))).rule) (wd_below (below_drew1 wP) hwP) (fun z hz => by obtain ⟨j, rfl, hj, _⟩ := (lst_mem g N' z).1 hz; omega))
        rw [hls] at HLE
        have HRVB := hide (fun (w6 : World) (hb6 : Below wP.drew.heap.size wP.drew w6) => own_move (w' := w6) HBD3.out.r (fun kk hkk => (hb6.block kk (own_type HBD3.out.r hkk).2.1)))
        rw [HL2.out] at HRVB
        have HDC := hide (fun (w6 : World) (hb6 : Below wP.drew.heap.size wP.drew w6) (o : Obj) (w7 : World) (hgr : (w6.alloc o).grownBy w7 rv.ownBlock) => show w7.cell? ⟨d, 1, none⟩ = some rv ∧ w7.frozen? ⟨d, 1, none⟩ = false from by
          have hd5 := HBD3.out.db
          have hdl := (Array.getElem?_eq_some_iff.1 hd5).1
          have h1 : w6.heap[d]? = some (.cells #[nv1, rv] 25 (0, 0)) := (hb6.block d hdl).trans hd5
          have h2 : w7.heap[d]? = some (.cells #[nv1, rv] 25 (0, 0)) := by
            rw [hgr.block d (by have := (Array.getElem?_eq_some_iff.1 h1).1; simp; omega) (fun e => own_not HBD3.out.r hd5 (by decide) e.symm), Below.heap_alloc _ _ _ (Array.getElem?_eq_some_iff.1 h1).1]; exact h1
          exact ⟨(d_cells h2).2.1, (d_cells h2).2.2 1⟩)
        have HSZ := hide (fun (w6 : World) (hb6 : Below wP.drew.heap.size wP.drew w6) (o : Obj) => show p + 1 ≤ (w6.alloc o).heap.size from by have := hb6.size; simp at this ⊢; omega)
        have HL5 := hide hl5
        rw [hn2] at q4
        rw [HNL.out] at ek
        have i5' : (k : Int) < (n2 : Int) := by omega
        clear hl5 hn2 ez hset hwP eav hpw5
        subst hrv
        go_region_law ((first
          | (refine step_append_lies _ (by rfl) (.tmp 44) (.tmp 52) 23 (by rfl) (p + 1) 3 i3 (.int .i64 0) 1 8 Tryz.underlying23 hi3 hz3 hs3 hb3 rfl (by omega) (.slice ar k cr) k ((stF tr ls start k).2.2.map (Value.int .i64)) (by rfl) ((HRVB.out w6 hb6).alloc _) ⟨w6.heap.size, 0, none⟩ 1 1 [.int .i64 (ls (lstL g N'))] (by rfl) (by rfl) (one_new _ _ _) (fun u hu => by simp only [List.mem_singleton] at hu; subst hu; rfl) (by omega) (by unfold maxLen; omega) (by omega) (HSZ.out w6 hb6 _) (w6.heap.size + 1) (by simp) ?_; intro g'' cap'' w7 hown7 hgrow7 hat7 hlt7; obtain ⟨g5, g6⟩ := HDC.out w6 hb6 _ w7 hgrow7)
          | (go_simp; go_at_call 101; refine HLE.out.mono ?_; rintro e w6 ⟨rfl, hb6⟩; have u2 := (hb6.cell (p := ⟨d, 1, none⟩) (cell_lt e1)).trans e1; have u3 := fun o => cell_alloc u2 o; go_simp)))
        all_goals
          have hbd4 := bd_rule (bd_below hb6 (bd_below (below_drew1 wP) HBD3.out)) hgrow7 (by rw [HL2.out]; exact hown7) (by rcases hat7 with h | h; exact .inl h; right; omega)
          rw [HL2.out] at hbd4
          have hbw4 := (((HBW3.out.trans ((below_drew1 wP).mono (fd_lt HBD3.out.f).2.2.2)).trans (hb6.mono (show p + 1 ≤ wP.drew.heap.size from (fd_lt HBD3.out.f).2.2.2))).alloc (show p + 1 ≤ w6.heap.size by have := hb6.size; have := (fd_lt HBD3.out.f).2.2.2; simp at *; omega) (.cells #[.int .i64 (ls (lstL g N'))] 3)).grown hgrow7 (HSZ.out w6 hb6 _) (fun kk hkk => ((HRVB.out w6 hb6).lt kk hkk).1) |>.setCell (p := ⟨d, 1, none⟩) (show p + 1 ≤ d from HBD'.out.dlow) (.slice (some ⟨g'', 0, none⟩) (k + 1) cap'')
          go_wp2_with fail
          go_meet
          exact ⟨_, _, _, _, by rw [HST.out]; exact hbd4, hbw4⟩
      case rest =>
      obtain ⟨wQ, rfl⟩ : ∃ y, y = wc := ⟨_, rfl⟩
      obtain ⟨sv2, nv2, rv2, vs2, hbd2, hbw2⟩ := hcut
      have HBD2 := hide hbd2
      have HBW2 := hide hbw2
      clear hbd2 hbw2 HBD3 HBW3 HVK1
      obtain ⟨xs2, xc2, hsv2⟩ := own_form HBD2.out.f.own
      obtain ⟨⟨-, -, -, -, q4, -⟩, -⟩ := f_cells HBD2.out.f.blk
      obtain ⟨n2, hn2⟩ : ∃ n2, vs2.length = n2 := ⟨_, rfl⟩
      have hl2 := HBD2.out.f.len
      rw [hsv2, hn2] at q4
      rw [hn2] at hl2
      have HL2' := hide hl2
      have hPX := (HBW2.out.block P (by have := (Array.getElem?_eq_some_iff.1 HP2.out).1; omega)).trans HP4.out
      clear hn2 hsv2 hl2
      by_cases hbig : 200 < n2
      · have d1 : decide ((200 : Int) < (n2 : Int)) = true := by simp; omega
        have HWF := hide (set2 (x := .slice none 0 0) (y := .slice none 0 0) hPX)
        have HBF := hide (below_set2 (x := .slice none 0 0) (y := .slice none 0 0) (HB1.out.trans ((HB4.out.mono (show P ≤ p by have := (Array.getElem?_eq_some_iff.1 HP2.out).1; omega)).trans (HBW2.out.mono (show P ≤ p + 1 by have := (Array.getElem?_eq_some_iff.1 HP2.out).1; omega)))) (Nat.le_refl P))
        obtain ⟨q0, q1, qz⟩ := d_cells hPX
        have y0 := qz 0
        have y1 := qz 1
        have HBIG := hide (show 200 < (stF tr ls start 201).1.length from st_big (k := k) (by rw [← HL2'.out]; exact hbig) (by omega))
        clear qz hPX hbig
        go_wp2
        obtain ⟨m0, m1, -⟩ := d_cells HWF.out
        refine bodyPost_ret (v := noDf 7) (by simp [noDf, results, Tryz.results81, go_sem, m0, m1]) rfl ?_
        unfold OutD
        rw [if_pos HBIG.out]
        exact ⟨rfl, hP ▸ HBF.out⟩
      · have d1 : decide ((200 : Int) < (n2 : Int)) = false := by simp; omega
        clear hPX
        go_wp2
        go_roundw
        case rel => exact ⟨k + 1, sv2, nv2, rv2, vs2, by go_num, by have := HKL.out; omega, fun j hj => by
          by_cases e : j = k
          · subst e; exact HKL.out
          · exact HLOW.out j (by omega), by rw [← HL2'.out]; omega, HBD2.out, HBW2.out⟩
        case measure => simp [intOf]; omega
    · have hke : (stF tr ls start k).1.length = k := by
        rcases Nat.eq_zero_or_pos k with h0 | h0
        · subst h0; simp [stF] at hlt
        · have h1 := HLOW.out (k - 1) (by omega)
          have h2 := st_mono (tr := tr) (ls := ls) (start := start) (show k - 1 ≤ k by omega)
          omega
      have HEND := hide (st_end hke hk2)
      obtain ⟨xs2, xc2, hsv2⟩ := own_form HBD'.out.f.own
      obtain ⟨⟨-, -, -, -, q4, -⟩, -⟩ := f_cells HBD'.out.f.blk
      obtain ⟨n2, hn2⟩ : ∃ n2, vs.length = n2 := ⟨_, rfl⟩
      have hl2 := HBD'.out.f.len
      rw [hsv2, hn2] at q4
      rw [hn2, hke] at hl2
      subst hl2
      obtain ⟨an, cn, rfl, hdr⟩ := own_dr HBD'.out.n (fun x hx => by
        obtain ⟨i, hi, e⟩ := List.getElem_of_mem hx
        obtain ⟨s, row, _, h2, h3, _⟩ := st_means n2 HLOW.out i (by have := HL1.out; omega)
        rw [List.getElem?_eq_getElem hi, e] at h2
        rw [Option.some.inj h2]; exact h3)
      obtain ⟨ar, cr, rfl, hwr⟩ := own_len HBD'.out.r
      obtain ⟨e0, e1, ez⟩ := d_cells HBD'.out.db
      have hPX := HPX.out
      obtain ⟨q0, q1, qz⟩ := d_cells hPX
      have y0 := qz 0
      have y1 := qz 1
      have HDR := hide (hdr rfl)
      rw [HL1.out] at e0
      rw [HL2.out] at e1
      have hbf : ∀ x y, Below P w ((wr.setCell ⟨P, 0, none⟩ x).setCell ⟨P, 1, none⟩ y) := fun x y => below_set2 (HB1.out.trans ((HB4.out.mono (show P ≤ p by have := (Array.getElem?_eq_some_iff.1 HP2.out).1; omega)).trans (HBW.out.mono (show P ≤ p + 1 by have := (Array.getElem?_eq_some_iff.1 HP2.out).1; omega)))) (Nat.le_refl P)
      have HBF := hide hbf
      have HWF := hide (set2 (x := .slice an n2 cn) (y := .slice ar n2 cr) hPX)
      have HWR := hide hwr
      have HPD := hide (show ∀ (b i : Nat) (v : Value) (x y : Value), b ≠ P → wr.cell? ⟨b, i, none⟩ = some v → ((wr.setCell ⟨P, 0, none⟩ x).setCell ⟨P, 1, none⟩ y).cell? ⟨b, i, none⟩ = some v from fun b i v x y hb h => by
        rw [World.cell?_setCell_other _ _ _ _ (fun e => hb (by cases e; rfl)), World.cell?_setCell_other _ _ _ _ (fun e => hb (by cases e; rfl))]; exact h)
      clear qz ez hsv2 hn2 hlt hdr hwr hPX hbf
      go_wp2
      obtain ⟨m0, m1, -⟩ := d_cells HWF.out
      refine bodyPost_ret (v := .tuple #[.agg #[.slice an n2 cn, .slice ar n2 cr], .int .i64 0]) (by simp [results, Tryz.results81, go_sem, m0, m1]) rfl ?_
      unfold OutD
      rw [HEND.out, if_neg (by omega)]
      have hPp : P < p := by rw [← hp]; exact (Array.getElem?_eq_some_iff.1 HP2.out).1
      refine ⟨an, ar, cn, cr, by rw [HL1.out, HL2.out], fun i row hr => ?_, fun i z hz => ?_, hP ▸ HBF.out _ _⟩
      · obtain ⟨h1, b, off, e, h2⟩ := HDR.out i row hr
        have hb := (own_type HBD'.out.n (k := b) (by rw [e]; rfl)).1
        exact ⟨h1, b, off, e, fun j v hj => HPD.out b _ v _ _ (by omega) (h2 j v hj)⟩
      · obtain ⟨b, off, e, h2⟩ := HWR.out i z hz
        have hb := (own_type HBD'.out.r (k := b) (by rw [e]; rfl)).1
        exact ⟨b, off, e, HPD.out b _ _ _ _ (by omega) h2⟩
end Go.Proofs.YtbbfjjjnifomgaaGreatDoor.A


