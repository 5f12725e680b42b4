/- A split of classes, in memory: deeds as keys of a map. -/
import Derived.Test.YthkollnlmnbidaaGe
import Derived.Test.YthkollnlmnbidaaBl
import Derived.Maps.OwnSet
import Derived.Maps.OwnOps
namespace Go.Proofs.Ythkollnlmnbidaa.A
open Go.RowKit Go.Maps
set_option linter.unusedVariables false

/-- Deeds that fit. -/
def Fit17 (x : List Int) : Prop := x.length = 17 ∧ ∀ v ∈ x, -1 ≤ v ∧ v ≤ 10000
theorem row58 : 58 < Try.prog.types.size := of_decide_eq_true (by kernel_rfl)
theorem keyT58 : Try.prog.keyType 58 = true := by kernel_rfl
theorem wide58 : (match Try.prog.underlying 58 with | some (.array _ _) | some (.struct _) => true | _ => false) = true := by rw [Try.underlying58]
theorem cells58 : Try.prog.cellsOf 58 = 17 := by kernel_rfl
set_option maxRecDepth 100000 in
theorem law58 : Keyed Try.prog 58 := Keyed.of_law (deep_law_gate laid8 smallZ row58 keyT58 wide58)
theorem lits58 {x : List Int} (hx : Fit17 x) (m : Nat) : ∃ ls, Try.prog.keyLits (m + 2) 58 (cI x) = some ls := by
  have hl : (cI x).length = 17 := by rw [cI_len]; exact hx.1
  have hu : Try.prog.keyLits (m + 2) 58 (cI x) = if (cI x).length = Try.prog.cellsOf 58 then ((List.range 17).mapM fun i => Try.prog.keyLits (m + 1) 3 (((cI x).drop (i * Try.prog.cellsOf 3)).take (Try.prog.cellsOf 3))).map List.flatten else none := by
    conv => lhs; unfold Program.keyLits
    simp only [Try.underlying58]
  rw [hu, if_pos (by rw [cells58, hl]), cells3Z]
  have : ∀ (L : List Nat), (∀ i ∈ L, i < 17) → ∃ r, (L.mapM fun i => Try.prog.keyLits (m + 1) 3 (((cI x).drop (i * 1)).take 1)) = some r := by
    intro L
    induction L with
    | nil => intro _; exact ⟨[], rfl⟩
    | cons i r ih =>
      intro h
      obtain ⟨r', e⟩ := ih (fun j hj => h j (by simp [hj]))
      have hi := h i (by simp)
      have hix : i < x.length := by rw [hx.1]; exact hi
      have e1 : ((cI x).drop (i * 1)).take 1 = [.int .i64 x[i]] := by
        rw [Nat.mul_one, List.drop_eq_getElem_cons (by omega)]
        simp [cI]
      have hv := hx.2 x[i] (List.getElem_mem hix)
      rw [List.mapM_cons, e1, e]
      simp only [Program.keyLits, Try.underlying3]
      rw [WalkArith.wf_i64 (by omega)]
      exact ⟨_, rfl⟩
  obtain ⟨r, e⟩ := this (List.range 17) (fun i hi => by simpa using hi)
  rw [e]
  exact ⟨_, rfl⟩
def kD (P : Program) (x : List Int) : Lit := (keyOf P 58 (.agg (cI x).toArray)).getD (.bool false)
theorem key58 {x : List Int} (hx : Fit17 x) : keyOf Try.prog 58 (.agg (cI x).toArray) = some (kD Try.prog x) := by
  have h : ∃ l, keyOf Try.prog 58 (.agg (cI x).toArray) = some l := by
    obtain ⟨m, hm⟩ := types_succZ
    obtain ⟨ls, e⟩ := lits58 hx m
    have hsz : (cI x).toArray.size = 17 := by simp [cI_len, hx.1]
    simp only [keyOf, Try.underlying58, keyT58, Value.formed, hsz, cells58, Value.cells, hm]
    rw [e]
    exact ⟨_, rfl⟩
  obtain ⟨l, e⟩ := h
  unfold kD
  rw [e]; rfl
theorem kD_inj {x y : List Int} (hx : Fit17 x) (hy : Fit17 y) (e : kD Try.prog x = kD Try.prog y) : x = y := by
  have h1 := key58 hx
  rw [e] at h1
  have h2 := law58.inj h1 (key58 hy)
  have h3 : cI x = cI y := by simpa using h2
  apply List.ext_getElem?
  intro i
  have h4 : (cI x)[i]? = (cI y)[i]? := by rw [h3]
  simp only [cI, List.getElem?_map] at h4
  cases hx' : x[i]? <;> cases hy' : y[i]? <;> rw [hx', hy'] at h4 <;> simp at h4 ⊢
  exact h4

/-- The map tells which deeds were found, and their numbers. -/
structure TieD (S : List (List Int)) (D : DataW Unit) : Prop where
  at_ : ∀ s, Fit17 s → Maps.has D (kD Try.prog s) = decide (s ∈ S) ∧ (s ∈ S → D.atKey (kD Try.prog s) (.lit (.int .i64 0)) = .lit (.int .i64 (S.idxOf s : Nat)))
  size : Maps.size D = S.length
theorem tieD_nil : TieD [] (.map []) := ⟨fun s _ => ⟨by simp [Maps.has], fun h => by cases h⟩, rfl⟩
theorem tieD_new {S : List (List Int)} {D : DataW Unit} (t : TieD S D) (hD : IsMap D) (hT : Tidy D) {s : List Int} (hs : Fit17 s) (hm : ¬ s ∈ S) : TieD (S ++ [s]) (D.put (kD Try.prog s) (.lit (.int .i64 (S.length : Nat)))) := by
  refine ⟨fun s' hs' => ?_, ?_⟩
  · by_cases e : s' = s
    · subst e
      rw [has_put_same hD (law58.key (key58 hs)), atKey_put_same hD (law58.key (key58 hs))]
      refine ⟨by simp, fun _ => ?_⟩
      rw [List.idxOf_append, if_neg hm]
      simp
    · have ek : kD Try.prog s' ≠ kD Try.prog s := fun q => e (kD_inj hs' hs q)
      rw [has_put_other ek, atKey_put_other ek, (t.at_ s' hs').1]
      refine ⟨by simp [e], fun q => ?_⟩
      have q' : s' ∈ S := by simpa [e] using q
      rw [(t.at_ s' hs').2 q', List.idxOf_append, if_pos q']
  · rw [size_put hT, (t.at_ s hs).1, t.size]
    simp [hm]
theorem zero3 (w : World) : (zeroValue 3).run Try.prog w = .ok (.int .i64 0) w := by kernel_rfl
theorem map_move {w w1 : World} {k : TypeId} {R : Value → Option (DataW Unit × List MemPlace)} {b n : Nat} {D : DataW Unit} (h : w.ownsMap Try.prog k R b n D) (hb : w1.heap[b]? = w.heap[b]?) : w1.ownsMap Try.prog k R b n D := by
  obtain ⟨es, clock, hb', F, hs, hD⟩ := h
  exact ⟨es, clock, hb.trans hb', F, hs, hD⟩
theorem map_obj {w : World} {k : TypeId} {R : Value → Option (DataW Unit × List MemPlace)} {b n : Nat} {D : DataW Unit} (h : w.ownsMap Try.prog k R b n D) : ∃ es clock, w.heap[b]? = some (.map es clock) := by
  obtain ⟨es, clock, hb', _⟩ := h
  exact ⟨es, clock, hb'⟩
theorem map_lt {w : World} {k : TypeId} {R : Value → Option (DataW Unit × List MemPlace)} {b n : Nat} {D : DataW Unit} (h : w.ownsMap Try.prog k R b n D) : b < w.heap.size := by
  obtain ⟨es, c, e⟩ := map_obj h
  exact (Array.getElem?_eq_some_iff.1 e).1

set_option maxRecDepth 100000 in
set_option maxHeartbeats 6400000 in
theorem split_any (a0 a1 : Option Addr) (n c0 c1 C : Nat) (nx : List (List Int)) (ru : List Int) (cl : Nat → Int) (w : World) (hx : Mx nx ru n) (hm : Dm w a0 a1 n n nx ru) (hc : Ik w C n cl) (hr : ∀ i, i < n → -1 ≤ cl i ∧ cl i ≤ 200) :
    Calls Try.prog 31 #[.agg #[.slice a0 n c0, .slice a1 n c1], .slice (some ⟨C, 0, none⟩) n n] w fun e w' => ∃ (S : List (List Int)) (F : Nat → Int) (B : Nat), SpI nx ru cl n S F ∧ e = .returned (.tuple #[.slice (some ⟨B, 0, none⟩) n n, .int .i64 (S.length : Nat)]) ∧ Ik w' B n F ∧ w.heap.size ≤ B ∧ Below w.heap.size w w' := by
  obtain ⟨hv58, hi58⟩ := zero_of_info zero58
  rw [rowI_rep] at hv58
  have hn1 := hx.pos
  have hn2 := hx.most
  have hb0 := (Below.refl w.heap.size w).alloc (Nat.le_refl _) (.cells #[.slice a0 n c0, .slice a1 n c1] 25)
  have HBX := hide (heap_alloc_last w (.cells #[.slice a0 n c0, .slice a1 n c1] 25))
  have HS := hide (show (w.alloc (.cells #[.slice a0 n c0, .slice a1 n c1] 25)).heap.size = w.heap.size + 1 by simp)
  have HB0 := hide hb0
  have HM := hide (dm_below' hb0 hm)
  have HC := hide (ik_old hb0 hc)
  have HX := hide hx
  have HI := hide hi58
  have HR := hide hr
  have HXX := hide (show ∀ wr, Below (w.heap.size + 1) (w.alloc (.cells #[.slice a0 n c0, .slice a1 n c1] 25)) wr → wr.heap[w.heap.size]? = some (.cells #[.slice a0 n c0, .slice a1 n c1] 25 (0, 0)) ∧ Dm wr a0 a1 n n nx ru ∧ Ik wr C n cl from fun wr hb =>
    ⟨(hb.block w.heap.size (by omega)).trans HBX.out, dm_below' (by rw [HS.out]; exact hb) HM.out, ik_old (by rw [HS.out]; exact hb) HC.out⟩)
  have hmp := World.ownsMap_made (w.alloc (.cells #[.slice a0 n c0, .slice a1 n c1] 25)) Try.prog 58 (plainElem (H := Unit) Try.prog 3)
  have hb2 := ((Below.refl (w.heap.size + 1) (w.alloc (.cells #[.slice a0 n c0, .slice a1 n c1] 25))).alloc (by simp) (.map #[] 0)).alloc (by simp) (.cells (rowI n fun _ => 0) 3)
  have hik := ik_new ((w.alloc (.cells #[.slice a0 n c0, .slice a1 n c1] 25)).alloc (.map #[] 0)) n (fun _ => 0)
  rw [show ((w.alloc (.cells #[.slice a0 n c0, .slice a1 n c1] 25)).alloc (.map #[] 0)).heap.size = w.heap.size + 1 + 1 by simp] at hik
  rw [HS.out] at hmp
  have HMP := hide (map_move hmp (show (((w.alloc (.cells #[.slice a0 n c0, .slice a1 n c1] 25)).alloc (.map #[] 0)).alloc (.cells (rowI n fun _ => 0) 3)).heap[w.heap.size + 1]? = _ from Below.heap_alloc _ _ _ (by simp)))
  have HB2 := hide hb2
  have HIK := hide hik
  have hmm := @run_makeMap Try.prog
  have hmi := makeI n (by omega)
  clear hb0 hm hc hx hi58 hmp hb2 hik hr
  go_enter Try.func31, Try.ntmps31
  go_wp2_with fail
  generalize w.alloc (.cells #[.slice a0 n c0, .slice a1 n c1] 25) = W1 at *
  generalize (W1.alloc (.map #[] 0)).alloc (.cells (rowI n fun _ => 0) 3) = W3 at *
  generalize hA : w.heap.size + 1 = A at *
  clear hmm hmi
  go_loopw [8, 10, 11, 18] (fun _ _ _ u wr => ∃ (k : Nat) (S : List (List Int)) (F : Nat → Int) (D : DataW Unit), k ≤ n ∧ u = .int .i64 k ∧ S.length ≤ k ∧ SpI nx ru cl k S F ∧ wr.ownsMap Try.prog 58 (plainElem Try.prog 3) A S.length D ∧ TieD S D ∧ Ik wr (A + 1) n F ∧ Below A W1 wr) (fun _ _ _ u _ => n - (intOf u).toNat)
  case atStart => exact ⟨0, [], _, .map [], by omega, rfl, Nat.le_refl _, sp_start _ _, HMP.out, tieD_nil, HIK.out, HB2.out⟩
  case round =>
    obtain ⟨k, S, F, D, hk, rfl, hSk, hsp, hmap, htie, hik, hb⟩ := hrel
    have HSP := hide hsp
    have HMAP := hide hmap
    have HTIE := hide htie
    have HIK2 := hide hik
    have HBW := hide hb
    clear hsp hmap htie hik hb HMP HB2 HIK
    obtain ⟨hX, hDm, hCk⟩ := HXX.out wr HBW.out
    by_cases hlt : k < n
    · obtain ⟨m0, m1⟩ := ik_cell hCk hlt
      obtain ⟨f0, f1⟩ := ik_cell HIK2.out hlt
      obtain ⟨p0, p1, -⟩ := d_cells hX
      have i3 : (0 : Int) ≤ (k : Int) := by omega
      have i4 : (k : Int) < (n : Int) := by omega
      have HDM := hide hDm
      have HCK := hide hCk
      clear hX hDm hCk
      by_cases hcl : cl k = -1
      · have HSN := hide (sp_dead HSP.out hcl)
        rw [hcl] at m0
        have HIN := hide (ik_set HIK2.out hlt (-1))
        have HMN := hide (map_move HMAP.out (Below.heap_setCell wr ⟨A + 1, k, none⟩ (.int .i64 (-1)) A (by simp)))
        have HBN := hide (HBW.out.setCell (p := ⟨A + 1, k, none⟩) (Nat.le_succ A) (.int .i64 (-1)))
        clear hcl
        go_wp2
        go_roundw
        case rel => exact ⟨k + 1, S, _, D, by omega, by go_num, by omega, HSN.out, HMN.out, HTIE.out, HIN.out, HBN.out⟩
        case measure => simp [intOf]; omega
      · have d0 : (cl k == -1) = false := by simp [hcl]
        have HCL := hide hcl
        clear hcl m0 m1 f0 f1 p0 p1
        have HSZ := hide HTIE.out.size
        obtain ⟨hX, -, -⟩ := HXX.out wr HBW.out
        obtain ⟨p0, p1, -⟩ := d_cells hX
        obtain ⟨m0, m1⟩ := ik_cell HCK.out hlt
        clear hX
        go_wp2_with fail
        refine (deeds_any a0 a1 n c0 c1 C k nx ru cl wr HX.out HDM.out HCK.out hlt).mono ?_
        rintro e w2 ⟨rfl, hb2⟩
        have hft : Fit17 (ddF nx ru cl k) := ⟨dd_len _ _ _ _, dd_rng HX.out HR.out hlt⟩
        have hky := key58 hft
        obtain ⟨dd, hdd⟩ : ∃ dd, ddF nx ru cl k = dd := ⟨_, rfl⟩
        have HDD := hide hdd
        rw [hdd] at hft hky ⊢
        have hl17 : (cI dd).length = 17 := by rw [cI_len]; exact hft.1
        have hone : (cI dd).toArray.all (·.oneCell') = true := cI_one dd
        obtain ⟨cx, hcx⟩ : ∃ cx, cI dd = cx := ⟨_, rfl⟩
        rw [hcx] at hky hl17 hone ⊢
        have hsc : (storeCells ⟨w2.heap.size, 0, none⟩ cx 0).run Try.prog (w2.alloc (.cells (rowI 17 fun _ => 0) 58)) = .ok () (w2.alloc (.cells cx.toArray 58)) := by
          have := run_storeCells_new (P := Try.prog) w2 58 (rowI 17 fun _ => 0) cx.toArray (by rw [List.size_toArray, hl17]; exact HI.out) (by rw [rowI_size, List.size_toArray, hl17]) hone
          simpa using this
        have HKY := hide hky
        have HFT := hide hft
        have HBA := hide (HBW.out.trans ((hb2.alloc hb2.size (.cells cx.toArray 58)).mono (show A ≤ wr.heap.size by have := map_lt HMAP.out; omega)))
        have hwr := Below.block ((hb2.alloc hb2.size (.cells cx.toArray 58)))
        have HMA := hide (map_move HMAP.out (hwr A (map_lt HMAP.out)))
        have HIA := hide (show Ik (w2.alloc (.cells cx.toArray 58)) (A + 1) n F from (hwr (A + 1) (ik_lt HIK2.out)).trans HIK2.out)
        have HBB := hide (heap_alloc_last w2 (.cells cx.toArray 58))
        have HL17 := hide hl17
        have HSA := hide (show A ≤ w2.heap.size by have := map_lt HMAP.out; have := hb2.size; omega)
        clear hb2 hwr hft hky hdd hcx hone hl17 p0 p1 m0 m1
        by_cases hmem : dd ∈ S
        · have hhas : Maps.has D (kD Try.prog dd) = true := by rw [(HTIE.out.at_ dd HFT.out).1]; simp [hmem]
          have hat0 := (HTIE.out.at_ dd HFT.out).2 hmem
          have HSN := hide (sp_old HSP.out HCL.out (by rw [HDD.out]; exact hmem))
          rw [HDD.out] at HSN
          clear hmem
          generalize S.idxOf dd = ix at *
          go_upto_region 9 with fail
          generalize hW4 : w2.alloc (.cells cx.toArray 58) = W4 at *
          generalize hb9 : w2.heap.size = b9 at *
          obtain ⟨g0, g1⟩ := ik_cell HIA.out hlt
          have HIN := hide (ik_set HIA.out hlt (ix : Int))
          have HMN := hide (map_move HMA.out (Below.heap_setCell W4 ⟨A + 1, k, none⟩ (.int .i64 (ix : Int)) A (by simp)))
          have HBN := hide (HBA.out.setCell (p := ⟨A + 1, k, none⟩) (Nat.le_succ A) (.int .i64 (ix : Int)))
          go_wp2_with (first
            | refine wpList_load_row rfl 58 _ rfl b9 rfl 58 cx.toArray (0, 0) _ HBB.out Try.underlying58 rfl (by rw [List.size_toArray, HL17.out]; exact HI.out) ?_
            | (at_lookup; refine wpList_lookup_own_ok_int _ rfl _ _ 56 rfl 58 3 .i64 law58 Try.underlying56 Try.underlying3 (zero3 _) A S.length D rfl HMA.out _ _ rfl HKY.out ?_; intro c hat hwc; rw [hhas]; obtain rfl : c = (ix : Int) := by (rw [hat0] at hat; injection hat with h1; injection h1 with _ h2; exact h2.symm)))
          go_roundw
          case rel => exact ⟨k + 1, S, _, D, by omega, by go_num, by omega, HSN.out, HMN.out, HTIE.out, HIN.out, HBN.out⟩
          case measure => simp [intOf]; omega
        · have hhas : Maps.has D (kD Try.prog dd) = false := by rw [(HTIE.out.at_ dd HFT.out).1]; simp [hmem]
          have HSN := hide (sp_new HSP.out HCL.out (by rw [HDD.out]; exact hmem))
          rw [HDD.out] at HSN
          have HTN := hide (tieD_new HTIE.out HMA.out.isMap (HMA.out.tidy law58) HFT.out hmem)
          have HLA := hide (show (S ++ [dd]).length = S.length + 1 by simp)
          have hsl : S.length ≤ n := by omega
          clear hmem
          go_upto_region 9 with fail
          generalize hW4 : w2.alloc (.cells cx.toArray 58) = W4 at *
          generalize hb9 : w2.heap.size = b9 at *
          have hA4 : A ≤ W4.heap.size := Nat.le_of_lt (map_lt HMA.out)
          have hmA := HMA.out
          obtain ⟨ns, hns⟩ : ∃ ns, S.length = ns := ⟨_, rfl⟩
          have HNS := hide hns
          rw [hns] at hmA hsl
          clear hns
          go_wp2_with (first
            | refine wpList_load_row rfl 58 _ rfl b9 rfl 58 cx.toArray (0, 0) _ HBB.out Try.underlying58 rfl (by rw [List.size_toArray, HL17.out]; exact HI.out) ?_
            | (at_lookup; refine wpList_lookup_own_ok_int _ rfl _ _ 56 rfl 58 3 .i64 law58 Try.underlying56 Try.underlying3 (zero3 _) A ns D rfl hmA _ _ rfl HKY.out ?_; intro c hat hwc; rw [hhas])
            | (at_len; refine wpList_len_own _ rfl _ 56 rfl 58 3 Try.underlying56 _ A ns D rfl hmA ?_; rw [HSZ.out, HNS.out])
            | (at_mapUpdate; refine wpList_mapUpdate_own _ rfl _ _ _ 56 rfl 58 3 law58 Try.underlying56 _ A ns D rfl hmA (by unfold maxLen; omega) _ _ _ rfl rfl HKY.out _ [] (plainElem_int Try.underlying3 (WalkArith.wf_i64 (by omega))) ?_; intro w5 hown5 hg5; have HM5 := hide hown5; have HI5 := hide (show Ik w5 (A + 1) n F from (hg5.block (A + 1) (ik_lt HIA.out) (fun e => by have := Option.some.inj e; omega)).trans HIA.out); have HB5 := hide (HBA.out.grown hg5 hA4 (fun q hq => by cases hq; exact Nat.le_refl A)); obtain ⟨g0, g1⟩ := ik_cell HI5.out hlt; clear hown5 hg5 hmA))
          have HIN := hide (ik_set HI5.out hlt (ns : Int))
          have HMN := hide (map_move HM5.out (Below.heap_setCell w5 ⟨A + 1, k, none⟩ (.int .i64 (ns : Int)) A (by simp)))
          have HBN := hide (HB5.out.setCell (p := ⟨A + 1, k, none⟩) (Nat.le_succ A) (.int .i64 (ns : Int)))
          rw [HNS.out] at HSN HTN HLA
          go_roundw
          case rel => exact ⟨k + 1, S ++ [dd], _, _, by omega, by go_num, by rw [HLA.out]; have := HNS.out; omega, HSN.out, by rw [HLA.out]; exact HMN.out, HTN.out, HIN.out, HBN.out⟩
          case measure => simp [intOf]; omega
    · obtain rfl : k = n := by omega
      clear hX hDm hCk
      have HSZ := hide HTIE.out.size
      go_wp2_with ((at_len; refine wpList_len_own _ rfl _ 56 rfl 58 3 Try.underlying56 _ A S.length D rfl HMAP.out ?_; rw [HSZ.out]))
      go_ret2
      exact ⟨S, F, A + 1, HSP.out, rfl, HIK2.out, by omega, HB0.out.trans (HBW.out.mono (by omega))⟩
end Go.Proofs.Ythkollnlmnbidaa.A
