/- Parse, walked. -/
import Derived.Test.YtccaknabpnpjaaaDoorPk26
import Derived.Test.YtccaknabpnpjaaaDoorPk19
import Derived.Test.YtccaknabpnpjaaaDoorPk21
namespace Go.Proofs.YtccaknabpnpjaaaDoor.A
open Go.RowKit
set_option linter.unusedVariables false

theorem info44 : (Tryd.prog.info? 44).map (fun i => (i.zero, i.size, i.bytes)) = some (some (.agg #[.string { data := #[] }, .int .u8 0, .int .u16 0, .slice none 0 0, .bool false]), 5, 56) := by kernel_rfl
theorem one_newQ (w : World) (x : Rl) (y : Nd) (t : TypeId) : ∀ j u, (cellsP (x, y))[j]? = some u → (w.alloc (.cells #[.string x.nm, .int .u8 y.k, .int .u16 y.s, .slice y.a y.l y.c, .bool x.br] t)).cell? ((⟨w.heap.size, 0, none⟩ : Addr).add j) = some u := by
  intro j u hj
  match j with
  | 0 => simp [cellsP] at hj; subst hj; simp [Addr.add]
  | 1 => simp [cellsP] at hj; subst hj; simp [Addr.add]
  | 2 => simp [cellsP] at hj; subst hj; simp [Addr.add]
  | 3 => simp [cellsP] at hj; subst hj; simp [Addr.add]
  | 4 => simp [cellsP] at hj; subst hj; simp [Addr.add]
  | j + 5 => simp [cellsP] at hj

set_option maxRecDepth 100000 in
set_option maxHeartbeats 12800000 in
theorem parse_any (s : ByteArray) (m : Int) (w : World) (hs : s.size ≤ 2000) (hm : w.cell? ⟨0, 0, none⟩ = some (.int .i64 m)) :
    Calls Tryd.prog 13 #[.string s] w fun e w' => OutP w (parseF s) e w' := by
  obtain ⟨i0, hi0, hz0, hz1, hz2⟩ := info_parts info44
  have hs' : ¬ (2000 : Int) < (s.size : Int) := by omega
  obtain ⟨cn, hcn⟩ : ∃ cn, Lib.countB s nlB = cn := ⟨_, rfl⟩
  have HCN := hide hcn
  have HC1 := hide (show ∀ u : World, Calls Tryd.prog 16 #[.string s, .string { data := #[10] }] u fun e w' => e = .returned (.int .i64 (cn : Nat)) ∧ w' = u from fun u => by
    refine (Tryd.strings_Count_one s 10 u).mono ?_
    rintro e w1 ⟨rfl, rfl⟩
    rw [count_nl, hcn]
    exact ⟨rfl, rfl⟩)
  have HF := hide (show parseF s = if 16 ≤ cn then (none, 0, 1) else match readL [] 0 (linesB s) with
    | (none, n) => (none, n, 6)
    | (some l, _) => (some l, 0, 0) by rw [← hcn]; rfl)
  have HSP := hide (show Calls Tryd.prog 17 #[.string s, .string { data := #[10] }] w fun e w' => e = .returned (.slice (some ⟨w.heap.size, 0, none⟩) (cn + 1) (cn + 1)) ∧ w' = w.alloc (.cells ((linesB s).map Value.string).toArray 9) from by
    have := Tryd.strings_Split s nlB m w (by omega) hm (by decide)
    rw [hcn] at this
    have e : Lib.splitB nlB 0 cn s = linesB s := by rw [← hcn]; rfl
    rw [e] at this
    exact this)
  have HLL := hide (show (linesB s).length = cn + 1 by rw [← hcn]; exact lines_len s)
  have HLZ := hide (show ∀ x ∈ linesB s, x.size ≤ 2000 from fun x hx => Nat.le_trans (split_le nlB _ s x hx) hs)
  clear hcn hm
  by_cases h16 : 16 ≤ cn
  · have h16' : (16 : Int) ≤ (cn : Int) := by omega
    have HFE := hide (show parseF s = (none, 0, 1) by rw [HF.out, if_pos h16])
    clear HF h16
    go_enter Tryd.func13, Tryd.ntmps13
    go_wp2_with fail
    refine (HC1.out w).mono ?_
    rintro e w1 ⟨rfl, hw⟩
    subst hw
    go_wp2
    go_ret3
    rw [HFE.out]
    exact ⟨rfl, Below.refl _ _⟩
  · have h16' : ¬ (16 : Int) ≤ (cn : Int) := by omega
    obtain ⟨R, hR⟩ : ∃ R, readL [] 0 (linesB s) = R := ⟨_, rfl⟩
    have HRR := hide hR
    have HFE := hide (show parseF s = match R.1 with
      | none => (none, R.2, 6)
      | some l => (some l, 0, 0) by
      rw [HF.out, if_neg h16, hR]
      obtain ⟨o, n⟩ := R
      cases o <;> rfl)
    clear HF hR
    generalize linesB s = ls at *
    have hcn : cn < 16 := by omega
    clear h16
    go_enter Tryd.func13, Tryd.ntmps13
    go_wp2_with fail
    refine (HC1.out w).mono ?_
    rintro e w0 ⟨rfl, hw⟩
    subst hw
    go_wp2_with fail
    refine HSP.out.mono ?_
    rintro e w1 ⟨rfl, hw1⟩
    have HB1 := hide (show Below w0.heap.size w0 w1 by rw [hw1]; exact (Below.refl w0.heap.size w0).alloc (Nat.le_refl _) _)
    have HRW := hide (show w1.heap[w0.heap.size]? = some (.cells (ls.map Value.string).toArray 9 (0, 0)) by rw [hw1]; exact heap_alloc_last w0 _)
    have HZ1 := hide (show w1.heap.size = w0.heap.size + 1 by rw [hw1]; simp)
    clear hw1 HSP
    obtain ⟨z, hz⟩ : ∃ z, w0.heap.size = z := ⟨_, rfl⟩
    rw [hz] at HRW HZ1 HB1 ⊢
    have HQ := hide hz
    clear hz
    go_wp2_with fail
    go_loopw [5, 6, 7, 8, 9, 21] (fun out _ _ _ _ u wr => ∃ (i : Nat) (ps : List (Rl × Nd)), i ≤ cn + 1 ∧ u = .int .i64 i ∧ ps.length = i ∧ Mkr (z + 1) wr ps out ∧ readL (ps.map (·.1)) i (ls.drop i) = R ∧ Below (z + 1) w1 wr) (fun _ _ _ _ _ u _ => cn + 1 - (intOf u).toNat)
    case atStart => exact ⟨0, [], Nat.zero_le _, rfl, rfl, mkr_nil _ _, by simpa using HRR.out, Below.refl _ _⟩
    case round =>
      obtain ⟨i, ps, hi, rfl, hps, hmk, hrd, hb⟩ := hrel
      by_cases hlt : i < cn + 1
      · obtain ⟨L, hL⟩ : ∃ L, ls[i]? = some L := ⟨ls[i]'(by rw [HLL.out]; exact hlt), by simp⟩
        have hLs := HLZ.out L (List.mem_of_getElem? hL)
        have HRD := hide (show (match ruleF L with
          | none => (none, i + 1)
          | some x => if umayB (ps.map (·.1)) x = true then readL (ps.map (·.1) ++ [x]) (i + 1) (ls.drop (i + 1)) else (none, i + 1)) = R from by rw [← hrd, drop_at hL]; rfl)
        have hrow := (hb.block z (by omega)).trans HRW.out
        have c0 : wr.cell? ⟨z, i, none⟩ = some (.string L) := by
          rw [cell_of_row wr z i _ _ _ hrow]
          simp [hL]
        have i3 : (0 : Int) ≤ (i : Int) := by omega
        have i4 : (i : Int) < ((cn + 1 : Nat) : Int) := by omega
        have i5 : (i : Int) < (cn : Int) + 1 := by omega
        have HMK := hide hmk
        have HBW := hide hb
        have HPS := hide hps
        have HLS := hide hLs
        clear hrd hL hrow hmk hb hLs hps
        go_wp2_with fail
        refine (readRule_any L wr HLS.out).mono ?_
        intro e w2 hout
        cases hR : ruleF L with
        | none =>
          rw [hR] at hout HRD
          obtain ⟨rfl, hb2⟩ := hout
          have HRE := hide (show R = (none, i + 1) from HRD.out.symm)
          have HB2 := hide ((HBW.out.trans (hb2.mono (by have := HBW.out.size; have := HZ1.out; omega))))
          clear hR HRD hb2
          have HPF := hide (show parseF s = (none, i + 1, 6) by rw [HFE.out, HRE.out])
          have HB3 := hide (show Below w0.heap.size w0 (w2.alloc (.cells #[.string { data := #[] }, .int .u8 0, .int .u16 0, .slice none 0 0, .bool false] 44)) from by
            rw [HQ.out]
            exact (HB1.out.trans (HB2.out.mono (by omega))).alloc (by have := HB2.out.size; have := HZ1.out; omega) _)
          go_wp2
          go_ret3
          rw [HPF.out]
          exact ⟨rfl, HB3.out⟩
        | some x =>
          rw [hR] at hout HRD
          obtain ⟨y, S, rfl, hn, hT, hS, hb2⟩ := hout
          have hbA := hb2.alloc hb2.size (.cells #[.string x.nm, .int .u8 y.k, .int .u16 y.s, .slice y.a y.l y.c, .bool x.br] 44)
          have hwz : z + 1 ≤ wr.heap.size := by have := HBW.out.size; have := HZ1.out; omega
          have HMA := hide (mkr_kept HMK.out (keep_below (B := z + 1) hbA))
          have HTA := hide (tr_alloc hT (.cells #[.string x.nm, .int .u8 y.k, .int .u16 y.s, .slice y.a y.l y.c, .bool x.br] 44))
          have HSA := hide (st5_new w2 x.nm y.k y.s y.a y.l y.c x.br)
          have HBA := hide (HBW.out.trans (hbA.mono hwz))
          have HVB := hide (show ∀ b ∈ S, z + 1 ≤ b ∧ u5.ownBlock ≠ some b from fun b hb => by
            have h1 := hS b hb
            refine ⟨by omega, fun e => ?_⟩
            have := (HMK.out.1.lt b e).2
            omega)
          have HRD2 := hide (show (if umayB (ps.map (·.1)) x = true then readL (ps.map (·.1) ++ [x]) (i + 1) (ls.drop (i + 1)) else (none, i + 1)) = R from HRD.out)
          have HNM := hide hn
          obtain ⟨a, cap, hv, hc1, hc2, hrs⟩ := mkr_rs HMA.out
          have HRS := hide hrs
          have HRU := hide (show Ru (w2.alloc (.cells #[.string x.nm, .int .u8 y.k, .int .u16 y.s, .slice y.a y.l y.c, .bool x.br] 44)) x (.agg #[.string x.nm, .int .u8 y.k, .int .u16 y.s, .slice y.a y.l y.c, .bool x.br]) from ⟨y.k, y.s, y.a, y.l, y.c, rfl, by unfold maxLen; omega, tr_rx _ _ _ _ HTA.out⟩)
          rw [HPS.out] at hv hc1 HRS
          have HSZ := hide (show z + 1 ≤ w2.heap.size by have := hb2.size; omega)
          clear hR HRD hb2 hbA hT hS hn hrs HMK HBW c0
          subst hv
          go_wp2_with fail
          generalize w2.alloc (.cells #[.string x.nm, .int .u8 y.k, .int .u16 y.s, .slice y.a y.l y.c, .bool x.br] 44) = V at *
          generalize w2.heap.size = p at *
          refine (may_any a i cap (ps.map (·.1)) x _ V (by omega) HRS.out HRU.out).mono ?_
          rintro e w3 ⟨rfl, hb3⟩
          have hpV : p < V.heap.size := st5_lt HSA.out
          have HB3 := hide (HBA.out.trans (hb3.mono (by have := HSZ.out; omega)))
          cases hmay : umayB (ps.map (·.1)) x with
          | false =>
            rw [hmay] at HRD2
            have HRE := hide (show R = (none, i + 1) from HRD2.out.symm)
            have HPF := hide (show parseF s = (none, i + 1, 6) by rw [HFE.out, HRE.out])
            have HB4 := hide (show Below w0.heap.size w0 w3 from by
              rw [HQ.out]
              exact HB1.out.trans (HB3.out.mono (by omega)))
            clear hmay HRD2 hb3
            go_wp2
            go_ret3
            rw [HPF.out]
            exact ⟨rfl, HB4.out⟩
          | true =>
            rw [hmay] at HRD2
            have HRD3 := hide (show readL (ps.map (·.1) ++ [x]) (i + 1) (ls.drop (i + 1)) = R from HRD2.out)
            have hM3 := mkr_kept HMA.out (keep_below (B := z + 1) hb3)
            have hM4 := mkr_kept hM3 (keep_below (B := z + 1) ((Below.refl w3.heap.size w3).alloc (Nat.le_refl _) (.cells #[.string x.nm, .int .u8 y.k, .int .u16 y.s, .slice y.a y.l y.c, .bool x.br] 44)))
            have HT4 := hide (tr_alloc (tr_below HTA.out hb3) (.cells #[.string x.nm, .int .u8 y.k, .int .u16 y.s, .slice y.a y.l y.c, .bool x.br] 44))
            obtain ⟨q0, q1, q2, q3, q4, -⟩ := st5_cells (st5_below HSA.out hb3 hpV)
            have HOW := hide (show (w3.alloc (.cells #[.string x.nm, .int .u8 y.k, .int .u16 y.s, .slice y.a y.l y.c, .bool x.br] 44)).ownsRow (z + 1) 44 5 (.slice a i cap) i (cellsQ ps) from by
              have ho := hM4.1
              rw [HPS.out] at ho
              exact ho)
            have HM4 := hide hM4
            have HNW := hide (one_newQ w3 x y 44)
            have HBW := hide (show z + 1 ≤ (w3.alloc (.cells #[.string x.nm, .int .u8 y.k, .int .u16 y.s, .slice y.a y.l y.c, .bool x.br] 44)).heap.size by have := hb3.size; have := HSZ.out; simp; omega)
            have HZ4 := hide (show (w3.alloc (.cells #[.string x.nm, .int .u8 y.k, .int .u16 y.s, .slice y.a y.l y.c, .bool x.br] 44)).heap.size = w3.heap.size + 1 by simp)
            have HB4 := hide (HB3.out.alloc (by have := hb3.size; have := HSZ.out; omega) (.cells #[.string x.nm, .int .u8 y.k, .int .u16 y.s, .slice y.a y.l y.c, .bool x.br] 44))
            clear hmay HRD2 hM3 hM4 hb3 HMA HTA HSA HBA HRS HRU
            go_wp2_with (at_builtin; refine wpList_append_lies _ rfl _ _ 33 rfl (z + 1) 44 i0 (.agg #[.string { data := #[] }, .int .u8 0, .int .u16 0, .slice none 0 0, .bool false]) 5 56 Tryd.underlying33 hi0 hz0 hz1 hz2 rfl (by omega) (.slice a i cap) i (cellsQ ps) rfl HOW.out ⟨w3.heap.size, 0, none⟩ 1 1 (cellsP (x, y)) rfl rfl HNW.out (cellsP_one' (x, y)) (by omega) (by unfold maxLen; omega) (by omega) HBW.out (w3.heap.size + 1) (by simp) ?_)
            intro g cap' w4 hown4 hgrow4 hat4 hlt4
            have HM5 := hide (mkr_app (x := x) (y := y) (S := S) (g := g) (cap := cap') HM4.out HNM.out HT4.out HVB.out (by rw [HPS.out]; exact hown4) hgrow4 (by rw [HZ4.out]; exact hat4))
            have HB5 := hide (HB4.out.grown hgrow4 HBW.out (fun k hk => (HM4.out.1.lt k hk).1))
            rw [HPS.out] at HM5
            clear hown4 hgrow4 hat4 hlt4 HOW HNW HBW HZ4 HB4 HM4 HT4 q0 q1 q2 q3 q4
            go_wp2
            go_roundw
            case rel => exact ⟨i + 1, ps ++ [(x, y)], by omega, by go_num, by have := HPS.out; simp; omega, HM5.out, by simpa using HRD3.out, HB5.out⟩
            case measure => simp [intOf]; omega
      · have e : i = cn + 1 := by omega
        subst e
        have hd : ls.drop (cn + 1) = [] := List.drop_of_length_le (by rw [HLL.out]; exact Nat.le_refl _)
        rw [hd] at hrd
        have HRE := hide (show R = (some (ps.map (·.1)), 0) from hrd.symm)
        obtain ⟨a, cap, rfl, hc1, hc2, hrs⟩ := mkr_rs hmk
        have HPF := hide (show parseF s = (some (ps.map (·.1)), 0, 0) by rw [HFE.out, HRE.out])
        have HB4 := hide (show Below w0.heap.size w0 wr from by
          rw [HQ.out]
          exact HB1.out.trans (hb.mono (by omega)))
        have HRS := hide hrs
        have hcc : cap ≤ maxLen := hc2
        clear hrd hd hmk hb hrs
        go_wp2
        go_ret3
        rw [HPF.out]
        exact ⟨a, ps.length, cap, rfl, hc1, hcc, HRS.out, HB4.out⟩
end Go.Proofs.YtccaknabpnpjaaaDoor.A

/- The machine of one small grammar, as it is told of a text. -/
namespace Go.Proofs.YtccaknabpnpjaaaDoor.A
open Go.RowKit
set_option linter.unusedVariables false

def tx7 : ByteArray := { data := #[97, 58, 32, 67, 40, 72, 67, 41, 42] }
def fs7 : List (List Int) := [[1], [2], [], [4], [5, 11], [6], [], [8], [], [10], [5, 11], [12], []]
def ss7 : List Nat := [0, 0, 2, 0, 0, 0, 16, 0, 2, 0, 0, 0, 0]
def ts7 : List Int := [0, 0, 3, 0, 0, 0, 7, 0, 9, 0, 0, 0, 0]
def rs7 : List Int := [-1, -1, -1, -1, -1, -1, -1, -1, -1, -1, -1, -1, 0]
def good7 : Bool := match parseF tx7 with
  | (some [x0], 0, 0) => mayB [x0.t] && decide (posE 1 [x0.t] 1 = 13) && decide (en ((1 : Nat), x0.t) = 12) && decide ((List.range 13).map (layA [x0.t] 1 mc0).fr = fs7) && decide ((List.range 13).map (layA [x0.t] 1 mc0).st = ss7) && decide ((List.range 13).map (layA [x0.t] 1 mc0).to = ts7)
  | _ => false
set_option maxRecDepth 1000000 in
theorem good7_ok : good7 = true := by decide +kernel
theorem tx7_rule : ∃ x0, parseF tx7 = (some [x0], 0, 0) ∧ mayB [x0.t] = true ∧ posE 1 [x0.t] 1 = 13 ∧ en ((1 : Nat), x0.t) = 12 ∧ (List.range 13).map (layA [x0.t] 1 mc0).fr = fs7 ∧ (List.range 13).map (layA [x0.t] 1 mc0).st = ss7 ∧ (List.range 13).map (layA [x0.t] 1 mc0).to = ts7 := by
  have h := good7_ok
  unfold good7 at h
  split at h
  · rename_i x0 heq
    simp only [Bool.and_eq_true, decide_eq_true_eq] at h
    exact ⟨x0, heq, h.1.1.1.1.1, h.1.1.1.1.2, h.1.1.1.2, h.1.1.2, h.1.2, h.2⟩
  · cases h
theorem rs7_is {n : Nat} {x : Ex n} (h : en ((1 : Nat), x) = 12) : RsI [x] 1 rs7 := fun i r hr => by
  have hi : i < 13 := (List.getElem?_eq_some_iff.1 hr).1
  by_cases e : i = 12
  · subst e
    left
    refine ⟨0, (1, x), by omega, rfl, h.symm, ?_⟩
    have : (0 : Int) = r := by simpa [rs7] using hr
    rw [← this]; rfl
  · right
    refine ⟨fun m p hm hp => ?_, ?_⟩
    · obtain rfl : m = 0 := by omega
      have : ((1 : Nat), x) = p := by simpa [layE] using hp
      rw [← this, h]; exact e
    · have key : ∀ i : Nat, i < 13 → i ≠ 12 → rs7[i]? = some (-1) := by decide
      rw [key i hi e] at hr
      exact (Option.some.inj hr).symm

def A7 : Nat → List Nat
  | 0 => [0, 1, 2]
  | 1 => [3, 4, 5, 6, 11, 12]
  | 2 => [7, 8]
  | _ => [5, 6, 9, 10, 11, 12]
def L7 (i : Nat) : List Int := lstL (fun j => (A7 i).contains j) 13
def ordT (i c : Nat) : List Nat := if c = 1 then (if i = 0 then [3, 4, 5, 11, 6, 12] else if i = 2 then [9, 10, 5, 11, 6, 12] else []) else if c = 4 then (if i = 1 ∨ i = 3 then [7, 8] else []) else []
theorem chk7 : ∀ i : Nat, i < 4 → ∀ c : Nat, c < 16 → chkB fs7 13 (stpB ss7 ts7 (c : Int) (fun j => (A7 i).contains j) 13) (ordT i c) = true := by decide +kernel
theorem chk0 : chkB fs7 13 (tblB [0] 1) [0, 1, 2] = true := by decide +kernel
def trT (s : List Int) (c : Nat) : List Int :=
  if s = L7 0 then lstL (fun j => (ordT 0 c).contains j) 13 else if s = L7 1 then lstL (fun j => (ordT 1 c).contains j) 13 else if s = L7 2 then lstL (fun j => (ordT 2 c).contains j) 13 else lstL (fun j => (ordT 3 c).contains j) 13
theorem tr7 {tr : List Int → Nat → List Int} (h : TrS fs7 ss7 ts7 13 tr) (i : Nat) (hi : i < 4) (c : Nat) (hc : c < 16) : tr (L7 i) c = lstL (fun j => (ordT i c).contains j) 13 := by
  obtain ⟨g, h1, h2⟩ := h (fun j => (A7 i).contains j) c hc
  show tr (lstL _ 13) c = _
  rw [h2]
  exact lst_congr (isCl_one h1 (chk_is (chk7 i hi c hc)))
theorem trT_at : ∀ i : Nat, i < 4 → ∀ c : Nat, c < 16 → trT (L7 i) c = lstL (fun j => (ordT i c).contains j) 13 := by decide +kernel
theorem trT_in : ∀ i : Nat, i < 4 → ∀ c : Nat, c < 16 → trT (L7 i) c = [] ∨ trT (L7 i) c = L7 0 ∨ trT (L7 i) c = L7 1 ∨ trT (L7 i) c = L7 2 ∨ trT (L7 i) c = L7 3 := by decide +kernel
def nx7 : List (List Int) := [[-1, 1, -1, -1, -1, -1, -1, -1, -1, -1, -1, -1, -1, -1, -1, -1], [-1, -1, -1, -1, 2, -1, -1, -1, -1, -1, -1, -1, -1, -1, -1, -1], [-1, 3, -1, -1, -1, -1, -1, -1, -1, -1, -1, -1, -1, -1, -1, -1], [-1, -1, -1, -1, 2, -1, -1, -1, -1, -1, -1, -1, -1, -1, -1, -1]]
def ru7 : List Int := [-1, 0, -1, 0]
theorem stT : (stF trT (lstR rs7) (L7 0) 4) = ([L7 0, L7 1, L7 2, L7 3], nx7, ru7) := by decide +kernel
theorem st7 {tr : List Int → Nat → List Int} (h : TrS fs7 ss7 ts7 13 tr) : stF tr (lstR rs7) (L7 0) 201 = ([L7 0, L7 1, L7 2, L7 3], nx7, ru7) := by
  have e := stF_congr (tr := tr) (tr' := trT) (ls := lstR rs7) (ls' := lstR rs7) (start := L7 0) (fun s => ∃ i, i < 4 ∧ s = L7 i) ⟨0, by omega, rfl⟩ (fun s ⟨i, hi, e⟩ c hc => by
    subst e
    refine ⟨by rw [tr7 h i hi c hc, trT_at i hi c hc], fun hne => ?_⟩
    rcases trT_in i hi c hc with q | q | q | q | q
    · exact absurd q hne
    · exact ⟨0, by omega, q⟩
    · exact ⟨1, by omega, q⟩
    · exact ⟨2, by omega, q⟩
    · exact ⟨3, by omega, q⟩) (fun _ _ => rfl)
  rw [st_end (k := 4) (by rw [e 4, stT]; rfl) (by omega), e 4, stT]
theorem outD_small {w : World} {σ : List (List Int) × List (List Int) × List Int} {e : Ending} {w' : World} (hs : σ.1.length ≤ 200) : OutD w σ e w' → ∃ a0 a1 c0 c1, e = .returned (.tuple #[.agg #[.slice a0 σ.2.1.length c0, .slice a1 σ.2.2.length c1], .int .i64 0]) ∧ Dr w' a0 σ.2.1 ∧ Wd w' a1 σ.2.2 ∧ Below w.heap.size w w' := by
  unfold OutD
  rw [if_neg (by omega)]
  exact id
theorem out7 {tr : List Int → Nat → List Int} (h : TrS fs7 ss7 ts7 13 tr) {w : World} {e : Ending} {w' : World} : OutD w (stF tr (lstR rs7) (lstL (fun j => [0, 1, 2].contains j) 13) 201) e w' → ∃ a0 a1 c0 c1, e = .returned (.tuple #[.agg #[.slice a0 4 c0, .slice a1 4 c1], .int .i64 0]) ∧ Dm w' a0 a1 4 4 nx7 ru7 ∧ Below w.heap.size w w' := by
  rw [show lstL (fun j => [0, 1, 2].contains j) 13 = L7 0 from rfl, st7 h]
  refine fun h => ?_
  obtain ⟨a0, a1, c0, c1, h1, h2, h3, h4⟩ := outD_small (by decide) h
  exact ⟨a0, a1, c0, c1, h1, ⟨rfl, rfl, h2, h3, by decide, by decide⟩, h4⟩
theorem long7 : longR nx7 ru7 [1, 4, 1, 4] 0 = (3, 0) := by decide +kernel
theorem right7 : rightD nx7 ru7 = true := by decide +kernel
theorem mat7 : matR nx7 ru7 [1, 4, 1] = 0 := by decide +kernel
theorem run7 : runR nx7 ru7 [4] = -1 := by decide +kernel
theorem four_wd (w : World) (x y z u : Int) : Wd (w.alloc (.cells #[.int .i64 x, .int .i64 y, .int .i64 z, .int .i64 u] 3)) (some ⟨w.heap.size, 0, none⟩) [x, y, z, u] := fun i c hc => by
  refine ⟨_, 0, rfl, ?_⟩
  rw [Nat.zero_add, cell_of_row _ _ i _ _ _ (heap_alloc_last w _)]
  match i with
  | 0 | 1 | 2 | 3 => simp at hc; subst hc; rfl
  | i + 4 => simp at hc
theorem three_wd (w : World) (x y z : Int) : Wd (w.alloc (.cells #[.int .i64 x, .int .i64 y, .int .i64 z] 3)) (some ⟨w.heap.size, 0, none⟩) [x, y, z] := fun i c hc => by
  refine ⟨_, 0, rfl, ?_⟩
  rw [Nat.zero_add, cell_of_row _ _ i _ _ _ (heap_alloc_last w _)]
  match i with
  | 0 | 1 | 2 => simp at hc; subst hc; rfl
  | i + 3 => simp at hc
theorem one_kids7 (w : World) {n : Nat} {x : Ex n} {k s l c : Nat} {a : Option Addr} (h : Rx w n x (.agg #[.int .u8 k, .int .u16 s, .slice a l c])) : Kids (w.alloc (.cells #[.int .u8 k, .int .u16 s, .slice a l c] 42)) n (some ⟨w.heap.size, 0, none⟩) 1 [x] := exs_kids (fun i y hy => by
  match i with
  | 0 =>
    have e : x = y := by simpa using hy
    subst e
    exact ⟨_, _, _, _, _, rfl, by simp, by simp, by simp, rx_below ((Below.refl _ _).alloc (Nat.le_refl _) _) _ _ _ h⟩
  | i + 1 => simp at hy) rfl

theorem long7_any (b0 b1 a : Option Addr) (d0 d1 : Nat) (w : World) (h : Dm w b0 b1 4 4 nx7 ru7) (hW : Wd w a [1, 4, 1, 4]) : Calls Tryd.prog 6 #[.agg #[.slice b0 4 d0, .slice b1 4 d1], .slice a 4 4, .int .i64 0] w fun e w' => e = .returned (.tuple #[.int .i64 3, .int .i64 0]) ∧ Below w.heap.size w w' := by
  have := dlong_any b0 b1 4 4 d0 d1 nx7 ru7 a 4 4 [1, 4, 1, 4] 0 w h rfl (by omega) (by decide) hW
  rw [long7] at this
  exact this
theorem right7_any (b0 b1 : Option Addr) (d0 d1 : Nat) (w : World) (h : Dm w b0 b1 4 4 nx7 ru7) : Calls Tryd.prog 8 #[.agg #[.slice b0 4 d0, .slice b1 4 d1]] w fun e w' => e = .returned (.bool true) ∧ Below w.heap.size w w' := by
  have := dright_any b0 b1 4 4 d0 d1 nx7 ru7 w rfl rfl h.dr h.wd (by decide) (by decide)
  rw [right7] at this
  exact this
theorem mat7_any (b0 b1 a : Option Addr) (d0 d1 : Nat) (w : World) (h : Dm w b0 b1 4 4 nx7 ru7) (hW : Wd w a [1, 4, 1]) : Calls Tryd.prog 10 #[.agg #[.slice b0 4 d0, .slice b1 4 d1], .slice a 3 3] w fun e w' => e = .returned (.int .i64 0) ∧ Below w.heap.size w w' := by
  have := dmatch_any b0 b1 4 4 d0 d1 nx7 ru7 a 3 3 [1, 4, 1] w h rfl (by decide) hW
  rw [mat7] at this
  exact this
theorem run7_any (b0 b1 a : Option Addr) (d0 d1 : Nat) (w : World) (h : Dm w b0 b1 4 4 nx7 ru7) (hW : Wd w a [4]) : Calls Tryd.prog 9 #[.agg #[.slice b0 4 d0, .slice b1 4 d1], .slice a 1 1] w fun e w' => e = .returned (.int .i64 (-1)) ∧ Below w.heap.size w w' := by
  have := drun_any b0 b1 4 4 d0 d1 nx7 ru7 a 1 1 [4] w h rfl (by decide) hW
  rw [run7] at this
  exact this
end Go.Proofs.YtccaknabpnpjaaaDoor.A

/- What every right program answers: its walk. -/
namespace Go.Proofs.YtccaknabpnpjaaaDoor.A
open Go.RowKit
set_option linter.unusedVariables false

set_option maxRecDepth 100000 in
set_option maxHeartbeats 3200000 in
theorem alive7_any (m : Int) (w : World) (hm : w.cell? ⟨0, 0, none⟩ = some (.int .i64 m)) (ht : Tab w.heap.size w) : Calls Tryd.prog 5 #[] w fun e w' => e = .returned (.bool true) ∧ Below w.heap.size w w' := by
  obtain ⟨x0, hp, hmay, hpos, hen, h1, h2, h3⟩ := tx7_rule
  have HP := hide (show Calls Tryd.prog 13 #[.string { data := #[97, 58, 32, 67, 40, 72, 67, 41, 42] }] w fun e w' => ∃ a cap, e = .returned (.tuple #[.slice a 1 cap, .int .i64 0, .int .i64 0]) ∧ 1 ≤ cap ∧ cap ≤ maxLen ∧ Rs w' a 1 [x0] ∧ Below w.heap.size w w' from by
    refine (parse_any tx7 m w (by decide) hm).mono ?_
    intro e w' hout
    rw [hp] at hout
    obtain ⟨a, len, cap, rfl, h1, h2, h3, h4⟩ := hout
    have e : len = 1 := h3.1.symm
    subst e
    exact ⟨a, cap, rfl, h1, h2, h3, h4⟩)
  have HMAY := hide hmay
  have HPOS := hide hpos
  have HEN := hide hen
  have HLS := hide (And.intro h1 (And.intro h2 h3))
  have HT := hide ht
  clear hp hmay hpos hen h1 h2 h3 hm ht
  go_enter Tryd.func5, Tryd.ntmps5
  go_wp2_with fail
  refine HP.out.mono ?_
  rintro e w1 ⟨a, cap, rfl, hc1, hc2, hrs, hb1⟩
  obtain ⟨y0, b, off, k, s, a', l', c, rfl, hy0, p0, p1, p2, p3, p4, p5, p6⟩ := rs_open hrs (i := 0) (by omega)
  have e0 : x0 = y0 := by simpa using hy0
  subst e0
  simp only [Nat.zero_mul, Nat.add_zero] at p1 p2 p3
  have hkd := one_kids7 w1 p6
  obtain ⟨-, -, hful, hsh⟩ := may_open HMAY.out hkd rfl
  have HKD := hide hkd
  have HIS := hide (show Is (FrA [x0.t]) (SpA [x0.t]) 13 fs7 ss7 ts7 from by
    have := lists_is (fun x hx => ⟨hful x hx, hsh x hx⟩) 13
    rw [HLS.out.1, HLS.out.2.1, HLS.out.2.2] at this
    exact this)
  have HB1 := hide (hb1.alloc hb1.size (.cells #[.int .u8 k, .int .u16 s, .slice a' l' c] 42))
  have HT1 := hide (tab_up (tab_on HT.out HB1.out) HB1.out.size)
  obtain ⟨tr, htr⟩ := tr_is fs7 ss7 ts7 13
  have HTR := hide htr
  clear hrs hb1 hy0 p0 p4 p5 p6 hkd hful hsh HP htr HT
  go_wp2_with fail
  clear p1 p2 p3
  generalize w1.alloc (.cells #[.int .u8 k, .int .u16 s, .slice a' l' c] 42) = W1 at *
  generalize w1.heap.size = z1 at *
  refine ((dbuild_yes7 _ _ 1 1 [x0.t] W1 (by decide) rfl HKD.out HMAY.out fs7 ss7 ts7 rs7 13 tr (fun j => [0, 1, 2].contains j) HIS.out (rs7_is HEN.out) rfl HPOS.out.symm HTR.out (chk_is chk0) HT1.out).mono (fun _ _ => out7 HTR.out)).mono ?_
  rintro e w2 ⟨b0, b1, d0, d1, rfl, hdm, hb2⟩
  have HD2 := hide hdm
  have HB2 := hide (HB1.out.trans (hb2.mono HB1.out.size))
  clear hdm hb2
  have hbx := heap_alloc_last w2 (.cells #[.slice b0 4 d0, .slice b1 4 d1] 25)
  have HBX := hide hbx
  have HDA := hide (dm_below' ((Below.refl w2.heap.size w2).alloc (Nat.le_refl _) (.cells #[.slice b0 4 d0, .slice b1 4 d1] 25)) HD2.out)
  have HBA := hide (HB2.out.alloc HB2.out.size (.cells #[.slice b0 4 d0, .slice b1 4 d1] 25))
  clear hbx
  have hs2 : (w2.alloc (.cells #[.slice b0 4 d0, .slice b1 4 d1] 25)).heap.size = w2.heap.size + 1 := by simp
  have HS2 := hide hs2
  clear hs2
  go_wp2_with fail
  generalize w2.alloc (.cells #[.slice b0 4 d0, .slice b1 4 d1] 25) = W2 at *
  generalize w2.heap.size = z2 at *
  have hw4 := four_wd W2 1 4 1 4
  rw [HS2.out] at hw4
  have HW4 := hide hw4
  clear hw4
  have hbA := (Below.refl W2.heap.size W2).alloc (Nat.le_refl _) (.cells #[.int .i64 1, .int .i64 4, .int .i64 1, .int .i64 4] 3)
  refine (long7_any b0 b1 _ d0 d1 _ (dm_below' hbA HDA.out) HW4.out).mono ?_
  rintro e w3 ⟨rfl, hb3⟩
  have h3 := (hbA.trans (hb3.mono hbA.size))
  have HD3 := hide (dm_below' h3 HDA.out)
  have hx3 := (h3.block z2 (Array.getElem?_eq_some_iff.1 HBX.out).1).trans HBX.out
  have HB3 := hide (HBA.out.trans (h3.mono HBA.out.size))
  have HX3 := hide hx3
  obtain ⟨p0, p1, -⟩ := d_cells hx3
  clear hbA hb3 h3 hx3 HW4
  go_wp2_with fail
  refine (right7_any b0 b1 d0 d1 w3 HD3.out).mono ?_
  rintro e w4 ⟨rfl, hb4⟩
  have HD4 := hide (dm_below' hb4 HD3.out)
  have hx4 := (hb4.block z2 (Array.getElem?_eq_some_iff.1 HX3.out).1).trans HX3.out
  have HB4 := hide (HB3.out.trans (hb4.mono HB3.out.size))
  have HX4 := hide hx4
  clear p0 p1 hb4 hx4
  obtain ⟨p0, p1, -⟩ := d_cells HX4.out
  go_wp2_with fail
  have HW3 := hide (three_wd w4 1 4 1)
  have hbA := (Below.refl w4.heap.size w4).alloc (Nat.le_refl _) (.cells #[.int .i64 1, .int .i64 4, .int .i64 1] 3)
  refine (mat7_any b0 b1 _ d0 d1 _ (dm_below' hbA HD4.out) HW3.out).mono ?_
  rintro e w5 ⟨rfl, hb5⟩
  have h5 := (hbA.trans (hb5.mono hbA.size))
  have HD5 := hide (dm_below' h5 HD4.out)
  have hx5 := (h5.block z2 (Array.getElem?_eq_some_iff.1 HX4.out).1).trans HX4.out
  have HB5 := hide (HB4.out.trans (h5.mono HB4.out.size))
  clear p0 p1
  obtain ⟨p0, p1, -⟩ := d_cells hx5
  clear hbA hb5 h5 hx5 HW3
  go_wp2_with fail
  have HW1 := hide (wd_one w5 4)
  have hbA := (Below.refl w5.heap.size w5).alloc (Nat.le_refl _) (.cells #[.int .i64 4] 3)
  refine (run7_any b0 b1 _ d0 d1 _ (dm_below' hbA HD5.out) HW1.out).mono ?_
  rintro e w6 ⟨rfl, hb6⟩
  have HB6 := hide (HB5.out.trans ((hbA.trans (hb6.mono hbA.size)).mono HB5.out.size))
  clear p0 p1 hbA hb6 HW1
  go_wp2
  go_ret
  exact ⟨rfl, HB6.out⟩
end Go.Proofs.YtccaknabpnpjaaaDoor.A
