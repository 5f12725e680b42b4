/- Parse, walked. -/
import Derived.Test.YtgjjmcgmdlfdaaaDoorTe
namespace Go.Proofs.YtgjjmcgmdlfdaaaDoor.A
open Go.RowKit
set_option linter.unusedVariables false

theorem info42 : (Tryd.prog.info? 42).map (fun i => (i.zero, i.size, i.bytes)) = some (some (.agg #[.string { data := #[] }, .int .u8 0, .int .u16 0, .slice none 0 0, .bool false]), 5, 56) := by kernel_rfl
theorem one_newQ (w : World) (x : Rl) (y : Nd) (t : TypeId) : ∀ j u, (cellsP (x, y))[j]? = some u → (w.alloc (.cells #[.string x.nm, .int .u8 y.k, .int .u16 y.s, .slice y.a y.l y.c, .bool x.br] t)).cell? ((⟨w.heap.size, 0, none⟩ : Addr).add j) = some u := by
  intro j u hj
  match j with
  | 0 => simp [cellsP] at hj; subst hj; simp [Addr.add]
  | 1 => simp [cellsP] at hj; subst hj; simp [Addr.add]
  | 2 => simp [cellsP] at hj; subst hj; simp [Addr.add]
  | 3 => simp [cellsP] at hj; subst hj; simp [Addr.add]
  | 4 => simp [cellsP] at hj; subst hj; simp [Addr.add]
  | j + 5 => simp [cellsP] at hj

set_option maxRecDepth 100000 in
set_option maxHeartbeats 12800000 in
theorem parse_any (s : ByteArray) (m : Int) (w : World) (hs : s.size ≤ 2000) (hm : w.cell? ⟨0, 0, none⟩ = some (.int .i64 m)) :
    Calls Tryd.prog 17 #[.string s] w fun e w' => OutP w (parseF s) e w' := by
  obtain ⟨i0, hi0, hz0, hz1, hz2⟩ := info_parts info42
  have hs' : ¬ (2000 : Int) < (s.size : Int) := by omega
  obtain ⟨cn, hcn⟩ : ∃ cn, Lib.countB s nlB = cn := ⟨_, rfl⟩
  have HCN := hide hcn
  have HC1 := hide (show ∀ u : World, Calls Tryd.prog 24 #[.string s, .string { data := #[10] }] u fun e w' => e = .returned (.int .i64 (cn : Nat)) ∧ w' = u from fun u => by
    refine (Tryd.strings_Count_one s 10 u).mono ?_
    rintro e w1 ⟨rfl, rfl⟩
    rw [count_nl, hcn]
    exact ⟨rfl, rfl⟩)
  have HF := hide (show parseF s = if 16 ≤ cn then (none, 0, 1) else match readL [] 0 (linesB s) with
    | (none, n) => (none, n, 6)
    | (some l, _) => (some l, 0, 0) by rw [← hcn]; rfl)
  have HSP := hide (show Calls Tryd.prog 25 #[.string s, .string { data := #[10] }] w fun e w' => e = .returned (.slice (some ⟨w.heap.size, 0, none⟩) (cn + 1) (cn + 1)) ∧ w' = w.alloc (.cells ((linesB s).map Value.string).toArray 9) from by
    have := Tryd.strings_Split s nlB m w (by omega) hm (by decide)
    rw [hcn] at this
    have e : Lib.splitB nlB 0 cn s = linesB s := by rw [← hcn]; rfl
    rw [e] at this
    exact this)
  have HLL := hide (show (linesB s).length = cn + 1 by rw [← hcn]; exact lines_len s)
  have HLZ := hide (show ∀ x ∈ linesB s, x.size ≤ 2000 from fun x hx => Nat.le_trans (split_le nlB _ s x hx) hs)
  clear hcn hm
  by_cases h16 : 16 ≤ cn
  · have h16' : (16 : Int) ≤ (cn : Int) := by omega
    have HFE := hide (show parseF s = (none, 0, 1) by rw [HF.out, if_pos h16])
    clear HF h16
    go_enter Tryd.func17, Tryd.ntmps17
    go_wp2_with fail
    refine (HC1.out w).mono ?_
    rintro e w1 ⟨rfl, hw⟩
    subst hw
    go_wp2
    go_ret3
    rw [HFE.out]
    exact ⟨rfl, Below.refl _ _⟩
  · have h16' : ¬ (16 : Int) ≤ (cn : Int) := by omega
    obtain ⟨R, hR⟩ : ∃ R, readL [] 0 (linesB s) = R := ⟨_, rfl⟩
    have HRR := hide hR
    have HFE := hide (show parseF s = match R.1 with
      | none => (none, R.2, 6)
      | some l => (some l, 0, 0) by
      rw [HF.out, if_neg h16, hR]
      obtain ⟨o, n⟩ := R
      cases o <;> rfl)
    clear HF hR
    generalize linesB s = ls at *
    have hcn : cn < 16 := by omega
    clear h16
    go_enter Tryd.func17, Tryd.ntmps17
    go_wp2_with fail
    refine (HC1.out w).mono ?_
    rintro e w0 ⟨rfl, hw⟩
    subst hw
    go_wp2_with fail
    refine HSP.out.mono ?_
    rintro e w1 ⟨rfl, hw1⟩
    have HB1 := hide (show Below w0.heap.size w0 w1 by rw [hw1]; exact (Below.refl w0.heap.size w0).alloc (Nat.le_refl _) _)
    have HRW := hide (show w1.heap[w0.heap.size]? = some (.cells (ls.map Value.string).toArray 9 (0, 0)) by rw [hw1]; exact heap_alloc_last w0 _)
    have HZ1 := hide (show w1.heap.size = w0.heap.size + 1 by rw [hw1]; simp)
    clear hw1 HSP
    obtain ⟨z, hz⟩ : ∃ z, w0.heap.size = z := ⟨_, rfl⟩
    rw [hz] at HRW HZ1 HB1 ⊢
    have HQ := hide hz
    clear hz
    go_wp2_with fail
    go_loopw [5, 6, 7, 8, 9, 21] (fun out _ _ _ _ u wr => ∃ (i : Nat) (ps : List (Rl × Nd)), i ≤ cn + 1 ∧ u = .int .i64 i ∧ ps.length = i ∧ Mkr (z + 1) wr ps out ∧ readL (ps.map (·.1)) i (ls.drop i) = R ∧ Below (z + 1) w1 wr) (fun _ _ _ _ _ u _ => cn + 1 - (intOf u).toNat)
    case atStart => exact ⟨0, [], Nat.zero_le _, rfl, rfl, mkr_nil _ _, by simpa using HRR.out, Below.refl _ _⟩
    case round =>
      obtain ⟨i, ps, hi, rfl, hps, hmk, hrd, hb⟩ := hrel
      by_cases hlt : i < cn + 1
      · obtain ⟨L, hL⟩ : ∃ L, ls[i]? = some L := ⟨ls[i]'(by rw [HLL.out]; exact hlt), by simp⟩
        have hLs := HLZ.out L (List.mem_of_getElem? hL)
        have HRD := hide (show (match ruleF L with
          | none => (none, i + 1)
          | some x => if mayB (ps.map (·.1)) x = true then readL (ps.map (·.1) ++ [x]) (i + 1) (ls.drop (i + 1)) else (none, i + 1)) = R from by rw [← hrd, drop_at hL]; rfl)
        have hrow := (hb.block z (by omega)).trans HRW.out
        have c0 : wr.cell? ⟨z, i, none⟩ = some (.string L) := by
          rw [cell_of_row wr z i _ _ _ hrow]
          simp [hL]
        have i3 : (0 : Int) ≤ (i : Int) := by omega
        have i4 : (i : Int) < ((cn + 1 : Nat) : Int) := by omega
        have i5 : (i : Int) < (cn : Int) + 1 := by omega
        have HMK := hide hmk
        have HBW := hide hb
        have HPS := hide hps
        have HLS := hide hLs
        clear hrd hL hrow hmk hb hLs hps
        go_wp2_with fail
        refine (readRule_any L wr HLS.out).mono ?_
        intro e w2 hout
        cases hR : ruleF L with
        | none =>
          rw [hR] at hout HRD
          obtain ⟨rfl, hb2⟩ := hout
          have HRE := hide (show R = (none, i + 1) from HRD.out.symm)
          have HB2 := hide ((HBW.out.trans (hb2.mono (by have := HBW.out.size; have := HZ1.out; omega))))
          clear hR HRD hb2
          have HPF := hide (show parseF s = (none, i + 1, 6) by rw [HFE.out, HRE.out])
          have HB3 := hide (show Below w0.heap.size w0 (w2.alloc (.cells #[.string { data := #[] }, .int .u8 0, .int .u16 0, .slice none 0 0, .bool false] 42)) from by
            rw [HQ.out]
            exact (HB1.out.trans (HB2.out.mono (by omega))).alloc (by have := HB2.out.size; have := HZ1.out; omega) _)
          go_wp2
          go_ret3
          rw [HPF.out]
          exact ⟨rfl, HB3.out⟩
        | some x =>
          rw [hR] at hout HRD
          obtain ⟨y, S, rfl, hn, hT, hS, hb2⟩ := hout
          have hbA := hb2.alloc hb2.size (.cells #[.string x.nm, .int .u8 y.k, .int .u16 y.s, .slice y.a y.l y.c, .bool x.br] 42)
          have hwz : z + 1 ≤ wr.heap.size := by have := HBW.out.size; have := HZ1.out; omega
          have HMA := hide (mkr_kept HMK.out (keep_below (B := z + 1) hbA))
          have HTA := hide (tr_alloc hT (.cells #[.string x.nm, .int .u8 y.k, .int .u16 y.s, .slice y.a y.l y.c, .bool x.br] 42))
          have HSA := hide (st5_new w2 x.nm y.k y.s y.a y.l y.c x.br)
          have HBA := hide (HBW.out.trans (hbA.mono hwz))
          have HVB := hide (show ∀ b ∈ S, z + 1 ≤ b ∧ u5.ownBlock ≠ some b from fun b hb => by
            have h1 := hS b hb
            refine ⟨by omega, fun e => ?_⟩
            have := (HMK.out.1.lt b e).2
            omega)
          have HRD2 := hide (show (if mayB (ps.map (·.1)) x = true then readL (ps.map (·.1) ++ [x]) (i + 1) (ls.drop (i + 1)) else (none, i + 1)) = R from HRD.out)
          have HNM := hide hn
          obtain ⟨a, cap, hv, hc1, hc2, hrs⟩ := mkr_rs HMA.out
          have HRS := hide hrs
          have HRU := hide (show Ru (w2.alloc (.cells #[.string x.nm, .int .u8 y.k, .int .u16 y.s, .slice y.a y.l y.c, .bool x.br] 42)) x (.agg #[.string x.nm, .int .u8 y.k, .int .u16 y.s, .slice y.a y.l y.c, .bool x.br]) from ⟨y.k, y.s, y.a, y.l, y.c, rfl, by unfold maxLen; omega, tr_rx _ _ _ _ HTA.out⟩)
          rw [HPS.out] at hv hc1 HRS
          have HSZ := hide (show z + 1 ≤ w2.heap.size by have := hb2.size; omega)
          clear hR HRD hb2 hbA hT hS hn hrs HMK HBW c0
          subst hv
          go_wp2_with fail
          generalize w2.alloc (.cells #[.string x.nm, .int .u8 y.k, .int .u16 y.s, .slice y.a y.l y.c, .bool x.br] 42) = V at *
          generalize w2.heap.size = p at *
          refine (may_any a i cap (ps.map (·.1)) x _ V (by omega) HRS.out HRU.out).mono ?_
          rintro e w3 ⟨rfl, hb3⟩
          have hpV : p < V.heap.size := st5_lt HSA.out
          have HB3 := hide (HBA.out.trans (hb3.mono (by have := HSZ.out; omega)))
          cases hmay : mayB (ps.map (·.1)) x with
          | false =>
            rw [hmay] at HRD2
            have HRE := hide (show R = (none, i + 1) from HRD2.out.symm)
            have HPF := hide (show parseF s = (none, i + 1, 6) by rw [HFE.out, HRE.out])
            have HB4 := hide (show Below w0.heap.size w0 w3 from by
              rw [HQ.out]
              exact HB1.out.trans (HB3.out.mono (by omega)))
            clear hmay HRD2 hb3
            go_wp2
            go_ret3
            rw [HPF.out]
            exact ⟨rfl, HB4.out⟩
          | true =>
            rw [hmay] at HRD2
            have HRD3 := hide (show readL (ps.map (·.1) ++ [x]) (i + 1) (ls.drop (i + 1)) = R from HRD2.out)
            have hM3 := mkr_kept HMA.out (keep_below (B := z + 1) hb3)
            have hM4 := mkr_kept hM3 (keep_below (B := z + 1) ((Below.refl w3.heap.size w3).alloc (Nat.le_refl _) (.cells #[.string x.nm, .int .u8 y.k, .int .u16 y.s, .slice y.a y.l y.c, .bool x.br] 42)))
            have HT4 := hide (tr_alloc (tr_below HTA.out hb3) (.cells #[.string x.nm, .int .u8 y.k, .int .u16 y.s, .slice y.a y.l y.c, .bool x.br] 42))
            obtain ⟨q0, q1, q2, q3, q4, -⟩ := st5_cells (st5_below HSA.out hb3 hpV)
            have HOW := hide (show (w3.alloc (.cells #[.string x.nm, .int .u8 y.k, .int .u16 y.s, .slice y.a y.l y.c, .bool x.br] 42)).ownsRow (z + 1) 42 5 (.slice a i cap) i (cellsQ ps) from by
              have ho := hM4.1
              rw [HPS.out] at ho
              exact ho)
            have HM4 := hide hM4
            have HNW := hide (one_newQ w3 x y 42)
            have HBW := hide (show z + 1 ≤ (w3.alloc (.cells #[.string x.nm, .int .u8 y.k, .int .u16 y.s, .slice y.a y.l y.c, .bool x.br] 42)).heap.size by have := hb3.size; have := HSZ.out; simp; omega)
            have HZ4 := hide (show (w3.alloc (.cells #[.string x.nm, .int .u8 y.k, .int .u16 y.s, .slice y.a y.l y.c, .bool x.br] 42)).heap.size = w3.heap.size + 1 by simp)
            have HB4 := hide (HB3.out.alloc (by have := hb3.size; have := HSZ.out; omega) (.cells #[.string x.nm, .int .u8 y.k, .int .u16 y.s, .slice y.a y.l y.c, .bool x.br] 42))
            clear hmay HRD2 hM3 hM4 hb3 HMA HTA HSA HBA HRS HRU
            go_wp2_with (at_builtin; refine wpList_append_lies _ rfl _ _ 22 rfl (z + 1) 42 i0 (.agg #[.string { data := #[] }, .int .u8 0, .int .u16 0, .slice none 0 0, .bool false]) 5 56 Tryd.underlying22 hi0 hz0 hz1 hz2 rfl (by omega) (.slice a i cap) i (cellsQ ps) rfl HOW.out ⟨w3.heap.size, 0, none⟩ 1 1 (cellsP (x, y)) rfl rfl HNW.out (cellsP_one' (x, y)) (by omega) (by unfold maxLen; omega) (by omega) HBW.out (w3.heap.size + 1) (by simp) ?_)
            intro g cap' w4 hown4 hgrow4 hat4 hlt4
            have HM5 := hide (mkr_app (x := x) (y := y) (S := S) (g := g) (cap := cap') HM4.out HNM.out HT4.out HVB.out (by rw [HPS.out]; exact hown4) hgrow4 (by rw [HZ4.out]; exact hat4))
            have HB5 := hide (HB4.out.grown hgrow4 HBW.out (fun k hk => (HM4.out.1.lt k hk).1))
            rw [HPS.out] at HM5
            clear hown4 hgrow4 hat4 hlt4 HOW HNW HBW HZ4 HB4 HM4 HT4 q0 q1 q2 q3 q4
            go_wp2
            go_roundw
            case rel => exact ⟨i + 1, ps ++ [(x, y)], by omega, by go_num, by have := HPS.out; simp; omega, HM5.out, by simpa using HRD3.out, HB5.out⟩
            case measure => simp [intOf]; omega
      · have e : i = cn + 1 := by omega
        subst e
        have hd : ls.drop (cn + 1) = [] := List.drop_of_length_le (by rw [HLL.out]; exact Nat.le_refl _)
        rw [hd] at hrd
        have HRE := hide (show R = (some (ps.map (·.1)), 0) from hrd.symm)
        obtain ⟨a, cap, rfl, hc1, hc2, hrs⟩ := mkr_rs hmk
        have HPF := hide (show parseF s = (some (ps.map (·.1)), 0, 0) by rw [HFE.out, HRE.out])
        have HB4 := hide (show Below w0.heap.size w0 wr from by
          rw [HQ.out]
          exact HB1.out.trans (hb.mono (by omega)))
        have HRS := hide hrs
        have hcc : cap ≤ maxLen := hc2
        clear hrd hd hmk hb hrs
        go_wp2
        go_ret3
        rw [HPF.out]
        exact ⟨a, ps.length, cap, rfl, hc1, hcc, HRS.out, HB4.out⟩
end Go.Proofs.YtgjjmcgmdlfdaaaDoor.A
