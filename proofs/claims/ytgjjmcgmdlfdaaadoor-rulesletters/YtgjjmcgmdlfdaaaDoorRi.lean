/- The reader's expression, whole. -/
import Derived.Test.YtgjjmcgmdlfdaaaDoorRh
namespace Go.Proofs.YtgjjmcgmdlfdaaaDoor.A
open Go.RowKit
set_option linter.unusedVariables false

/-- Alternatives. -/
def exprL (L : ByteArray) {m : Nat} (A : Nat → Option (Ex m × Nat)) : Nat → List (Ex m) → Nat → Option (List (Ex m) × Nat)
  | 0, _, _ => none
  | f + 1, l, j => if tk L j 124 = true then match A (j + 1) with
      | none => none
      | some (t, j2) => exprL L A f (l ++ [t]) j2
    else some (l, j)
def exprF (L : ByteArray) {m : Nat} (A : Nat → Option (Ex m × Nat)) (i : Nat) : Option (Ex (m + 1) × Nat) := match A i with
  | none => none
  | some (t, j) => tgO 3 (exprL L A (L.size + 1) [t] j)

set_option maxHeartbeats 12800000 in
theorem expr_any (q : Nat) (L : ByteArray) (i m : Nat) (A : Nat → Option (Ex m × Nat)) (w : World) (hi : i ≤ L.size) (hL : L.size ≤ 2000) (h : Rd w q L i)
    (hA : ∀ j, i ≤ j → j ≤ L.size → ∀ u : World, Rd u q L j → Calls Tryd.prog 69 #[.pointer (some ⟨q, 0, none⟩)] u fun e w' => OutE u q L j m (A j) e w') :
    Calls Tryd.prog 58 #[.pointer (some ⟨q, 0, none⟩)] w fun e w' => OutE w q L i (m + 1) (exprF L A i) e w' := by
  obtain ⟨i0, hi0, hz0, hz1, hz2⟩ := info_parts info40
  have hq := rd_lt h
  have HRA := hide (rd_alloc h (.cells #[.int .u8 0, .int .u16 0, .slice none 0 0] 40))
  have HGA := hide (gb_alloc w (.cells #[.int .u8 0, .int .u16 0, .slice none 0 0] 40) (some q))
  have HSA := hide (st3_new w 0 0 (.slice none 0 0))
  have HZA := hide (show (w.alloc (.cells #[.int .u8 0, .int .u16 0, .slice none 0 0] 40)).heap.size = w.heap.size + 1 by simp)
  have HAA := hide hA
  have HF0 := hide (show exprF L A i = match A i with
    | none => none
    | some (t, j) => tgO 3 (exprL L A (L.size + 1) [t] j) from rfl)
  clear h hA
  go_enter Tryd.func58, Tryd.ntmps58
  go_wp2_with fail
  generalize w.alloc (.cells #[.int .u8 0, .int .u16 0, .slice none 0 0] 40) = W at *
  obtain ⟨r, hr⟩ : ∃ r, w.heap.size = r := ⟨_, rfl⟩
  rw [hr] at HSA HZA ⊢
  have HQ := hide hr
  have hqr : q ≠ r := by omega
  have HQR := hide (show q < r by omega)
  clear hr hq
  refine (HAA.out i (Nat.le_refl _) hi W HRA.out).mono ?_
  intro e w1 hout
  cases hAi : A i with
  | none =>
    rw [hAi] at hout HF0
    obtain ⟨rfl, h3⟩ := hout
    have HGF := hide (gb_trans HGA.out h3)
    have HFE := hide (show exprF L A i = none from HF0.out)
    clear h3 hAi HF0
    go_wp2
    refine ⟨rfl, ?_⟩
    rw [HFE.out]
    exact ⟨rfl, HGF.out⟩
  | some p =>
    obtain ⟨t0, j0⟩ := p
    rw [hAi] at hout HF0
    obtain ⟨y, S, rfl, hT, hN, hS, hij0, hj0, h3, h4⟩ := hout
    obtain ⟨R, hR⟩ : ∃ R, exprL L A (L.size + 1) [t0] j0 = R := ⟨_, rfl⟩
    have HF := hide (show exprF L A i = tgO 3 R from by rw [← hR]; exact HF0.out)
    have HRR := hide hR
    have HM1 := hide (mkg_one (base := r + 1) hT hN (fun b hb => by have := hS b hb; have := HZA.out; omega) (by have := h4.size; have := HZA.out; omega))
    have HR1 := hide (rd_alloc h3 (.cells #[.int .u8 y.k, .int .u16 y.s, .slice y.a y.l y.c] 40))
    have HS1 := hide (st3_alloc (st3_grown HSA.out h4 (by simp; omega)) (.cells #[.int .u8 y.k, .int .u16 y.s, .slice y.a y.l y.c] 40))
    have HG1 := hide (gb_trans (gb_trans HGA.out h4) (gb_alloc w1 (.cells #[.int .u8 y.k, .int .u16 y.s, .slice y.a y.l y.c] 40) (some q)))
    clear hT hN hS h3 h4 hR hAi HF0 HRA HGA HSA HZA
    go_wp2_with fail
    generalize w1.alloc (.cells #[.int .u8 y.k, .int .u16 y.s, .slice y.a y.l y.c] 40) = W1 at *
    generalize w1.heap.size = z1 at *
    go_loopw [3] (fun s wr => ∃ (l : List (Ex m)) (j f : Nat) (ys : List Nd) (Ss : List (List Nat)), Mkg (r + 1) wr m l s ys Ss ∧ l.length ≤ j + 1 ∧ i ≤ j ∧ j ≤ L.size ∧ L.size < j + f ∧ Rd wr q L j ∧ w.grownBy wr (some q) ∧ St3 wr r 0 0 (.slice none 0 0) ∧ exprL L A f l j = R) (fun _ wr => L.size + 1 - posOf wr q)
    case atStart => exact ⟨[t0], j0, L.size + 1, _, _, HM1.out, by simp, hij0, hj0, by omega, HR1.out, HG1.out, HS1.out, HRR.out⟩
    case round =>
      obtain ⟨l, j, f, ys, Ss, hmk, hlj, hij, hj, hf, hrd, hg, hst, hal⟩ := hrel
      obtain ⟨f, rfl⟩ : ∃ f', f = f' + 1 := ⟨f - 1, by omega⟩
      have HAL := hide (show (if tk L j 124 = true then match A (j + 1) with
        | none => none
        | some (t, j2) => exprL L A f (l ++ [t]) j2
        else some (l, j)) = R from hal)
      have HRD := hide hrd
      have HG := hide hg
      have HST := hide hst
      have HM := hide hmk
      have HPO := hide (pos_rd hrd)
      clear hrd hg hst hmk hal
      go_wp2_with fail
      refine (takes_any q L j 124 wr hj hL HRD.out).mono ?_
      rintro e U ⟨rfl, h1, h2⟩
      have HM2 := hide (mkg_kept HM.out (keep_gb h2 (by have := HQR.out; omega)))
      have HG2 := hide (gb_trans HG.out h2)
      have HS2 := hide (st3_grown HST.out h2 (by simp; omega))
      clear h2 HM HRD HG HST
      cases ht : tk L j 124 with
      | false =>
        rw [nx_no ht] at h1
        have HR2 := hide h1
        rw [ht] at HAL
        have HFE := hide (show exprF L A i = some (togE 3 l, j) by rw [HF.out, ← HAL.out]; rfl)
        clear h1 ht HAL
        go_wp2_with fail
        refine (together_any (r + 1) 3 m l _ ys Ss U (by omega) (by omega) HM2.out).mono ?_
        rintro e w3 ⟨y', S', rfl, hT, hN, hS, hb⟩
        obtain ⟨m0, m1, m2, m3⟩ := st3_cells (st3_below HS2.out hb (st3_lt HS2.out))
        have m4 := m3 0
        have m5 := m3 1
        have m6 := m3 2
        have HRF := hide (rd_below HR2.out hb (rd_lt HR2.out))
        have HGF := hide (gb_trans HG2.out (gb_below (q := some q) hb))
        have HTF := hide hT
        have HNF := hide hN
        have HSF := hide hS
        clear hb m3 hT hN hS HM2 HR2 HG2 HS2
        go_wp2
        refine bodyPost_ret (v := .agg #[.int .u8 y'.k, .int .u16 y'.s, .slice y'.a y'.l y'.c]) (by simp [results, Tryd.results58, go_sem, m0, m1, m2]) rfl ?_
        rw [HFE.out]
        exact ⟨y', S', rfl, fin_tr HTF.out (fun b hb => by have := HSF.out b hb; omega) _ _ _, HNF.out, (fun b hb => by have := HSF.out b hb; have := HQ.out; omega), hij, hj, fin_rd HRF.out hqr _ _ _, fin_gb HGF.out (by have := HQ.out; omega) _ _ _⟩
      | true =>
        rw [nx_yes ht] at h1
        have hlt := tk_lt ht
        have HR2 := hide h1
        rw [ht] at HAL
        have HAL2 := hide (show (match A (j + 1) with
          | none => none
          | some (t, j2) => exprL L A f (l ++ [t]) j2) = R from HAL.out)
        clear h1 ht HAL
        go_wp2_with fail
        refine (HAA.out (j + 1) (by omega) hlt U HR2.out).mono ?_
        intro e w2 hout
        cases hIj : A (j + 1) with
        | none =>
          rw [hIj] at hout HAL2
          obtain ⟨rfl, h3⟩ := hout
          have HFE := hide (show exprF L A i = none by rw [HF.out, ← HAL2.out]; rfl)
          have HGF := hide (gb_trans HG2.out h3)
          clear h3 hIj HAL2
          go_wp2
          refine ⟨rfl, ?_⟩
          rw [HFE.out]
          exact ⟨rfl, HGF.out⟩
        | some p =>
          obtain ⟨t, j2⟩ := p
          rw [hIj] at hout HAL2
          obtain ⟨y', S', rfl, hT, hN, hS, hij2, hj2, h3, h4⟩ := hout
          have HAL3 := hide (show exprL L A f (l ++ [t]) j2 = R from HAL2.out)
          obtain ⟨ln, hln⟩ : ∃ ln, l.length = ln := ⟨_, rfl⟩
          have HLN := hide hln
          have hbU : r + 1 ≤ U.heap.size := st3_lt HS2.out
          have HOW := hide (show (w2.alloc (.cells #[.int .u8 y'.k, .int .u16 y'.s, .slice y'.a y'.l y'.c] 40)).ownsRow (r + 1) 40 3 u3 ln (cellsN ys) from by
            have ho := (mkg_kept HM2.out (keep_gb h4 (by have := HQR.out; omega))).1.alloc (.cells #[.int .u8 y'.k, .int .u16 y'.s, .slice y'.a y'.l y'.c] 40)
            rw [hln] at ho
            exact ho)
          have HNW := hide (one_newN w2 y' 40)
          have HBW := hide (show r + 1 ≤ (w2.alloc (.cells #[.int .u8 y'.k, .int .u16 y'.s, .slice y'.a y'.l y'.c] 40)).heap.size by have := h4.size; simp; omega)
          have HVB := hide (fun k (e : u3.ownBlock = some k) => (HM2.out.1.lt k e).1)
          have HMM := hide (fun (w3 : World) (g cap : Nat) (a1 : w3.ownsRow (r + 1) 40 3 (.slice (some ⟨g, 0, none⟩) (l.length + 1) cap) (l.length + 1) (cellsN ys ++ cellsO y')) a2 a3 => mkg_more (w3 := w3) (g := g) (cap := cap) HM2.out h4 (by have := HQR.out; omega) hbU hT hN hS (.cells #[.int .u8 y'.k, .int .u16 y'.s, .slice y'.a y'.l y'.c] 40) a1 a2 a3)
          have HR3 := hide (rd_alloc h3 (.cells #[.int .u8 y'.k, .int .u16 y'.s, .slice y'.a y'.l y'.c] 40))
          have HS3 := hide (st3_alloc (st3_grown HS2.out h4 (by simp; omega)) (.cells #[.int .u8 y'.k, .int .u16 y'.s, .slice y'.a y'.l y'.c] 40))
          have HG3 := hide (gb_trans (gb_trans HG2.out h4) (gb_alloc w2 (.cells #[.int .u8 y'.k, .int .u16 y'.s, .slice y'.a y'.l y'.c] 40) (some q)))
          rw [hln] at HMM hlj
          clear hT hN hS h3 h4 hIj HAL2 hln HM2 HR2 HG2 HS2
          go_wp2_with (at_builtin; refine wpList_append_lies _ rfl _ _ 38 rfl (r + 1) 40 i0 (.agg #[.int .u8 0, .int .u16 0, .slice none 0 0]) 3 32 Tryd.underlying38 hi0 hz0 hz1 hz2 rfl (by omega) u3 ln (cellsN ys) rfl HOW.out ⟨w2.heap.size, 0, none⟩ 1 1 (cellsO y') rfl rfl HNW.out (cellsO_one' y') (by omega) (by unfold maxLen; omega) (by omega) HBW.out (w2.heap.size + 1) (by simp) ?_)
          intro g cap w3 hown3 hgrow3 hat3 hlt3
          have HM3 := hide (HMM.out w3 g cap hown3 hgrow3 hat3)
          have HR4 := hide (rd_row HR3.out hgrow3 (fun e => by have := HVB.out q e.symm; have := HQR.out; omega))
          have HS4 := hide (st3_grown HS3.out hgrow3 (fun e => by have := HVB.out r e.symm; omega))
          have HG4 := hide (gb_row HG3.out hgrow3 (fun k e => by have := HVB.out k e; have := HQ.out; omega))
          have HPN := hide (pos_rd HR4.out)
          clear hown3 hgrow3 hat3 hlt3 HMM HOW HNW HBW HR3 HS3 HG3
          go_wp2
          exact ⟨⟨l ++ [t], j2, f, _, _, HM3.out, by have := HLN.out; simp; omega, by omega, hj2, by omega, HR4.out, HG4.out, HS4.out, HAL3.out⟩, by rw [HPN.out, HPO.out]; omega⟩

/-- An expression, within so many brackets. -/
def exprN (L : ByteArray) : (f : Nat) → Nat → Option (Ex (4 * f + 1) × Nat)
  | 0, _ => none
  | f + 1, i => exprF L (altF L (itemF L (onceF L (exprN L f)))) i
theorem exprN_any (q : Nat) (L : ByteArray) (hL : L.size ≤ 2000) : ∀ (f i : Nat) (w : World), i ≤ L.size → L.size < i + f → Rd w q L i →
    Calls Tryd.prog 58 #[.pointer (some ⟨q, 0, none⟩)] w fun e w' => OutE w q L i (4 * f + 1) (exprN L f i) e w'
  | 0, i, w, hi, hf, h => by omega
  | f + 1, i, w, hi, hf, h => by
    refine expr_any q L i (4 * f + 4) (altF L (itemF L (onceF L (exprN L f)))) w hi hL h ?_
    intro j hij hj u hu
    refine alt_any q L j (4 * f + 3) (itemF L (onceF L (exprN L f))) u hj hL hu ?_
    intro k hjk hk u2 hu2
    refine item_any q L k (4 * f + 1) (onceF L (exprN L f)) u2 hk hL hu2 ?_
    intro u3 hu3
    refine once_any q L k (4 * f) (exprN L f) u3 hk hL hu3 ?_
    intro ht u4 hu4
    exact exprN_any q L hL f (k + 1) u4 (tk_lt ht) (by omega) hu4
end Go.Proofs.YtgjjmcgmdlfdaaaDoor.A
