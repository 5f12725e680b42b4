/- The reader's alternative. -/
import Derived.Test.YtccaknabpnpjaaaGreatDoorPk25
import Derived.OwnWalk
namespace Go.Proofs.YtccaknabpnpjaaaGreatDoor.A
open Go.RowKit
set_option linter.unusedVariables false

theorem gb_row {w W w3 : World} {q : Nat} {row : Option Nat} (h : w.grownBy W (some q)) (hg : W.grownBy w3 row) (hr : ∀ k, row = some k → w.heap.size ≤ k) : w.grownBy w3 (some q) :=
  ⟨hg.os.trans h.os, hg.tape.trans h.tape, hg.output.trans h.output, Nat.le_trans h.size hg.size, fun k hk hq => (hg.block k (Nat.lt_of_lt_of_le hk h.size) (fun e => by have := hr k e.symm; omega)).trans (h.block k hk hq)⟩
theorem rd_row {w w' : World} {q j : Nat} {L : ByteArray} {row : Option Nat} (h : Rd w q L j) (hg : w.grownBy w' row) (hr : some q ≠ row) : Rd w' q L j := (hg.block q (rd_lt h) hr).trans h
/-- One more. -/
theorem mkg_more {base q : Nat} {wr w2 w3 : World} {n : Nat} {l : List (Ex n)} {v : Value} {ys : List Nd} {Ss : List (List Nat)} (h : Mkg base wr n l v ys Ss) (hg : wr.grownBy w2 (some q)) (hq : q < base) (hbw : base ≤ wr.heap.size) {t : Ex n} {y : Nd} {S : List Nat} (hT : Tr w2 n t y S) (hN : S.Nodup) (hS : ∀ b ∈ S, wr.heap.size ≤ b) (o : Obj) {g cap : Nat}
    (hown : w3.ownsRow base 38 3 (.slice (some ⟨g, 0, none⟩) (l.length + 1) cap) (l.length + 1) (cellsN ys ++ cellsO y)) (hgrow : (w2.alloc o).grownBy w3 v.ownBlock) (hat : v.ownBlock = some g ∨ g = w2.heap.size + 1) :
    Mkg base w3 n (l ++ [t]) (.slice (some ⟨g, 0, none⟩) (l.length + 1) cap) (ys ++ [y]) (Ss ++ [S]) := by
  have h2 := mkg_kept h (keep_gb hg hq)
  have h3 := mkg_kept h2 (keep_below (B := base) ((Below.refl w2.heap.size w2).alloc (Nat.le_refl _) o))
  refine mkg_app h3 (tr_alloc hT o) hN (lo := wr.heap.size) (fun b hb => ⟨hS b hb, by have := tr_lt _ _ _ _ hT b hb; simp; omega⟩) hbw (fun b hb => (h.2.2.2.2.2.1 b hb).2) (fun g hg' => (h.1.lt g hg').2) hown hgrow (by simpa using hat)

/-- Items, as many as there are. -/
def altL (L : ByteArray) {m : Nat} (I : Nat → Option (Ex m × Nat)) : Nat → List (Ex m) → Nat → Option (List (Ex m) × Nat)
  | 0, _, _ => none
  | f + 1, l, j => if (decide (j < L.size) && !decide (by8 L j = 124) && !decide (by8 L j = 41)) = true then match I j with
      | none => none
      | some (t, j2) => altL L I f (l ++ [t]) j2
    else some (l, j)
def tgO (k : Nat) {m : Nat} (R : Option (List (Ex m) × Nat)) : Option (Ex (m + 1) × Nat) := match R with
  | none => none
  | some (l, j) => some (togE k l, j)
def altF (L : ByteArray) {m : Nat} (I : Nat → Option (Ex m × Nat)) (i : Nat) : Option (Ex (m + 1) × Nat) := tgO 2 (altL L I (L.size + 1) [] i)
theorem keep_drewN (B : Nat) (w : World) (n : Nat) : Keep B w (w.drewN n) := ⟨Nat.le_refl _, fun _ _ _ => rfl⟩

set_option maxHeartbeats 12800000 in
theorem alt_any (q : Nat) (L : ByteArray) (i m : Nat) (I : Nat → Option (Ex m × Nat)) (w : World) (hi : i ≤ L.size) (hL : L.size ≤ 2000) (h : Rd w q L i)
    (hI : ∀ j, i ≤ j → j ≤ L.size → ∀ u : World, Rd u q L j → Calls Tryz.prog 98 #[.pointer (some ⟨q, 0, none⟩)] u fun e w' => OutE u q L (j + 1) m (I j) e w') :
    Calls Tryz.prog 90 #[.pointer (some ⟨q, 0, none⟩)] w fun e w' => OutE w q L i (m + 1) (altF L I i) e w' := by
  obtain ⟨i0, hi0, hz0, hz1, hz2⟩ := info_parts info38
  have hq := rd_lt h
  have HRA := hide (rd_alloc h (.cells #[.int .u8 0, .int .u16 0, .slice none 0 0] 38))
  have HGA := hide (gb_alloc w (.cells #[.int .u8 0, .int .u16 0, .slice none 0 0] 38) (some q))
  have HSA := hide (st3_new w 0 0 (.slice none 0 0))
  have HZA := hide (show (w.alloc (.cells #[.int .u8 0, .int .u16 0, .slice none 0 0] 38)).heap.size = w.heap.size + 1 by simp)
  have HII := hide hI
  obtain ⟨R, hR⟩ : ∃ R, altL L I (L.size + 1) [] i = R := ⟨_, rfl⟩
  have HF := hide (show altF L I i = tgO 2 R from by rw [← hR]; rfl)
  have HRR := hide hR
  clear h hI hR
  go_enter Tryz.func90, Tryz.ntmps90
  go_wp2_with fail
  generalize w.alloc (.cells #[.int .u8 0, .int .u16 0, .slice none 0 0] 38) = W at *
  obtain ⟨r, hr⟩ : ∃ r, w.heap.size = r := ⟨_, rfl⟩
  rw [hr] at HSA HZA ⊢
  have HQ := hide hr
  have hqr : q ≠ r := by omega
  have HQR := hide (show q < r by omega)
  clear hr hq
  go_loopw [3] (fun s wr => ∃ (l : List (Ex m)) (j f : Nat) (ys : List Nd) (Ss : List (List Nat)), Mkg (r + 1) wr m l s ys Ss ∧ l.length ≤ j ∧ i ≤ j ∧ j ≤ L.size ∧ L.size < j + f ∧ Rd wr q L j ∧ w.grownBy wr (some q) ∧ St3 wr r 0 0 (.slice none 0 0) ∧ altL L I f l j = R) (fun _ wr => L.size + 1 - posOf wr q)
  case atStart => exact ⟨[], i, L.size + 1, [], [], mkg_nil _ _ _, Nat.zero_le _, Nat.le_refl _, hi, by omega, HRA.out, HGA.out, HSA.out, HRR.out⟩
  case round =>
    obtain ⟨l, j, f, ys, Ss, hmk, hlj, hij, hj, hf, hrd, hg, hst, hal⟩ := hrel
    obtain ⟨f, rfl⟩ : ∃ f', f = f' + 1 := ⟨f - 1, by omega⟩
    have HAL := hide (show (if (decide (j < L.size) && !decide (by8 L j = 124) && !decide (by8 L j = 41)) = true then match I j with
      | none => none
      | some (t, j2) => altL L I f (l ++ [t]) j2
      else some (l, j)) = R from hal)
    obtain ⟨p0, p1, f0, f1⟩ := rd_cells hrd
    have HRD := hide hrd
    have HG := hide hg
    have HST := hide hst
    have HM := hide hmk
    have HPO := hide (pos_rd hrd)
    have hj0 : (0 : Int) ≤ (j : Int) := by omega
    clear hrd hg hst hmk hal
    by_cases hgo : (decide (j < L.size) && !decide (by8 L j = 124) && !decide (by8 L j = 41)) = true
    · rw [hgo] at HAL
      have HAL2 := hide (show (match I j with
        | none => none
        | some (t, j2) => altL L I f (l ++ [t]) j2) = R from HAL.out)
      clear HAL
      simp only [Bool.and_eq_true, decide_eq_true_eq, Bool.not_eq_true', decide_eq_false_iff_not] at hgo
      obtain ⟨⟨hlt, h124⟩, h41⟩ := hgo
      have hlt' : (j : Int) < (L.size : Int) := by omega
      have g1 : decide ((j : Int) < (L.size : Int)) = true := by simp; omega
      have e8 : by8 L j = (L[j]'hlt).toNat := by unfold by8; rw [dif_pos hlt]
      rw [e8] at h124 h41
      have z1 : (((L[j]'hlt).toNat : Int) == 124) = false := by simp; omega
      have z2 : decide (((L[j]'hlt).toNat : Int) = 124) = false := by simp; omega
      have z3 : (((L[j]'hlt).toNat : Int) != 124) = true := by simp; omega
      have y1 : (((L[j]'hlt).toNat : Int) == 41) = false := by simp; omega
      have y2 : decide (((L[j]'hlt).toNat : Int) = 41) = false := by simp; omega
      have y3 : (((L[j]'hlt).toNat : Int) != 41) = true := by simp; omega
      clear e8 h124 h41
      go_wp2
      go_quiet (fail)
      go_wp2_with fail
      have HM2 := hide (mkg_kept HM.out (keep_drewN _ _ nq))
      have HR2 := hide (rd_drewN HRD.out nq)
      have HG2 := hide (gb_trans HG.out (gb_drewN wr (some q) nq))
      have HS2 := hide (show St3 (wr.drewN nq) r 0 0 (.slice none 0 0) from HST.out)
      clear HM HRD HG HST p0 p1 f0 f1
      generalize wr.drewN nq = U at *
      refine (HII.out j hij hj U HR2.out).mono ?_
      intro e w2 hout
      cases hIj : I j with
      | none =>
        rw [hIj] at hout HAL2
        obtain ⟨rfl, h3⟩ := hout
        have HFE := hide (show altF L I i = none by rw [HF.out, ← HAL2.out]; rfl)
        have HGF := hide (gb_trans HG2.out h3)
        clear h3 hIj HAL2
        go_wp2
        refine ⟨rfl, ?_⟩
        rw [HFE.out]
        exact ⟨rfl, HGF.out⟩
      | some p =>
        obtain ⟨t, j2⟩ := p
        rw [hIj] at hout HAL2
        obtain ⟨y, S, rfl, hT, hN, hS, hij2, hj2, h3, h4⟩ := hout
        have HAL3 := hide (show altL L I f (l ++ [t]) j2 = R from HAL2.out)
        obtain ⟨ln, hln⟩ : ∃ ln, l.length = ln := ⟨_, rfl⟩
        have HLN := hide hln
        have hbU : r + 1 ≤ U.heap.size := st3_lt HS2.out
        have HOW := hide (show (w2.alloc (.cells #[.int .u8 y.k, .int .u16 y.s, .slice y.a y.l y.c] 38)).ownsRow (r + 1) 38 3 u3 ln (cellsN ys) from by
          have ho := (mkg_kept HM2.out (keep_gb h4 (by have := HQR.out; omega))).1.alloc (.cells #[.int .u8 y.k, .int .u16 y.s, .slice y.a y.l y.c] 38)
          rw [hln] at ho
          exact ho)
        have HNW := hide (one_newN w2 y 38)
        have HBW := hide (show r + 1 ≤ (w2.alloc (.cells #[.int .u8 y.k, .int .u16 y.s, .slice y.a y.l y.c] 38)).heap.size by have := h4.size; simp; omega)
        have HVB := hide (fun k (e : u3.ownBlock = some k) => (HM2.out.1.lt k e).1)
        have HMM := hide (fun (w3 : World) (g cap : Nat) (a1 : w3.ownsRow (r + 1) 38 3 (.slice (some ⟨g, 0, none⟩) (l.length + 1) cap) (l.length + 1) (cellsN ys ++ cellsO y)) a2 a3 => mkg_more (w3 := w3) (g := g) (cap := cap) HM2.out h4 (by have := HQR.out; omega) hbU hT hN hS (.cells #[.int .u8 y.k, .int .u16 y.s, .slice y.a y.l y.c] 38) a1 a2 a3)
        have HR3 := hide (rd_alloc h3 (.cells #[.int .u8 y.k, .int .u16 y.s, .slice y.a y.l y.c] 38))
        have HS3 := hide (st3_alloc (st3_grown HS2.out h4 (by simp; omega)) (.cells #[.int .u8 y.k, .int .u16 y.s, .slice y.a y.l y.c] 38))
        have HG3 := hide (gb_trans (gb_trans HG2.out h4) (gb_alloc w2 (.cells #[.int .u8 y.k, .int .u16 y.s, .slice y.a y.l y.c] 38) (some q)))
        rw [hln] at HMM hlj
        clear hT hN hS h3 h4 hIj HAL2 hln HM2 HR2 HG2 HS2
        go_wp2_with (at_builtin; refine wpList_append_lies _ rfl _ _ 22 rfl (r + 1) 38 i0 (.agg #[.int .u8 0, .int .u16 0, .slice none 0 0]) 3 32 Tryz.underlying22 hi0 hz0 hz1 hz2 rfl (by omega) u3 ln (cellsN ys) rfl HOW.out ⟨w2.heap.size, 0, none⟩ 1 1 (cellsO y) rfl rfl HNW.out (cellsO_one' y) (by omega) (by unfold maxLen; omega) (by omega) HBW.out (w2.heap.size + 1) (by simp) ?_)
        intro g cap w3 hown3 hgrow3 hat3 hlt3
        have HM3 := hide (HMM.out w3 g cap hown3 hgrow3 hat3)
        have HR4 := hide (rd_row HR3.out hgrow3 (fun e => by have := HVB.out q e.symm; have := HQR.out; omega))
        have HS4 := hide (st3_grown HS3.out hgrow3 (fun e => by have := HVB.out r e.symm; omega))
        have HG4 := hide (gb_row HG3.out hgrow3 (fun k e => by have := HVB.out k e; have := HQ.out; omega))
        have HPN := hide (pos_rd HR4.out)
        clear hown3 hgrow3 hat3 hlt3 HMM HOW HNW HBW HR3 HS3 HG3
        go_wp2
        exact ⟨⟨l ++ [t], j2, f, _, _, HM3.out, by have := HLN.out; simp; omega, by omega, hj2, by omega, HR4.out, HG4.out, HS4.out, HAL3.out⟩, by rw [HPN.out, HPO.out]; omega⟩
    · have HFE := hide (show altF L I i = some (togE 2 l, j) by
        rw [HF.out, ← HAL.out, if_neg hgo]; rfl)
      clear HAL
      have hcase : (j = L.size) ∨ (∃ hlt : j < L.size, (L[j]'hlt).toNat = 124) ∨ (∃ hlt : j < L.size, (L[j]'hlt).toNat = 41 ∧ (L[j]'hlt).toNat ≠ 124) := by
        simp only [Bool.and_eq_true, decide_eq_true_eq, Bool.not_eq_true', decide_eq_false_iff_not] at hgo
        by_cases hlt : j < L.size
        · have e8 : by8 L j = (L[j]'hlt).toNat := by unfold by8; rw [dif_pos hlt]
          rw [e8] at hgo
          by_cases h1 : (L[j]'hlt).toNat = 124
          · exact .inr (.inl ⟨hlt, h1⟩)
          · exact .inr (.inr ⟨hlt, by
              by_cases h2 : (L[j]'hlt).toNat = 41
              · exact h2
              · exact absurd ⟨⟨hlt, h1⟩, h2⟩ hgo, h1⟩)
        · exact .inl (by omega)
      clear hgo
      rcases hcase with hA | ⟨hlt, hB⟩ | ⟨hlt, hB, hB2⟩
      · subst hA
        have g1 : decide ((L.size : Int) < (L.size : Int)) = false := by simp
        go_wp2
        go_quiet (fail)
        go_wp2_with fail
        have HM2 := hide (mkg_kept HM.out (keep_drewN _ _ nq))
        have HR2 := hide (rd_drewN HRD.out nq)
        have HG2 := hide (gb_trans HG.out (gb_drewN wr (some q) nq))
        have HS2 := hide (show St3 (wr.drewN nq) r 0 0 (.slice none 0 0) from HST.out)
        clear HM HRD HG HST
        generalize wr.drewN nq = U at *
        refine (together_any (r + 1) 2 m l _ ys Ss U (by omega) (by omega) HM2.out).mono ?_
        rintro e w3 ⟨y, S, rfl, hT, hN, hS, hb⟩
        obtain ⟨m0, m1, m2, m3⟩ := st3_cells (st3_below HS2.out hb (st3_lt HS2.out))
        have m4 := m3 0
        have m5 := m3 1
        have m6 := m3 2
        have HRF := hide (rd_below HR2.out hb (rd_lt HR2.out))
        have HGF := hide (gb_trans HG2.out (gb_below (q := some q) hb))
        have HTF := hide hT
        have HNF := hide hN
        have HSF := hide hS
        clear hb m3 hT hN hS HM2 HR2 HG2 HS2
        go_wp2
        refine bodyPost_ret (v := .agg #[.int .u8 y.k, .int .u16 y.s, .slice y.a y.l y.c]) (by simp [results, Tryz.results90, go_sem, m0, m1, m2]) rfl ?_
        rw [HFE.out]
        exact ⟨y, S, rfl, fin_tr HTF.out (fun b hb => by have := HSF.out b hb; omega) _ _ _, HNF.out, (fun b hb => by have := HSF.out b hb; have := HQ.out; omega), hij, hj, fin_rd HRF.out hqr _ _ _, fin_gb HGF.out (by have := HQ.out; omega) _ _ _⟩

      · have hlt' : (j : Int) < (L.size : Int) := by omega
        have g1 : decide ((j : Int) < (L.size : Int)) = true := by simp; omega
        have z1 : (((L[j]'hlt).toNat : Int) == 124) = true := by simp; omega
        have z2 : decide (((L[j]'hlt).toNat : Int) = 124) = true := by simp; omega
        have z3 : (((L[j]'hlt).toNat : Int) != 124) = false := by simp; omega
        clear hB
        go_wp2
        go_quiet (fail)
        go_wp2_with fail
        have HM2 := hide (mkg_kept HM.out (keep_drewN _ _ nq))
        have HR2 := hide (rd_drewN HRD.out nq)
        have HG2 := hide (gb_trans HG.out (gb_drewN wr (some q) nq))
        have HS2 := hide (show St3 (wr.drewN nq) r 0 0 (.slice none 0 0) from HST.out)
        clear HM HRD HG HST
        generalize wr.drewN nq = U at *
        refine (together_any (r + 1) 2 m l _ ys Ss U (by omega) (by omega) HM2.out).mono ?_
        rintro e w3 ⟨y, S, rfl, hT, hN, hS, hb⟩
        obtain ⟨m0, m1, m2, m3⟩ := st3_cells (st3_below HS2.out hb (st3_lt HS2.out))
        have m4 := m3 0
        have m5 := m3 1
        have m6 := m3 2
        have HRF := hide (rd_below HR2.out hb (rd_lt HR2.out))
        have HGF := hide (gb_trans HG2.out (gb_below (q := some q) hb))
        have HTF := hide hT
        have HNF := hide hN
        have HSF := hide hS
        clear hb m3 hT hN hS HM2 HR2 HG2 HS2
        go_wp2
        refine bodyPost_ret (v := .agg #[.int .u8 y.k, .int .u16 y.s, .slice y.a y.l y.c]) (by simp [results, Tryz.results90, go_sem, m0, m1, m2]) rfl ?_
        rw [HFE.out]
        exact ⟨y, S, rfl, fin_tr HTF.out (fun b hb => by have := HSF.out b hb; omega) _ _ _, HNF.out, (fun b hb => by have := HSF.out b hb; have := HQ.out; omega), hij, hj, fin_rd HRF.out hqr _ _ _, fin_gb HGF.out (by have := HQ.out; omega) _ _ _⟩

      · have hlt' : (j : Int) < (L.size : Int) := by omega
        have g1 : decide ((j : Int) < (L.size : Int)) = true := by simp; omega
        have z1 : (((L[j]'hlt).toNat : Int) == 124) = false := by simp; omega
        have z2 : decide (((L[j]'hlt).toNat : Int) = 124) = false := by simp; omega
        have z3 : (((L[j]'hlt).toNat : Int) != 124) = true := by simp; omega
        have y1 : (((L[j]'hlt).toNat : Int) == 41) = true := by simp; omega
        have y2 : decide (((L[j]'hlt).toNat : Int) = 41) = true := by simp; omega
        have y3 : (((L[j]'hlt).toNat : Int) != 41) = false := by simp; omega
        clear hB hB2
        go_wp2
        go_quiet (fail)
        go_wp2_with fail
        have HM2 := hide (mkg_kept HM.out (keep_drewN _ _ nq))
        have HR2 := hide (rd_drewN HRD.out nq)
        have HG2 := hide (gb_trans HG.out (gb_drewN wr (some q) nq))
        have HS2 := hide (show St3 (wr.drewN nq) r 0 0 (.slice none 0 0) from HST.out)
        clear HM HRD HG HST
        generalize wr.drewN nq = U at *
        refine (together_any (r + 1) 2 m l _ ys Ss U (by omega) (by omega) HM2.out).mono ?_
        rintro e w3 ⟨y, S, rfl, hT, hN, hS, hb⟩
        obtain ⟨m0, m1, m2, m3⟩ := st3_cells (st3_below HS2.out hb (st3_lt HS2.out))
        have m4 := m3 0
        have m5 := m3 1
        have m6 := m3 2
        have HRF := hide (rd_below HR2.out hb (rd_lt HR2.out))
        have HGF := hide (gb_trans HG2.out (gb_below (q := some q) hb))
        have HTF := hide hT
        have HNF := hide hN
        have HSF := hide hS
        clear hb m3 hT hN hS HM2 HR2 HG2 HS2
        go_wp2
        refine bodyPost_ret (v := .agg #[.int .u8 y.k, .int .u16 y.s, .slice y.a y.l y.c]) (by simp [results, Tryz.results90, go_sem, m0, m1, m2]) rfl ?_
        rw [HFE.out]
        exact ⟨y, S, rfl, fin_tr HTF.out (fun b hb => by have := HSF.out b hb; omega) _ _ _, HNF.out, (fun b hb => by have := HSF.out b hb; have := HQ.out; omega), hij, hj, fin_rd HRF.out hqr _ _ _, fin_gb HGF.out (by have := HQ.out; omega) _ _ _⟩

end Go.Proofs.YtccaknabpnpjaaaGreatDoor.A

/- The reader's expression, whole. -/
namespace Go.Proofs.YtccaknabpnpjaaaGreatDoor.A
open Go.RowKit
set_option linter.unusedVariables false

/-- Alternatives. -/
def exprL (L : ByteArray) {m : Nat} (A : Nat → Option (Ex m × Nat)) : Nat → List (Ex m) → Nat → Option (List (Ex m) × Nat)
  | 0, _, _ => none
  | f + 1, l, j => if tk L j 124 = true then match A (j + 1) with
      | none => none
      | some (t, j2) => exprL L A f (l ++ [t]) j2
    else some (l, j)
def exprF (L : ByteArray) {m : Nat} (A : Nat → Option (Ex m × Nat)) (i : Nat) : Option (Ex (m + 1) × Nat) := match A i with
  | none => none
  | some (t, j) => tgO 3 (exprL L A (L.size + 1) [t] j)

set_option maxHeartbeats 12800000 in
theorem uexpr_any (q : Nat) (L : ByteArray) (i m : Nat) (A : Nat → Option (Ex m × Nat)) (w : World) (hi : i ≤ L.size) (hL : L.size ≤ 2000) (h : Rd w q L i)
    (hA : ∀ j, i ≤ j → j ≤ L.size → ∀ u : World, Rd u q L j → Calls Tryz.prog 90 #[.pointer (some ⟨q, 0, none⟩)] u fun e w' => OutE u q L j m (A j) e w') :
    Calls Tryz.prog 75 #[.pointer (some ⟨q, 0, none⟩)] w fun e w' => OutE w q L i (m + 1) (exprF L A i) e w' := by
  obtain ⟨i0, hi0, hz0, hz1, hz2⟩ := info_parts info38
  have hq := rd_lt h
  have HRA := hide (rd_alloc h (.cells #[.int .u8 0, .int .u16 0, .slice none 0 0] 38))
  have HGA := hide (gb_alloc w (.cells #[.int .u8 0, .int .u16 0, .slice none 0 0] 38) (some q))
  have HSA := hide (st3_new w 0 0 (.slice none 0 0))
  have HZA := hide (show (w.alloc (.cells #[.int .u8 0, .int .u16 0, .slice none 0 0] 38)).heap.size = w.heap.size + 1 by simp)
  have HAA := hide hA
  have HF0 := hide (show exprF L A i = match A i with
    | none => none
    | some (t, j) => tgO 3 (exprL L A (L.size + 1) [t] j) from rfl)
  clear h hA
  go_enter Tryz.func75, Tryz.ntmps75
  go_wp2_with fail
  generalize w.alloc (.cells #[.int .u8 0, .int .u16 0, .slice none 0 0] 38) = W at *
  obtain ⟨r, hr⟩ : ∃ r, w.heap.size = r := ⟨_, rfl⟩
  rw [hr] at HSA HZA ⊢
  have HQ := hide hr
  have hqr : q ≠ r := by omega
  have HQR := hide (show q < r by omega)
  clear hr hq
  refine (HAA.out i (Nat.le_refl _) hi W HRA.out).mono ?_
  intro e w1 hout
  cases hAi : A i with
  | none =>
    rw [hAi] at hout HF0
    obtain ⟨rfl, h3⟩ := hout
    have HGF := hide (gb_trans HGA.out h3)
    have HFE := hide (show exprF L A i = none from HF0.out)
    clear h3 hAi HF0
    go_wp2
    refine ⟨rfl, ?_⟩
    rw [HFE.out]
    exact ⟨rfl, HGF.out⟩
  | some p =>
    obtain ⟨t0, j0⟩ := p
    rw [hAi] at hout HF0
    obtain ⟨y, S, rfl, hT, hN, hS, hij0, hj0, h3, h4⟩ := hout
    obtain ⟨R, hR⟩ : ∃ R, exprL L A (L.size + 1) [t0] j0 = R := ⟨_, rfl⟩
    have HF := hide (show exprF L A i = tgO 3 R from by rw [← hR]; exact HF0.out)
    have HRR := hide hR
    have HM1 := hide (mkg_one (base := r + 1) hT hN (fun b hb => by have := hS b hb; have := HZA.out; omega) (by have := h4.size; have := HZA.out; omega))
    have HR1 := hide (rd_alloc h3 (.cells #[.int .u8 y.k, .int .u16 y.s, .slice y.a y.l y.c] 38))
    have HS1 := hide (st3_alloc (st3_grown HSA.out h4 (by simp; omega)) (.cells #[.int .u8 y.k, .int .u16 y.s, .slice y.a y.l y.c] 38))
    have HG1 := hide (gb_trans (gb_trans HGA.out h4) (gb_alloc w1 (.cells #[.int .u8 y.k, .int .u16 y.s, .slice y.a y.l y.c] 38) (some q)))
    clear hT hN hS h3 h4 hR hAi HF0 HRA HGA HSA HZA
    go_wp2_with fail
    generalize w1.alloc (.cells #[.int .u8 y.k, .int .u16 y.s, .slice y.a y.l y.c] 38) = W1 at *
    generalize w1.heap.size = z1 at *
    go_loopw [3] (fun s wr => ∃ (l : List (Ex m)) (j f : Nat) (ys : List Nd) (Ss : List (List Nat)), Mkg (r + 1) wr m l s ys Ss ∧ l.length ≤ j + 1 ∧ i ≤ j ∧ j ≤ L.size ∧ L.size < j + f ∧ Rd wr q L j ∧ w.grownBy wr (some q) ∧ St3 wr r 0 0 (.slice none 0 0) ∧ exprL L A f l j = R) (fun _ wr => L.size + 1 - posOf wr q)
    case atStart => exact ⟨[t0], j0, L.size + 1, _, _, HM1.out, by simp, hij0, hj0, by omega, HR1.out, HG1.out, HS1.out, HRR.out⟩
    case round =>
      obtain ⟨l, j, f, ys, Ss, hmk, hlj, hij, hj, hf, hrd, hg, hst, hal⟩ := hrel
      obtain ⟨f, rfl⟩ : ∃ f', f = f' + 1 := ⟨f - 1, by omega⟩
      have HAL := hide (show (if tk L j 124 = true then match A (j + 1) with
        | none => none
        | some (t, j2) => exprL L A f (l ++ [t]) j2
        else some (l, j)) = R from hal)
      have HRD := hide hrd
      have HG := hide hg
      have HST := hide hst
      have HM := hide hmk
      have HPO := hide (pos_rd hrd)
      clear hrd hg hst hmk hal
      go_wp2_with fail
      refine (takes_any q L j 124 wr hj hL HRD.out).mono ?_
      rintro e U ⟨rfl, h1, h2⟩
      have HM2 := hide (mkg_kept HM.out (keep_gb h2 (by have := HQR.out; omega)))
      have HG2 := hide (gb_trans HG.out h2)
      have HS2 := hide (st3_grown HST.out h2 (by simp; omega))
      clear h2 HM HRD HG HST
      cases ht : tk L j 124 with
      | false =>
        rw [nx_no ht] at h1
        have HR2 := hide h1
        rw [ht] at HAL
        have HFE := hide (show exprF L A i = some (togE 3 l, j) by rw [HF.out, ← HAL.out]; rfl)
        clear h1 ht HAL
        go_wp2_with fail
        refine (together_any (r + 1) 3 m l _ ys Ss U (by omega) (by omega) HM2.out).mono ?_
        rintro e w3 ⟨y', S', rfl, hT, hN, hS, hb⟩
        obtain ⟨m0, m1, m2, m3⟩ := st3_cells (st3_below HS2.out hb (st3_lt HS2.out))
        have m4 := m3 0
        have m5 := m3 1
        have m6 := m3 2
        have HRF := hide (rd_below HR2.out hb (rd_lt HR2.out))
        have HGF := hide (gb_trans HG2.out (gb_below (q := some q) hb))
        have HTF := hide hT
        have HNF := hide hN
        have HSF := hide hS
        clear hb m3 hT hN hS HM2 HR2 HG2 HS2
        go_wp2
        refine bodyPost_ret (v := .agg #[.int .u8 y'.k, .int .u16 y'.s, .slice y'.a y'.l y'.c]) (by simp [results, Tryz.results75, go_sem, m0, m1, m2]) rfl ?_
        rw [HFE.out]
        exact ⟨y', S', rfl, fin_tr HTF.out (fun b hb => by have := HSF.out b hb; omega) _ _ _, HNF.out, (fun b hb => by have := HSF.out b hb; have := HQ.out; omega), hij, hj, fin_rd HRF.out hqr _ _ _, fin_gb HGF.out (by have := HQ.out; omega) _ _ _⟩
      | true =>
        rw [nx_yes ht] at h1
        have hlt := tk_lt ht
        have HR2 := hide h1
        rw [ht] at HAL
        have HAL2 := hide (show (match A (j + 1) with
          | none => none
          | some (t, j2) => exprL L A f (l ++ [t]) j2) = R from HAL.out)
        clear h1 ht HAL
        go_wp2_with fail
        refine (HAA.out (j + 1) (by omega) hlt U HR2.out).mono ?_
        intro e w2 hout
        cases hIj : A (j + 1) with
        | none =>
          rw [hIj] at hout HAL2
          obtain ⟨rfl, h3⟩ := hout
          have HFE := hide (show exprF L A i = none by rw [HF.out, ← HAL2.out]; rfl)
          have HGF := hide (gb_trans HG2.out h3)
          clear h3 hIj HAL2
          go_wp2
          refine ⟨rfl, ?_⟩
          rw [HFE.out]
          exact ⟨rfl, HGF.out⟩
        | some p =>
          obtain ⟨t, j2⟩ := p
          rw [hIj] at hout HAL2
          obtain ⟨y', S', rfl, hT, hN, hS, hij2, hj2, h3, h4⟩ := hout
          have HAL3 := hide (show exprL L A f (l ++ [t]) j2 = R from HAL2.out)
          obtain ⟨ln, hln⟩ : ∃ ln, l.length = ln := ⟨_, rfl⟩
          have HLN := hide hln
          have hbU : r + 1 ≤ U.heap.size := st3_lt HS2.out
          have HOW := hide (show (w2.alloc (.cells #[.int .u8 y'.k, .int .u16 y'.s, .slice y'.a y'.l y'.c] 38)).ownsRow (r + 1) 38 3 u3 ln (cellsN ys) from by
            have ho := (mkg_kept HM2.out (keep_gb h4 (by have := HQR.out; omega))).1.alloc (.cells #[.int .u8 y'.k, .int .u16 y'.s, .slice y'.a y'.l y'.c] 38)
            rw [hln] at ho
            exact ho)
          have HNW := hide (one_newN w2 y' 38)
          have HBW := hide (show r + 1 ≤ (w2.alloc (.cells #[.int .u8 y'.k, .int .u16 y'.s, .slice y'.a y'.l y'.c] 38)).heap.size by have := h4.size; simp; omega)
          have HVB := hide (fun k (e : u3.ownBlock = some k) => (HM2.out.1.lt k e).1)
          have HMM := hide (fun (w3 : World) (g cap : Nat) (a1 : w3.ownsRow (r + 1) 38 3 (.slice (some ⟨g, 0, none⟩) (l.length + 1) cap) (l.length + 1) (cellsN ys ++ cellsO y')) a2 a3 => mkg_more (w3 := w3) (g := g) (cap := cap) HM2.out h4 (by have := HQR.out; omega) hbU hT hN hS (.cells #[.int .u8 y'.k, .int .u16 y'.s, .slice y'.a y'.l y'.c] 38) a1 a2 a3)
          have HR3 := hide (rd_alloc h3 (.cells #[.int .u8 y'.k, .int .u16 y'.s, .slice y'.a y'.l y'.c] 38))
          have HS3 := hide (st3_alloc (st3_grown HS2.out h4 (by simp; omega)) (.cells #[.int .u8 y'.k, .int .u16 y'.s, .slice y'.a y'.l y'.c] 38))
          have HG3 := hide (gb_trans (gb_trans HG2.out h4) (gb_alloc w2 (.cells #[.int .u8 y'.k, .int .u16 y'.s, .slice y'.a y'.l y'.c] 38) (some q)))
          rw [hln] at HMM hlj
          clear hT hN hS h3 h4 hIj HAL2 hln HM2 HR2 HG2 HS2
          go_wp2_with (at_builtin; refine wpList_append_lies _ rfl _ _ 22 rfl (r + 1) 38 i0 (.agg #[.int .u8 0, .int .u16 0, .slice none 0 0]) 3 32 Tryz.underlying22 hi0 hz0 hz1 hz2 rfl (by omega) u3 ln (cellsN ys) rfl HOW.out ⟨w2.heap.size, 0, none⟩ 1 1 (cellsO y') rfl rfl HNW.out (cellsO_one' y') (by omega) (by unfold maxLen; omega) (by omega) HBW.out (w2.heap.size + 1) (by simp) ?_)
          intro g cap w3 hown3 hgrow3 hat3 hlt3
          have HM3 := hide (HMM.out w3 g cap hown3 hgrow3 hat3)
          have HR4 := hide (rd_row HR3.out hgrow3 (fun e => by have := HVB.out q e.symm; have := HQR.out; omega))
          have HS4 := hide (st3_grown HS3.out hgrow3 (fun e => by have := HVB.out r e.symm; omega))
          have HG4 := hide (gb_row HG3.out hgrow3 (fun k e => by have := HVB.out k e; have := HQ.out; omega))
          have HPN := hide (pos_rd HR4.out)
          clear hown3 hgrow3 hat3 hlt3 HMM HOW HNW HBW HR3 HS3 HG3
          go_wp2
          exact ⟨⟨l ++ [t], j2, f, _, _, HM3.out, by have := HLN.out; simp; omega, by omega, hj2, by omega, HR4.out, HG4.out, HS4.out, HAL3.out⟩, by rw [HPN.out, HPO.out]; omega⟩

/-- An expression, within so many brackets. -/
def exprN (L : ByteArray) : (f : Nat) → Nat → Option (Ex (4 * f + 1) × Nat)
  | 0, _ => none
  | f + 1, i => exprF L (altF L (itemF L (onceF L (exprN L f)))) i
theorem exprN_any (q : Nat) (L : ByteArray) (hL : L.size ≤ 2000) : ∀ (f i : Nat) (w : World), i ≤ L.size → L.size < i + f → Rd w q L i →
    Calls Tryz.prog 75 #[.pointer (some ⟨q, 0, none⟩)] w fun e w' => OutE w q L i (4 * f + 1) (exprN L f i) e w'
  | 0, i, w, hi, hf, h => by omega
  | f + 1, i, w, hi, hf, h => by
    refine uexpr_any q L i (4 * f + 4) (altF L (itemF L (onceF L (exprN L f)))) w hi hL h ?_
    intro j hij hj u hu
    refine alt_any q L j (4 * f + 3) (itemF L (onceF L (exprN L f))) u hj hL hu ?_
    intro k hjk hk u2 hu2
    refine item_any q L k (4 * f + 1) (onceF L (exprN L f)) u2 hk hL hu2 ?_
    intro u3 hu3
    refine once_any q L k (4 * f) (exprN L f) u3 hk hL hu3 ?_
    intro ht u4 hu4
    exact exprN_any q L hL f (k + 1) u4 (tk_lt ht) (by omega) hu4
end Go.Proofs.YtccaknabpnpjaaaGreatDoor.A

/- Names; rules in memory; which rule may follow. -/
namespace Go.Proofs.YtccaknabpnpjaaaGreatDoor.A
open Go.RowKit
set_option linter.unusedVariables false

def sm8 (b : Nat) : Bool := decide (97 ≤ b) && decide (b ≤ 122)
/-- How many letters a to z a text has from a place on, with that place. -/
def smL (L : ByteArray) : Nat → Nat → Nat
  | 0, k => k
  | f + 1, k => if (decide (k < L.size) && sm8 (by8 L k)) = true then smL L f (k + 1) else k
def smF (L : ByteArray) : Nat := smL L (L.size + 1) 0
theorem smL_le {L : ByteArray} : ∀ (f k : Nat), k ≤ L.size → smL L f k ≤ L.size
  | 0, k, h => h
  | f + 1, k, h => by
    show (if (decide (k < L.size) && sm8 (by8 L k)) = true then smL L f (k + 1) else k) ≤ L.size
    by_cases hc : (decide (k < L.size) && sm8 (by8 L k)) = true
    · rw [if_pos hc]
      simp only [Bool.and_eq_true, decide_eq_true_eq] at hc
      exact smL_le f (k + 1) hc.1
    · rw [if_neg hc]; exact h
theorem smF_le (L : ByteArray) : smF L ≤ L.size := smL_le _ _ (Nat.zero_le _)

set_option maxHeartbeats 1600000 in
theorem smalls_any (L : ByteArray) (w : World) (hL : L.size ≤ 2000) : Calls Tryz.prog 76 #[.string L] w fun e w' => e = .returned (.int .i64 (smF L : Nat)) ∧ w' = w := by
  go_enter Tryz.func76, Tryz.ntmps76
  go_wp2_with fail
  go_loopw [3] (fun u wr => ∃ (k f : Nat), u = .int .i64 k ∧ k ≤ L.size ∧ L.size < k + f ∧ smL L f k = smF L ∧ w = wr) (fun u _ => L.size - (intOf u).toNat)
  case atStart => exact ⟨0, L.size + 1, rfl, Nat.zero_le _, by omega, rfl, rfl⟩
  case round =>
    obtain ⟨k, f, rfl, hk, hf, hs, rfl⟩ := hrel
    obtain ⟨f, rfl⟩ : ∃ f', f = f' + 1 := ⟨f - 1, by omega⟩
    have HS := hide (show (if (decide (k < L.size) && sm8 (by8 L k)) = true then smL L f (k + 1) else k) = smF L from hs)
    have hk0 : (0 : Int) ≤ (k : Int) := by omega
    clear hs
    by_cases hlt : k < L.size
    · have hlt' : (k : Int) < (L.size : Int) := by omega
      have e8 : by8 L k = (L[k]'hlt).toNat := by unfold by8; rw [dif_pos hlt]
      by_cases h97 : 97 ≤ (L[k]'hlt).toNat
      · have z1 : (97 : Int) ≤ ((L[k]'hlt).toNat : Int) := by omega
        by_cases h122 : (L[k]'hlt).toNat ≤ 122
        · have z2 : ((L[k]'hlt).toNat : Int) ≤ 122 := by omega
          have HS2 := hide (show smL L f (k + 1) = smF L from by rw [← HS.out, if_pos (by rw [e8]; simp [hlt, sm8, h97, h122])])
          clear HS e8 h97 h122
          go_wp2
          go_roundw
          case rel => exact ⟨k + 1, f, by go_num, by omega, by omega, HS2.out, trivial⟩
          case measure => simp [intOf]; omega
        · have z2 : ¬ ((L[k]'hlt).toNat : Int) ≤ 122 := by omega
          have HS2 := hide (show k = smF L from by rw [← HS.out, if_neg (by rw [e8]; simp [hlt, sm8, h97, h122])])
          clear HS e8 h97 h122
          go_wp2
          go_ret
          exact ⟨by rw [← HS2.out]; rfl, rfl⟩
      · have z1 : ¬ (97 : Int) ≤ ((L[k]'hlt).toNat : Int) := by omega
        have HS2 := hide (show k = smF L from by rw [← HS.out, if_neg (by rw [e8]; simp [hlt, sm8, h97])])
        clear HS e8 h97
        go_wp2
        go_ret
        exact ⟨by rw [← HS2.out]; rfl, rfl⟩
    · have e : k = L.size := by omega
      subst e
      have HS2 := hide (show L.size = smF L from by rw [← HS.out, if_neg (by simp)])
      clear HS
      go_wp2
      go_ret
      exact ⟨by rw [← HS2.out]; rfl, rfl⟩
/-- May a name be? -/
def nameB (L : ByteArray) : Bool := decide (1 ≤ L.size) && decide (L.size ≤ 16) && decide (smF L = L.size)
theorem nameRight_any (L : ByteArray) (w : World) (hL : L.size ≤ maxLen) : Calls Tryz.prog 57 #[.string L] w fun e w' => e = .returned (.bool (nameB L)) ∧ w' = w := by
  unfold maxLen at hL
  by_cases h1 : 1 ≤ L.size
  · have h1' : (1 : Int) ≤ (L.size : Int) := by omega
    by_cases h16 : L.size ≤ 16
    · have h16' : (L.size : Int) ≤ 16 := by omega
      have HN := hide (show nameB L = decide (smF L = L.size) by unfold nameB; simp [h1, h16])
      go_enter Tryz.func57, Tryz.ntmps57
      go_wp2_with fail
      refine (smalls_any L w (by omega)).mono ?_
      rintro e w1 ⟨rfl, hw⟩
      subst hw
      by_cases hs : smF L = L.size
      · have hs' : ((smF L : Int) == (L.size : Int)) = true := by simp; omega
        have HN2 := hide (show nameB L = true by rw [HN.out]; simpa using hs)
        clear hs HN
        go_wp2
        go_ret
        exact ⟨by rw [HN2.out]; rfl, rfl⟩
      · have hs' : ((smF L : Int) == (L.size : Int)) = false := by simp; omega
        have HN2 := hide (show nameB L = false by rw [HN.out]; simpa using hs)
        clear hs HN
        go_wp2
        go_ret
        exact ⟨by rw [HN2.out]; rfl, rfl⟩
    · have h16' : ¬ (L.size : Int) ≤ 16 := by omega
      have HN := hide (show nameB L = false by unfold nameB; simp [h16])
      go_enter Tryz.func57, Tryz.ntmps57
      go_wp2
      go_ret
      exact ⟨by rw [HN.out]; rfl, rfl⟩
  · have h1' : ¬ (1 : Int) ≤ (L.size : Int) := by omega
    have HN := hide (show nameB L = false by unfold nameB; simp [h1])
    go_enter Tryz.func57, Tryz.ntmps57
    go_wp2
    go_ret
    exact ⟨by rw [HN.out]; rfl, rfl⟩

/-- A rule. -/
structure Rl where
  nm : ByteArray
  n : Nat
  t : Ex n
  br : Bool
/-- A value is a rule, by its memory. -/
def Ru (w : World) (x : Rl) (v : Value) : Prop := ∃ (k s : Nat) (a : Option Addr) (l c : Nat), v = .agg #[.string x.nm, .int .u8 k, .int .u16 s, .slice a l c, .bool x.br] ∧ x.nm.size ≤ maxLen ∧ Rx w x.n x.t (.agg #[.int .u8 k, .int .u16 s, .slice a l c])
theorem ru_below {w w' : World} (hb : Below w.heap.size w w') {x : Rl} {v : Value} : Ru w x v → Ru w' x v := fun ⟨k, s, a, l, c, h1, h2, h3⟩ => ⟨k, s, a, l, c, h1, h2, rx_below hb _ _ _ h3⟩
/-- Rules at a slice. -/
def Rs (w : World) (a : Option Addr) (len : Nat) (l : List Rl) : Prop := l.length = len ∧ (len = 0 ∨ ∃ b off, a = some ⟨b, off, none⟩ ∧ ∀ (i : Nat) (x : Rl), l[i]? = some x → ∃ (k s : Nat) (a' : Option Addr) (l' c : Nat),
  w.cell? ⟨b, off + i * 5, none⟩ = some (.string x.nm) ∧ w.cell? ⟨b, off + i * 5 + 1, none⟩ = some (.int .u8 k) ∧ w.cell? ⟨b, off + i * 5 + 2, none⟩ = some (.int .u16 s) ∧ w.cell? ⟨b, off + i * 5 + 3, none⟩ = some (.slice a' l' c) ∧ w.cell? ⟨b, off + i * 5 + 4, none⟩ = some (.bool x.br) ∧ x.nm.size ≤ maxLen ∧ Rx w x.n x.t (.agg #[.int .u8 k, .int .u16 s, .slice a' l' c]))
theorem rs_below {w w' : World} (hb : Below w.heap.size w w') {a : Option Addr} {len : Nat} {l : List Rl} (h : Rs w a len l) : Rs w' a len l := by
  refine ⟨h.1, ?_⟩
  rcases h.2 with h0 | ⟨b, off, e, h2⟩
  · exact .inl h0
  · refine .inr ⟨b, off, e, fun i x hx => ?_⟩
    obtain ⟨k, s, a', l', c, p0, p1, p2, p3, p4, p5, p6⟩ := h2 i x hx
    exact ⟨k, s, a', l', c, (hb.cell (cell_lt p0)).trans p0, (hb.cell (cell_lt p1)).trans p1, (hb.cell (cell_lt p2)).trans p2, (hb.cell (cell_lt p3)).trans p3, (hb.cell (cell_lt p4)).trans p4, p5, rx_below hb _ _ _ p6⟩
/-- The first of them. -/
theorem rs_take {w : World} {a : Option Addr} {len : Nat} {l : List Rl} (h : Rs w a len l) (k : Nat) (hk : k ≤ len) : Rs w a k (l.take k) := by
  refine ⟨by rw [List.length_take, h.1]; omega, ?_⟩
  rcases h.2 with h0 | ⟨b, off, e, h2⟩
  · exact .inl (by omega)
  · refine .inr ⟨b, off, e, fun i x hx => h2 i x ?_⟩
    rw [List.getElem?_take] at hx
    by_cases q : i < k
    · rw [if_pos q] at hx; exact hx
    · rw [if_neg q] at hx; cases hx
theorem rs_open {w : World} {a : Option Addr} {len : Nat} {l : List Rl} (h : Rs w a len l) {i : Nat} (hi : i < len) : ∃ (x : Rl) (b off : Nat) (k s : Nat) (a' : Option Addr) (l' c : Nat), a = some ⟨b, off, none⟩ ∧ l[i]? = some x ∧
    w.cell? ⟨b, off + i * 5, none⟩ = some (.string x.nm) ∧ w.cell? ⟨b, off + i * 5 + 1, none⟩ = some (.int .u8 k) ∧ w.cell? ⟨b, off + i * 5 + 2, none⟩ = some (.int .u16 s) ∧ w.cell? ⟨b, off + i * 5 + 3, none⟩ = some (.slice a' l' c) ∧ w.cell? ⟨b, off + i * 5 + 4, none⟩ = some (.bool x.br) ∧ x.nm.size ≤ maxLen ∧ Rx w x.n x.t (.agg #[.int .u8 k, .int .u16 s, .slice a' l' c]) := by
  rcases h.2 with h0 | ⟨b, off, e, h2⟩
  · omega
  · have hx : l[i]? = some (l[i]'(by rw [h.1]; exact hi)) := by simp
    obtain ⟨k, s, a', l', c, p0, p1, p2, p3, p4, p5, p6⟩ := h2 i _ hx
    exact ⟨_, b, off, k, s, a', l', c, e, hx, p0, p1, p2, p3, p4, p5, p6⟩

def sameN (a b : ByteArray) : Bool := a.toList == b.toList
set_option maxHeartbeats 800000 in
theorem alike_any (x : Rl) (v : Value) (p : Nat) (nm : ByteArray) (w : World) (h : Ru w x v) (hp : w.cell? ⟨p, 0, none⟩ = some (.string nm)) :
    Calls Tryz.prog 56 #[v, .pointer (some ⟨p, 0, none⟩)] w fun e w' => e = .returned (.bool (sameN x.nm nm)) ∧ Below w.heap.size w w' := by
  obtain ⟨k, s, a, l, c, rfl, h2, h3⟩ := h
  have HB := hide ((Below.refl w.heap.size w).alloc (Nat.le_refl _) (.cells #[.string x.nm, .int .u8 k, .int .u16 s, .slice a l c, .bool x.br] 47))
  have hp2 := fun o => cell_allocU hp o
  go_enter Tryz.func56, Tryz.ntmps56
  go_wp2
  go_ret
  exact ⟨rfl, HB.out⟩
set_option maxHeartbeats 1600000 in
theorem ruleIdx_any (a : Option Addr) (len cap : Nat) (l : List Rl) (p : Nat) (nm : ByteArray) (w : World) (hl : len ≤ maxLen) (h : Rs w a len l) (hp : w.cell? ⟨p, 0, none⟩ = some (.string nm)) :
    Calls Tryz.prog 77 #[.slice a len cap, .func (.func 56) #[] #[.pointer (some ⟨p, 0, none⟩)]] w fun e w' => ∃ z : Int, e = .returned (.int .i64 z) ∧ decide (0 ≤ z) = l.any (fun x => sameN x.nm nm) ∧ Below w.heap.size w w' := by
  unfold maxLen at hl
  have HR := hide h
  have HP := hide hp
  clear h hp
  go_enter Tryz.func77, Tryz.ntmps77
  go_wp2_with fail
  go_loopw [5, 8] (fun _ u wr => ∃ i : Nat, i ≤ len ∧ u = .int .i64 i ∧ (l.take i).any (fun x => sameN x.nm nm) = false ∧ Below w.heap.size w wr) (fun _ u _ => len - (intOf u).toNat)
  case atStart => exact ⟨0, Nat.zero_le _, rfl, rfl, Below.refl _ _⟩
  case round =>
    obtain ⟨i, hi, rfl, hd, hb⟩ := hrel
    have HD := hide hd
    have HBW := hide hb
    clear hd
    by_cases hlt : i < len
    · obtain ⟨x, b, off, k, s, a', l', c, rfl, hx, p0, p1, p2, p3, p4, p5, p6⟩ := rs_open (rs_below hb HR.out) hlt
      have HN := hide (show (l.take (i + 1)).any (fun x => sameN x.nm nm) = sameN x.nm nm from by rw [take_at hx, List.any_append, HD.out]; simp)
      have HIN := hide (show sameN x.nm nm = true → l.any (fun x => sameN x.nm nm) = true from fun g => List.any_eq_true.2 ⟨x, List.mem_of_getElem? hx, g⟩)
      have HC := hide (alike_any x _ p nm wr ⟨k, s, a', l', c, rfl, p5, p6⟩ ((hb.cell (cell_lt HP.out)).trans HP.out))
      have i3 : (0 : Int) ≤ (i : Int) := by omega
      have i4 : (i : Int) < (len : Int) := by omega
      clear hx p6 hb
      go_wp2_with fail
      refine HC.out.mono ?_
      rintro e w2 ⟨rfl, hb2⟩
      have HB2 := hide (HBW.out.trans (hb2.mono HBW.out.size))
      clear hb2
      cases hf : sameN x.nm nm
      · have HF := hide hf
        clear hf
        go_wp2
        go_roundw
        case rel => exact ⟨i + 1, by omega, by go_num, by rw [HN.out, HF.out], HB2.out⟩
        case measure => simp [intOf]; omega
      · have HF := hide hf
        clear hf
        go_wp2
        go_ret
        exact ⟨(i : Int), rfl, by rw [HIN.out HF.out]; simp, HB2.out⟩
    · have e : i = len := by omega
      subst e
      have HT := hide (show l.take i = l from List.take_of_length_le (by have := HR.out.1; omega))
      clear hb
      go_wp2
      go_ret
      exact ⟨-1, rfl, by rw [← HT.out, HD.out]; rfl, HBW.out⟩
set_option maxHeartbeats 800000 in
theorem ruleHas_any (a : Option Addr) (len cap : Nat) (l : List Rl) (p : Nat) (nm : ByteArray) (w : World) (hl : len ≤ maxLen) (h : Rs w a len l) (hp : w.cell? ⟨p, 0, none⟩ = some (.string nm)) :
    Calls Tryz.prog 58 #[.slice a len cap, .func (.func 56) #[] #[.pointer (some ⟨p, 0, none⟩)]] w fun e w' => e = .returned (.bool (l.any (fun x => sameN x.nm nm))) ∧ Below w.heap.size w w' := by
  have HC := hide (ruleIdx_any a len cap l p nm w hl h hp)
  clear h hp
  go_enter Tryz.func58, Tryz.ntmps58
  go_wp2_with fail
  refine HC.out.mono ?_
  rintro e w2 ⟨z, rfl, hz, hb2⟩
  have HB := hide hb2
  clear hb2 HC
  cases hg : l.any (fun x => sameN x.nm nm)
  · have hz' : decide (0 ≤ z) = false := hz.trans hg
    have HG := hide hg
    clear hg hz
    go_wp2
    go_ret
    exact ⟨by rw [HG.out]; rfl, HB.out⟩
  · have hz' : decide (0 ≤ z) = true := hz.trans hg
    have HG := hide hg
    clear hg hz
    go_wp2
    go_ret
    exact ⟨by rw [HG.out]; rfl, HB.out⟩

/-- May a rule stand behind others? -/
def umayB (l : List Rl) (x : Rl) : Bool := nameB x.nm && !l.any (fun y => sameN y.nm x.nm) && rightE x.n x.t && !emptyE x.n x.t
set_option maxHeartbeats 3200000 in
theorem may_any (a : Option Addr) (len cap : Nat) (l : List Rl) (x : Rl) (v : Value) (w : World) (hl : len ≤ maxLen) (h : Rs w a len l) (hx : Ru w x v) :
    Calls Tryz.prog 35 #[.slice a len cap, v] w fun e w' => e = .returned (.bool (umayB l x)) ∧ Below w.heap.size w w' := by
  obtain ⟨k, s, a', l', c, rfl, h2, h3⟩ := hx
  have hmf : ∀ (fn : Fn) (first cap : Array Value) (w : World), (Instr.makeFunc fn first cap).run Tryz.prog w = .ok (.func fn first cap) w := fun _ _ _ _ => rfl
  have hB := ((Below.refl w.heap.size w).alloc (Nat.le_refl _) (.cells #[.string x.nm, .int .u8 k, .int .u16 s, .slice a' l' c, .bool x.br] 47))
  have HB := hide hB
  have HRS := hide (rs_below hB h)
  have HX := hide (rx_below hB _ _ _ h3)
  have HCE := hide (show (w.alloc (.cells #[.string x.nm, .int .u8 k, .int .u16 s, .slice a' l' c, .bool x.br] 47)).heap[w.heap.size]? = some (.cells #[.string x.nm, .int .u8 k, .int .u16 s, .slice a' l' c, .bool x.br] 47 (0, 0)) from heap_alloc_last w _)
  have HM := hide (show umayB l x = (nameB x.nm && !l.any (fun y => sameN y.nm x.nm) && rightE x.n x.t && !emptyE x.n x.t) from rfl)
  clear hB h h3
  go_enter Tryz.func35, Tryz.ntmps35
  go_wp2_with fail
  generalize w.alloc (.cells #[.string x.nm, .int .u8 k, .int .u16 s, .slice a' l' c, .bool x.br] 47) = W at *
  obtain ⟨p, hp⟩ : ∃ p, w.heap.size = p := ⟨_, rfl⟩
  rw [hp] at HCE HB ⊢
  have HPS := hide hp
  clear hp
  have q0 : W.cell? ⟨p, 0, none⟩ = some (.string x.nm) := by simp [World.cell?, HCE.out]
  refine (nameRight_any x.nm W h2).mono ?_
  rintro e w0 ⟨rfl, hw⟩
  subst hw
  cases hn : nameB x.nm with
  | false =>
    have HF := hide (show umayB l x = false by rw [HM.out, hn]; rfl)
    clear hn HM
    go_wp2
    go_ret
    exact ⟨by rw [HF.out]; rfl, by rw [HPS.out]; exact HB.out⟩
  | true =>
    rw [hn] at HM
    clear hn
    go_wp2_with fail
    refine (ruleHas_any a len cap l p x.nm w0 hl HRS.out q0).mono ?_
    rintro e w1 ⟨rfl, hb1⟩
    cases hh : l.any (fun y => sameN y.nm x.nm) with
    | true =>
      rw [hh] at HM
      have HF := hide (show umayB l x = false by rw [HM.out]; rfl)
      have HB1 := hide (HB.out.trans (hb1.mono (by have := HB.out.size; rw [HPS.out] at this; exact this)))
      clear hh HM hb1
      go_wp2
      go_ret
      exact ⟨by rw [HF.out]; rfl, by rw [HPS.out]; exact HB1.out⟩
    | false =>
      rw [hh] at HM
      have hCE1 := (hb1.block p (Array.getElem?_eq_some_iff.1 HCE.out).1).trans HCE.out
      have HX1 := hide (rx_below hb1 _ _ _ HX.out)
      have HB1 := hide (HB.out.trans (hb1.mono (by have := HB.out.size; rw [HPS.out] at this; exact this)))
      have q1 : w1.cell? ⟨p, 1, none⟩ = some (.int .u8 k) := by simp [World.cell?, hCE1]
      have q2 : w1.cell? ⟨p, 2, none⟩ = some (.int .u16 s) := by simp [World.cell?, hCE1]
      have q3 : w1.cell? ⟨p, 3, none⟩ = some (.slice a' l' c) := by simp [World.cell?, hCE1]
      have HCE1 := hide hCE1
      clear hh hb1 hCE1 HX HB HRS HCE q0
      go_wp2_with fail
      refine (right_any x.n x.t _ w1 HX1.out).mono ?_
      rintro e w2 ⟨rfl, hb2⟩
      have hps : p ≤ w1.heap.size := by have := (Array.getElem?_eq_some_iff.1 HCE1.out).1; omega
      have HB2 := hide (HB1.out.trans (hb2.mono hps))
      cases hr : rightE x.n x.t with
      | false =>
        rw [hr] at HM
        have HF := hide (show umayB l x = false by rw [HM.out]; rfl)
        clear hr HM hb2
        go_wp2
        go_ret
        exact ⟨by rw [HF.out]; rfl, by rw [HPS.out]; exact HB2.out⟩
      | true =>
        rw [hr] at HM
        have hCE2 := (hb2.block p (Array.getElem?_eq_some_iff.1 HCE1.out).1).trans HCE1.out
        have HX2 := hide (rx_below hb2 _ _ _ HX1.out)
        have HRI := hide hr
        have r1 : w2.cell? ⟨p, 1, none⟩ = some (.int .u8 k) := by simp [World.cell?, hCE2]
        have r2 : w2.cell? ⟨p, 2, none⟩ = some (.int .u16 s) := by simp [World.cell?, hCE2]
        have r3 : w2.cell? ⟨p, 3, none⟩ = some (.slice a' l' c) := by simp [World.cell?, hCE2]
        have hps2 : p ≤ w2.heap.size := Nat.le_trans hps hb2.size
        clear hr hb2 hCE2 HX1 HB1 HCE1 q1 q2 q3
        go_wp2_with fail
        refine (empty_any x.n x.t _ w2 HX2.out).mono ?_
        rintro e w3 ⟨rfl, hb3⟩
        rw [HRI.out]
        have HB3 := hide (HB2.out.trans (hb3.mono hps2))
        clear hb3
        cases he : emptyE x.n x.t with
        | false =>
          rw [he] at HM
          have HF := hide (show umayB l x = true by rw [HM.out]; rfl)
          clear he HM
          go_wp2
          go_ret
          exact ⟨by rw [HF.out]; rfl, by rw [HPS.out]; exact HB3.out⟩
        | true =>
          rw [he] at HM
          have HF := hide (show umayB l x = false by rw [HM.out]; rfl)
          clear he HM
          go_wp2
          go_ret
          exact ⟨by rw [HF.out]; rfl, by rw [HPS.out]; exact HB3.out⟩
end Go.Proofs.YtccaknabpnpjaaaGreatDoor.A
