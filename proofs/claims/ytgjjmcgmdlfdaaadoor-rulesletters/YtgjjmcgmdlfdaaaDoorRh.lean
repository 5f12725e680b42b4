/- The reader's alternative. -/
import Derived.Test.YtgjjmcgmdlfdaaaDoorRg
import Derived.OwnWalk
namespace Go.Proofs.YtgjjmcgmdlfdaaaDoor.A
open Go.RowKit
set_option linter.unusedVariables false

theorem gb_row {w W w3 : World} {q : Nat} {row : Option Nat} (h : w.grownBy W (some q)) (hg : W.grownBy w3 row) (hr : ∀ k, row = some k → w.heap.size ≤ k) : w.grownBy w3 (some q) :=
  ⟨hg.os.trans h.os, hg.tape.trans h.tape, hg.output.trans h.output, Nat.le_trans h.size hg.size, fun k hk hq => (hg.block k (Nat.lt_of_lt_of_le hk h.size) (fun e => by have := hr k e.symm; omega)).trans (h.block k hk hq)⟩
theorem rd_row {w w' : World} {q j : Nat} {L : ByteArray} {row : Option Nat} (h : Rd w q L j) (hg : w.grownBy w' row) (hr : some q ≠ row) : Rd w' q L j := (hg.block q (rd_lt h) hr).trans h
/-- One more. -/
theorem mkg_more {base q : Nat} {wr w2 w3 : World} {n : Nat} {l : List (Ex n)} {v : Value} {ys : List Nd} {Ss : List (List Nat)} (h : Mkg base wr n l v ys Ss) (hg : wr.grownBy w2 (some q)) (hq : q < base) (hbw : base ≤ wr.heap.size) {t : Ex n} {y : Nd} {S : List Nat} (hT : Tr w2 n t y S) (hN : S.Nodup) (hS : ∀ b ∈ S, wr.heap.size ≤ b) (o : Obj) {g cap : Nat}
    (hown : w3.ownsRow base 40 3 (.slice (some ⟨g, 0, none⟩) (l.length + 1) cap) (l.length + 1) (cellsN ys ++ cellsO y)) (hgrow : (w2.alloc o).grownBy w3 v.ownBlock) (hat : v.ownBlock = some g ∨ g = w2.heap.size + 1) :
    Mkg base w3 n (l ++ [t]) (.slice (some ⟨g, 0, none⟩) (l.length + 1) cap) (ys ++ [y]) (Ss ++ [S]) := by
  have h2 := mkg_kept h (keep_gb hg hq)
  have h3 := mkg_kept h2 (keep_below (B := base) ((Below.refl w2.heap.size w2).alloc (Nat.le_refl _) o))
  refine mkg_app h3 (tr_alloc hT o) hN (lo := wr.heap.size) (fun b hb => ⟨hS b hb, by have := tr_lt _ _ _ _ hT b hb; simp; omega⟩) hbw (fun b hb => (h.2.2.2.2.2.1 b hb).2) (fun g hg' => (h.1.lt g hg').2) hown hgrow (by simpa using hat)

/-- Items, as many as there are. -/
def altL (L : ByteArray) {m : Nat} (I : Nat → Option (Ex m × Nat)) : Nat → List (Ex m) → Nat → Option (List (Ex m) × Nat)
  | 0, _, _ => none
  | f + 1, l, j => if (decide (j < L.size) && !decide (by8 L j = 124) && !decide (by8 L j = 41)) = true then match I j with
      | none => none
      | some (t, j2) => altL L I f (l ++ [t]) j2
    else some (l, j)
def tgO (k : Nat) {m : Nat} (R : Option (List (Ex m) × Nat)) : Option (Ex (m + 1) × Nat) := match R with
  | none => none
  | some (l, j) => some (togE k l, j)
def altF (L : ByteArray) {m : Nat} (I : Nat → Option (Ex m × Nat)) (i : Nat) : Option (Ex (m + 1) × Nat) := tgO 2 (altL L I (L.size + 1) [] i)
theorem keep_drewN (B : Nat) (w : World) (n : Nat) : Keep B w (w.drewN n) := ⟨Nat.le_refl _, fun _ _ _ => rfl⟩

set_option maxHeartbeats 12800000 in
theorem alt_any (q : Nat) (L : ByteArray) (i m : Nat) (I : Nat → Option (Ex m × Nat)) (w : World) (hi : i ≤ L.size) (hL : L.size ≤ 2000) (h : Rd w q L i)
    (hI : ∀ j, i ≤ j → j ≤ L.size → ∀ u : World, Rd u q L j → Calls Tryd.prog 75 #[.pointer (some ⟨q, 0, none⟩)] u fun e w' => OutE u q L (j + 1) m (I j) e w') :
    Calls Tryd.prog 69 #[.pointer (some ⟨q, 0, none⟩)] w fun e w' => OutE w q L i (m + 1) (altF L I i) e w' := by
  obtain ⟨i0, hi0, hz0, hz1, hz2⟩ := info_parts info40
  have hq := rd_lt h
  have HRA := hide (rd_alloc h (.cells #[.int .u8 0, .int .u16 0, .slice none 0 0] 40))
  have HGA := hide (gb_alloc w (.cells #[.int .u8 0, .int .u16 0, .slice none 0 0] 40) (some q))
  have HSA := hide (st3_new w 0 0 (.slice none 0 0))
  have HZA := hide (show (w.alloc (.cells #[.int .u8 0, .int .u16 0, .slice none 0 0] 40)).heap.size = w.heap.size + 1 by simp)
  have HII := hide hI
  obtain ⟨R, hR⟩ : ∃ R, altL L I (L.size + 1) [] i = R := ⟨_, rfl⟩
  have HF := hide (show altF L I i = tgO 2 R from by rw [← hR]; rfl)
  have HRR := hide hR
  clear h hI hR
  go_enter Tryd.func69, Tryd.ntmps69
  go_wp2_with fail
  generalize w.alloc (.cells #[.int .u8 0, .int .u16 0, .slice none 0 0] 40) = W at *
  obtain ⟨r, hr⟩ : ∃ r, w.heap.size = r := ⟨_, rfl⟩
  rw [hr] at HSA HZA ⊢
  have HQ := hide hr
  have hqr : q ≠ r := by omega
  have HQR := hide (show q < r by omega)
  clear hr hq
  go_loopw [3] (fun s wr => ∃ (l : List (Ex m)) (j f : Nat) (ys : List Nd) (Ss : List (List Nat)), Mkg (r + 1) wr m l s ys Ss ∧ l.length ≤ j ∧ i ≤ j ∧ j ≤ L.size ∧ L.size < j + f ∧ Rd wr q L j ∧ w.grownBy wr (some q) ∧ St3 wr r 0 0 (.slice none 0 0) ∧ altL L I f l j = R) (fun _ wr => L.size + 1 - posOf wr q)
  case atStart => exact ⟨[], i, L.size + 1, [], [], mkg_nil _ _ _, Nat.zero_le _, Nat.le_refl _, hi, by omega, HRA.out, HGA.out, HSA.out, HRR.out⟩
  case round =>
    obtain ⟨l, j, f, ys, Ss, hmk, hlj, hij, hj, hf, hrd, hg, hst, hal⟩ := hrel
    obtain ⟨f, rfl⟩ : ∃ f', f = f' + 1 := ⟨f - 1, by omega⟩
    have HAL := hide (show (if (decide (j < L.size) && !decide (by8 L j = 124) && !decide (by8 L j = 41)) = true then match I j with
      | none => none
      | some (t, j2) => altL L I f (l ++ [t]) j2
      else some (l, j)) = R from hal)
    obtain ⟨p0, p1, f0, f1⟩ := rd_cells hrd
    have HRD := hide hrd
    have HG := hide hg
    have HST := hide hst
    have HM := hide hmk
    have HPO := hide (pos_rd hrd)
    have hj0 : (0 : Int) ≤ (j : Int) := by omega
    clear hrd hg hst hmk hal
    by_cases hgo : (decide (j < L.size) && !decide (by8 L j = 124) && !decide (by8 L j = 41)) = true
    · rw [hgo] at HAL
      have HAL2 := hide (show (match I j with
        | none => none
        | some (t, j2) => altL L I f (l ++ [t]) j2) = R from HAL.out)
      clear HAL
      simp only [Bool.and_eq_true, decide_eq_true_eq, Bool.not_eq_true', decide_eq_false_iff_not] at hgo
      obtain ⟨⟨hlt, h124⟩, h41⟩ := hgo
      have hlt' : (j : Int) < (L.size : Int) := by omega
      have g1 : decide ((j : Int) < (L.size : Int)) = true := by simp; omega
      have e8 : by8 L j = (L[j]'hlt).toNat := by unfold by8; rw [dif_pos hlt]
      rw [e8] at h124 h41
      have z1 : (((L[j]'hlt).toNat : Int) == 124) = false := by simp; omega
      have z2 : decide (((L[j]'hlt).toNat : Int) = 124) = false := by simp; omega
      have z3 : (((L[j]'hlt).toNat : Int) != 124) = true := by simp; omega
      have y1 : (((L[j]'hlt).toNat : Int) == 41) = false := by simp; omega
      have y2 : decide (((L[j]'hlt).toNat : Int) = 41) = false := by simp; omega
      have y3 : (((L[j]'hlt).toNat : Int) != 41) = true := by simp; omega
      clear e8 h124 h41
      go_wp2
      go_quiet (fail)
      go_wp2_with fail
      have HM2 := hide (mkg_kept HM.out (keep_drewN _ _ nq))
      have HR2 := hide (rd_drewN HRD.out nq)
      have HG2 := hide (gb_trans HG.out (gb_drewN wr (some q) nq))
      have HS2 := hide (show St3 (wr.drewN nq) r 0 0 (.slice none 0 0) from HST.out)
      clear HM HRD HG HST p0 p1 f0 f1
      generalize wr.drewN nq = U at *
      refine (HII.out j hij hj U HR2.out).mono ?_
      intro e w2 hout
      cases hIj : I j with
      | none =>
        rw [hIj] at hout HAL2
        obtain ⟨rfl, h3⟩ := hout
        have HFE := hide (show altF L I i = none by rw [HF.out, ← HAL2.out]; rfl)
        have HGF := hide (gb_trans HG2.out h3)
        clear h3 hIj HAL2
        go_wp2
        refine ⟨rfl, ?_⟩
        rw [HFE.out]
        exact ⟨rfl, HGF.out⟩
      | some p =>
        obtain ⟨t, j2⟩ := p
        rw [hIj] at hout HAL2
        obtain ⟨y, S, rfl, hT, hN, hS, hij2, hj2, h3, h4⟩ := hout
        have HAL3 := hide (show altL L I f (l ++ [t]) j2 = R from HAL2.out)
        obtain ⟨ln, hln⟩ : ∃ ln, l.length = ln := ⟨_, rfl⟩
        have HLN := hide hln
        have hbU : r + 1 ≤ U.heap.size := st3_lt HS2.out
        have HOW := hide (show (w2.alloc (.cells #[.int .u8 y.k, .int .u16 y.s, .slice y.a y.l y.c] 40)).ownsRow (r + 1) 40 3 u3 ln (cellsN ys) from by
          have ho := (mkg_kept HM2.out (keep_gb h4 (by have := HQR.out; omega))).1.alloc (.cells #[.int .u8 y.k, .int .u16 y.s, .slice y.a y.l y.c] 40)
          rw [hln] at ho
          exact ho)
        have HNW := hide (one_newN w2 y 40)
        have HBW := hide (show r + 1 ≤ (w2.alloc (.cells #[.int .u8 y.k, .int .u16 y.s, .slice y.a y.l y.c] 40)).heap.size by have := h4.size; simp; omega)
        have HVB := hide (fun k (e : u3.ownBlock = some k) => (HM2.out.1.lt k e).1)
        have HMM := hide (fun (w3 : World) (g cap : Nat) (a1 : w3.ownsRow (r + 1) 40 3 (.slice (some ⟨g, 0, none⟩) (l.length + 1) cap) (l.length + 1) (cellsN ys ++ cellsO y)) a2 a3 => mkg_more (w3 := w3) (g := g) (cap := cap) HM2.out h4 (by have := HQR.out; omega) hbU hT hN hS (.cells #[.int .u8 y.k, .int .u16 y.s, .slice y.a y.l y.c] 40) a1 a2 a3)
        have HR3 := hide (rd_alloc h3 (.cells #[.int .u8 y.k, .int .u16 y.s, .slice y.a y.l y.c] 40))
        have HS3 := hide (st3_alloc (st3_grown HS2.out h4 (by simp; omega)) (.cells #[.int .u8 y.k, .int .u16 y.s, .slice y.a y.l y.c] 40))
        have HG3 := hide (gb_trans (gb_trans HG2.out h4) (gb_alloc w2 (.cells #[.int .u8 y.k, .int .u16 y.s, .slice y.a y.l y.c] 40) (some q)))
        rw [hln] at HMM hlj
        clear hT hN hS h3 h4 hIj HAL2 hln HM2 HR2 HG2 HS2
        go_wp2_with (at_builtin; refine wpList_append_lies _ rfl _ _ 38 rfl (r + 1) 40 i0 (.agg #[.int .u8 0, .int .u16 0, .slice none 0 0]) 3 32 Tryd.underlying38 hi0 hz0 hz1 hz2 rfl (by omega) u3 ln (cellsN ys) rfl HOW.out ⟨w2.heap.size, 0, none⟩ 1 1 (cellsO y) rfl rfl HNW.out (cellsO_one' y) (by omega) (by unfold maxLen; omega) (by omega) HBW.out (w2.heap.size + 1) (by simp) ?_)
        intro g cap w3 hown3 hgrow3 hat3 hlt3
        have HM3 := hide (HMM.out w3 g cap hown3 hgrow3 hat3)
        have HR4 := hide (rd_row HR3.out hgrow3 (fun e => by have := HVB.out q e.symm; have := HQR.out; omega))
        have HS4 := hide (st3_grown HS3.out hgrow3 (fun e => by have := HVB.out r e.symm; omega))
        have HG4 := hide (gb_row HG3.out hgrow3 (fun k e => by have := HVB.out k e; have := HQ.out; omega))
        have HPN := hide (pos_rd HR4.out)
        clear hown3 hgrow3 hat3 hlt3 HMM HOW HNW HBW HR3 HS3 HG3
        go_wp2
        exact ⟨⟨l ++ [t], j2, f, _, _, HM3.out, by have := HLN.out; simp; omega, by omega, hj2, by omega, HR4.out, HG4.out, HS4.out, HAL3.out⟩, by rw [HPN.out, HPO.out]; omega⟩
    · have HFE := hide (show altF L I i = some (togE 2 l, j) by
        rw [HF.out, ← HAL.out, if_neg hgo]; rfl)
      clear HAL
      have hcase : (j = L.size) ∨ (∃ hlt : j < L.size, (L[j]'hlt).toNat = 124) ∨ (∃ hlt : j < L.size, (L[j]'hlt).toNat = 41 ∧ (L[j]'hlt).toNat ≠ 124) := by
        simp only [Bool.and_eq_true, decide_eq_true_eq, Bool.not_eq_true', decide_eq_false_iff_not] at hgo
        by_cases hlt : j < L.size
        · have e8 : by8 L j = (L[j]'hlt).toNat := by unfold by8; rw [dif_pos hlt]
          rw [e8] at hgo
          by_cases h1 : (L[j]'hlt).toNat = 124
          · exact .inr (.inl ⟨hlt, h1⟩)
          · exact .inr (.inr ⟨hlt, by
              by_cases h2 : (L[j]'hlt).toNat = 41
              · exact h2
              · exact absurd ⟨⟨hlt, h1⟩, h2⟩ hgo, h1⟩)
        · exact .inl (by omega)
      clear hgo
      rcases hcase with hA | ⟨hlt, hB⟩ | ⟨hlt, hB, hB2⟩
      · subst hA
        have g1 : decide ((L.size : Int) < (L.size : Int)) = false := by simp
        go_wp2
        go_quiet (fail)
        go_wp2_with fail
        have HM2 := hide (mkg_kept HM.out (keep_drewN _ _ nq))
        have HR2 := hide (rd_drewN HRD.out nq)
        have HG2 := hide (gb_trans HG.out (gb_drewN wr (some q) nq))
        have HS2 := hide (show St3 (wr.drewN nq) r 0 0 (.slice none 0 0) from HST.out)
        clear HM HRD HG HST
        generalize wr.drewN nq = U at *
        refine (together_any (r + 1) 2 m l _ ys Ss U (by omega) (by omega) HM2.out).mono ?_
        rintro e w3 ⟨y, S, rfl, hT, hN, hS, hb⟩
        obtain ⟨m0, m1, m2, m3⟩ := st3_cells (st3_below HS2.out hb (st3_lt HS2.out))
        have m4 := m3 0
        have m5 := m3 1
        have m6 := m3 2
        have HRF := hide (rd_below HR2.out hb (rd_lt HR2.out))
        have HGF := hide (gb_trans HG2.out (gb_below (q := some q) hb))
        have HTF := hide hT
        have HNF := hide hN
        have HSF := hide hS
        clear hb m3 hT hN hS HM2 HR2 HG2 HS2
        go_wp2
        refine bodyPost_ret (v := .agg #[.int .u8 y.k, .int .u16 y.s, .slice y.a y.l y.c]) (by simp [results, Tryd.results69, go_sem, m0, m1, m2]) rfl ?_
        rw [HFE.out]
        exact ⟨y, S, rfl, fin_tr HTF.out (fun b hb => by have := HSF.out b hb; omega) _ _ _, HNF.out, (fun b hb => by have := HSF.out b hb; have := HQ.out; omega), hij, hj, fin_rd HRF.out hqr _ _ _, fin_gb HGF.out (by have := HQ.out; omega) _ _ _⟩

      · have hlt' : (j : Int) < (L.size : Int) := by omega
        have g1 : decide ((j : Int) < (L.size : Int)) = true := by simp; omega
        have z1 : (((L[j]'hlt).toNat : Int) == 124) = true := by simp; omega
        have z2 : decide (((L[j]'hlt).toNat : Int) = 124) = true := by simp; omega
        have z3 : (((L[j]'hlt).toNat : Int) != 124) = false := by simp; omega
        clear hB
        go_wp2
        go_quiet (fail)
        go_wp2_with fail
        have HM2 := hide (mkg_kept HM.out (keep_drewN _ _ nq))
        have HR2 := hide (rd_drewN HRD.out nq)
        have HG2 := hide (gb_trans HG.out (gb_drewN wr (some q) nq))
        have HS2 := hide (show St3 (wr.drewN nq) r 0 0 (.slice none 0 0) from HST.out)
        clear HM HRD HG HST
        generalize wr.drewN nq = U at *
        refine (together_any (r + 1) 2 m l _ ys Ss U (by omega) (by omega) HM2.out).mono ?_
        rintro e w3 ⟨y, S, rfl, hT, hN, hS, hb⟩
        obtain ⟨m0, m1, m2, m3⟩ := st3_cells (st3_below HS2.out hb (st3_lt HS2.out))
        have m4 := m3 0
        have m5 := m3 1
        have m6 := m3 2
        have HRF := hide (rd_below HR2.out hb (rd_lt HR2.out))
        have HGF := hide (gb_trans HG2.out (gb_below (q := some q) hb))
        have HTF := hide hT
        have HNF := hide hN
        have HSF := hide hS
        clear hb m3 hT hN hS HM2 HR2 HG2 HS2
        go_wp2
        refine bodyPost_ret (v := .agg #[.int .u8 y.k, .int .u16 y.s, .slice y.a y.l y.c]) (by simp [results, Tryd.results69, go_sem, m0, m1, m2]) rfl ?_
        rw [HFE.out]
        exact ⟨y, S, rfl, fin_tr HTF.out (fun b hb => by have := HSF.out b hb; omega) _ _ _, HNF.out, (fun b hb => by have := HSF.out b hb; have := HQ.out; omega), hij, hj, fin_rd HRF.out hqr _ _ _, fin_gb HGF.out (by have := HQ.out; omega) _ _ _⟩

      · have hlt' : (j : Int) < (L.size : Int) := by omega
        have g1 : decide ((j : Int) < (L.size : Int)) = true := by simp; omega
        have z1 : (((L[j]'hlt).toNat : Int) == 124) = false := by simp; omega
        have z2 : decide (((L[j]'hlt).toNat : Int) = 124) = false := by simp; omega
        have z3 : (((L[j]'hlt).toNat : Int) != 124) = true := by simp; omega
        have y1 : (((L[j]'hlt).toNat : Int) == 41) = true := by simp; omega
        have y2 : decide (((L[j]'hlt).toNat : Int) = 41) = true := by simp; omega
        have y3 : (((L[j]'hlt).toNat : Int) != 41) = false := by simp; omega
        clear hB hB2
        go_wp2
        go_quiet (fail)
        go_wp2_with fail
        have HM2 := hide (mkg_kept HM.out (keep_drewN _ _ nq))
        have HR2 := hide (rd_drewN HRD.out nq)
        have HG2 := hide (gb_trans HG.out (gb_drewN wr (some q) nq))
        have HS2 := hide (show St3 (wr.drewN nq) r 0 0 (.slice none 0 0) from HST.out)
        clear HM HRD HG HST
        generalize wr.drewN nq = U at *
        refine (together_any (r + 1) 2 m l _ ys Ss U (by omega) (by omega) HM2.out).mono ?_
        rintro e w3 ⟨y, S, rfl, hT, hN, hS, hb⟩
        obtain ⟨m0, m1, m2, m3⟩ := st3_cells (st3_below HS2.out hb (st3_lt HS2.out))
        have m4 := m3 0
        have m5 := m3 1
        have m6 := m3 2
        have HRF := hide (rd_below HR2.out hb (rd_lt HR2.out))
        have HGF := hide (gb_trans HG2.out (gb_below (q := some q) hb))
        have HTF := hide hT
        have HNF := hide hN
        have HSF := hide hS
        clear hb m3 hT hN hS HM2 HR2 HG2 HS2
        go_wp2
        refine bodyPost_ret (v := .agg #[.int .u8 y.k, .int .u16 y.s, .slice y.a y.l y.c]) (by simp [results, Tryd.results69, go_sem, m0, m1, m2]) rfl ?_
        rw [HFE.out]
        exact ⟨y, S, rfl, fin_tr HTF.out (fun b hb => by have := HSF.out b hb; omega) _ _ _, HNF.out, (fun b hb => by have := HSF.out b hb; have := HQ.out; omega), hij, hj, fin_rd HRF.out hqr _ _ _, fin_gb HGF.out (by have := HQ.out; omega) _ _ _⟩

end Go.Proofs.YtgjjmcgmdlfdaaaDoor.A
