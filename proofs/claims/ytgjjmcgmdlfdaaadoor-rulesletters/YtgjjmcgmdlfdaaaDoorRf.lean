/- The reader's once, and the copy. -/
import Derived.Test.YtgjjmcgmdlfdaaaDoorRe
namespace Go.Proofs.YtgjjmcgmdlfdaaaDoor.A
open Go.RowKit
set_option linter.unusedVariables false

/-- What a call of the reader's that makes an expression answers. -/
def OutE (w : World) (q : Nat) (L : ByteArray) (i0 n : Nat) (R : Option (Ex n × Nat)) (e : Ending) (w' : World) : Prop := match R with
  | none => e = .panicked gave ∧ w.grownBy w' (some q)
  | some (t, j) => ∃ (y : Nd) (S : List Nat), e = .returned (.agg #[.int .u8 y.k, .int .u16 y.s, .slice y.a y.l y.c]) ∧ Tr w' n t y S ∧ S.Nodup ∧ (∀ b ∈ S, w.heap.size ≤ b) ∧ i0 ≤ j ∧ j ≤ L.size ∧ Rd w' q L j ∧ w.grownBy w' (some q)
theorem fin_gb {w w1 : World} {q r : Nat} (h : w.grownBy w1 (some q)) (hr : w.heap.size ≤ r) (a b c : Value) : w.grownBy (((w1.setCell ⟨r, 0, none⟩ a).setCell ⟨r, 1, none⟩ b).setCell ⟨r, 2, none⟩ c) (some q) := by
  refine ⟨h.os, h.tape, h.output, by simpa using h.size, fun k hk hq => ?_⟩
  rw [Below.heap_setCell _ _ _ _ (by simp; omega), Below.heap_setCell _ _ _ _ (by simp; omega), Below.heap_setCell _ _ _ _ (by simp; omega)]
  exact h.block k hk hq
theorem fin_rd {w1 : World} {q r j : Nat} {L : ByteArray} (h : Rd w1 q L j) (hr : q ≠ r) (a b c : Value) : Rd (((w1.setCell ⟨r, 0, none⟩ a).setCell ⟨r, 1, none⟩ b).setCell ⟨r, 2, none⟩ c) q L j := by
  unfold Rd at *
  rw [Below.heap_setCell _ _ _ _ (by simpa using hr), Below.heap_setCell _ _ _ _ (by simpa using hr), Below.heap_setCell _ _ _ _ (by simpa using hr)]
  exact h
theorem fin_tr {w1 : World} {n r : Nat} {t : Ex n} {y : Nd} {S : List Nat} (h : Tr w1 n t y S) (hr : ∀ b ∈ S, r < b) (a b c : Value) : Tr (((w1.setCell ⟨r, 0, none⟩ a).setCell ⟨r, 1, none⟩ b).setCell ⟨r, 2, none⟩ c) n t y S := by
  refine tr_keep n t y S (fun k hk => ?_) h
  have := hr k hk
  rw [Below.heap_setCell _ _ _ _ (by simp; omega), Below.heap_setCell _ _ _ _ (by simp; omega), Below.heap_setCell _ _ _ _ (by simp; omega)]
theorem gb_alloc (w : World) (o : Obj) (q : Option Nat) : w.grownBy (w.alloc o) q := gb_below ((Below.refl w.heap.size w).alloc (Nat.le_refl _) o)
theorem rd_alloc {w : World} {q i : Nat} {L : ByteArray} (h : Rd w q L i) (o : Obj) : Rd (w.alloc o) q L i := (Below.heap_alloc w o q (rd_lt h)).trans h
theorem tr_alloc {w : World} {n : Nat} {t : Ex n} {y : Nd} {S : List Nat} (h : Tr w n t y S) (o : Obj) : Tr (w.alloc o) n t y S := tr_keep n t y S (fun b hb => Below.heap_alloc _ _ _ (tr_lt n t y S h b hb)) h
theorem st3_new (w : World) (k s : Nat) (v : Value) : St3 (w.alloc (.cells #[.int .u8 k, .int .u16 s, v] 40)) w.heap.size k s v := heap_alloc_last w _
theorem st3_alloc {w : World} {b k s : Nat} {v : Value} (h : St3 w b k s v) (o : Obj) : St3 (w.alloc o) b k s v := (Below.heap_alloc w o b (st3_lt h)).trans h
theorem tr_leaf (w : World) (n k m : Nat) (hk : k < 256) (hm : m < 65536) : Tr w (n + 1) ((k, m, []) : Ex (n + 1)) ⟨k, m, none, 0, 0⟩ [] :=
  ⟨rfl, rfl, hk, hm, Nat.le_refl _, by show (0 : Nat) ≤ maxLen; unfold maxLen; omega, rfl, .inl ⟨rfl, rfl⟩⟩

theorem setL_lt {L : ByteArray} : ∀ (f s i s' j : Nat), setL L f s i = some (s', j) → i < j
  | 0, _, _, _, _, h => by cases h
  | f + 1, s, i, s', j, h => by
    have h' : (if tk L i 93 = true then some (s, i + 1) else match letF L i with
      | none => none
      | some m => if s &&& m = 0 then setL L f (s ||| m) (i + 1) else none) = some (s', j) := h
    by_cases ht : tk L i 93 = true
    · rw [if_pos ht] at h'
      cases h'
      omega
    · rw [if_neg ht] at h'
      cases hl : letF L i with
      | none => rw [hl] at h'; cases h'
      | some m =>
        rw [hl] at h'
        have h2 : (if s &&& m = 0 then setL L f (s ||| m) (i + 1) else none) = some (s', j) := h'
        by_cases h0 : s &&& m = 0
        · rw [if_pos h0] at h2
          have := setL_lt f _ _ _ _ h2
          omega
        · rw [if_neg h0] at h2; cases h2
theorem setF_lt {L : ByteArray} {i s' j : Nat} (h : setF L i = some (s', j)) : i < j := by
  unfold setF at h
  cases hl : letF L i with
  | none => rw [hl] at h; cases h
  | some m =>
    rw [hl] at h
    have := setL_lt _ _ _ _ _ h
    omega
/-- An item without what stands behind it. -/
def onceF (L : ByteArray) {n : Nat} (E : Nat → Option (Ex (n + 1) × Nat)) (i : Nat) : Option (Ex (n + 1) × Nat) :=
  if tk L i 40 = true then match E (i + 1) with
    | none => none
    | some (t, j) => if tk L j 41 = true then some (t, j + 1) else none
  else if tk L i 91 = true then match setF L (i + 1) with
    | none => none
    | some (s, j) => some ((1, s, []), j)
  else match letF L i with
    | none => none
    | some m => some ((1, m, []), i + 1)

set_option maxHeartbeats 6400000 in
theorem once_any (q : Nat) (L : ByteArray) (i n : Nat) (E : Nat → Option (Ex (n + 1) × Nat)) (w : World) (hi : i ≤ L.size) (hL : L.size ≤ 2000) (h : Rd w q L i)
    (hE : tk L i 40 = true → ∀ u : World, Rd u q L (i + 1) → Calls Tryd.prog 58 #[.pointer (some ⟨q, 0, none⟩)] u fun e w' => OutE u q L (i + 1) (n + 1) (E (i + 1)) e w') :
    Calls Tryd.prog 77 #[.pointer (some ⟨q, 0, none⟩)] w fun e w' => OutE w q L (i + 1) (n + 1) (onceF L E i) e w' := by
  have hq := rd_lt h
  have HRA := hide (rd_alloc h (.cells #[.int .u8 0, .int .u16 0, .slice none 0 0] 40))
  have HGA := hide (gb_alloc w (.cells #[.int .u8 0, .int .u16 0, .slice none 0 0] 40) (some q))
  have HSA := hide (st3_new w 0 0 (.slice none 0 0))
  have HO := hide (show onceF L E i = if tk L i 40 = true then (match E (i + 1) with
    | none => none
    | some (t, j) => if tk L j 41 = true then some (t, j + 1) else none)
    else if tk L i 91 = true then (match setF L (i + 1) with
    | none => none
    | some (s, j) => some ((1, s, []), j))
    else match letF L i with
    | none => none
    | some m => some ((1, m, []), i + 1) from rfl)
  have HE := hide hE
  clear h hE
  go_enter Tryd.func77, Tryd.ntmps77
  go_wp2_with fail
  generalize w.alloc (.cells #[.int .u8 0, .int .u16 0, .slice none 0 0] 40) = W at *
  obtain ⟨r, hr⟩ : ∃ r, w.heap.size = r := ⟨_, rfl⟩
  rw [hr] at HSA ⊢
  have HQ := hide hr
  have hqr : q ≠ r := by omega
  have HQR := hide (show q < r by omega)
  clear hr hq
  refine (takes_any q L i 40 W hi hL HRA.out).mono ?_
  rintro e w1 ⟨rfl, h1, h2⟩
  have HG1 := hide (gb_trans HGA.out h2)
  have HS1 := hide (st3_grown HSA.out h2 (by simp; omega))
  clear h2 HRA HGA HSA
  cases ht : tk L i 40 with
  | true =>
    rw [nx_yes ht] at h1
    have hlt := tk_lt ht
    have HC := hide (HE.out ht w1 h1)
    rw [ht] at HO
    have HR1 := hide h1
    clear h1 HE ht
    go_wp2_with fail
    refine HC.out.mono ?_
    intro e w2 hout
    cases hR : E (i + 1) with
    | none =>
      rw [hR] at hout HO
      obtain ⟨rfl, h3⟩ := hout
      have HG2 := hide (gb_trans HG1.out h3)
      have HF := hide (show onceF L E i = none from HO.out)
      clear h3 hR HO HC
      go_wp2
      refine ⟨rfl, ?_⟩
      rw [HF.out]
      exact ⟨rfl, HG2.out⟩
    | some p =>
      obtain ⟨t, j⟩ := p
      rw [hR] at hout HO
      obtain ⟨y, S, rfl, hT, hN, hS, hij, hj, h3, h4⟩ := hout
      have HG2 := hide (gb_trans (gb_trans HG1.out h4) (gb_alloc w2 (.cells #[.int .u8 y.k, .int .u16 y.s, .slice y.a y.l y.c] 40) (some q)))
      have HR2 := hide (rd_alloc h3 (.cells #[.int .u8 y.k, .int .u16 y.s, .slice y.a y.l y.c] 40))
      have HS2 := hide (st3_alloc (st3_grown HS1.out h4 (by simp; omega)) (.cells #[.int .u8 y.k, .int .u16 y.s, .slice y.a y.l y.c] 40))
      have HY := hide (st3_new w2 y.k y.s (.slice y.a y.l y.c))
      have HT := hide (tr_alloc hT (.cells #[.int .u8 y.k, .int .u16 y.s, .slice y.a y.l y.c] 40))
      have HN := hide hN
      have HSS := hide (show ∀ b ∈ S, r < b from fun b hb => by have := hS b hb; have := st3_lt HS1.out; omega)
      have hne : q ≠ w2.heap.size := by have := rd_lt h3; omega
      clear hT hN hS h3 h4 hR HC HR1 HG1 HS1
      go_wp2_with fail
      generalize w2.alloc (.cells #[.int .u8 y.k, .int .u16 y.s, .slice y.a y.l y.c] 40) = W2 at *
      generalize w2.heap.size = z at *
      cases ht2 : tk L j 41 with
      | false =>
        refine (need_no q L j 41 W2 hj hL HR2.out ht2).mono ?_
        rintro e w3 ⟨rfl, h5⟩
        rw [ht2] at HO
        have HF := hide (show onceF L E i = none from HO.out)
        have HG3 := hide (gb_trans HG2.out h5)
        clear h5 ht2 HO
        go_wp2
        refine ⟨rfl, ?_⟩
        rw [HF.out]
        exact ⟨rfl, HG3.out⟩
      | true =>
        refine (need_yes q L j 41 W2 hj hL HR2.out ht2).mono ?_
        rintro e w3 ⟨rfl, h5, h6⟩
        rw [ht2] at HO
        have HF := hide (show onceF L E i = some (t, j + 1) from HO.out)
        have HG3 := hide (gb_trans HG2.out h6)
        have HR3 := hide h5
        have hj2 := tk_lt ht2
        obtain ⟨m0, m1, m2, m3⟩ := st3_cells (st3_grown HS2.out h6 (by simp; omega))
        have m4 := m3 0
        have m5 := m3 1
        have m6 := m3 2
        obtain ⟨n0, n1, n2, -⟩ := st3_cells (st3_grown HY.out h6 (by simp; omega))
        have HT3 := hide (tr_keep _ _ _ _ (fun b hb => h6.block b (tr_lt _ _ _ _ HT.out b hb) (by
          intro e
          cases e
          have := HSS.out q hb
          have := HQR.out
          omega)) HT.out)
        clear h5 h6 m3 ht2 HO
        go_wp2
        refine bodyPost_ret (v := .agg #[.int .u8 y.k, .int .u16 y.s, .slice y.a y.l y.c]) (by simp [results, Tryd.results77, go_sem, m0, m1, m2]) rfl ?_
        rw [HF.out]
        exact ⟨y, S, rfl, fin_tr HT3.out HSS.out _ _ _, HN.out, (fun b hb => by have := HSS.out b hb; have := HQ.out; omega), by omega, hj2, fin_rd HR3.out hqr _ _ _, fin_gb HG3.out (by have := HQ.out; omega) _ _ _⟩
  | false =>
    rw [nx_no ht] at h1
    have HR1 := hide h1
    rw [ht] at HO
    clear h1 HE ht
    go_wp2_with fail
    refine (takes_any q L i 91 w1 hi hL HR1.out).mono ?_
    rintro e w2 ⟨rfl, h1, h2⟩
    have HG2 := hide (gb_trans HG1.out h2)
    have HS2 := hide (st3_grown HS1.out h2 (by simp; omega))
    clear h2 HR1 HG1 HS1
    cases ht : tk L i 91 with
    | true =>
      rw [nx_yes ht] at h1
      have hlt := tk_lt ht
      have HR2 := hide h1
      rw [ht] at HO
      clear h1 ht
      go_wp2_with fail
      refine (set_any q L (i + 1) w2 hlt hL HR2.out).mono ?_
      intro e w3 hout
      cases hR : setF L (i + 1) with
      | none =>
        rw [hR] at hout HO
        obtain ⟨rfl, h3⟩ := hout
        have HG3 := hide (gb_trans HG2.out h3)
        have HF := hide (show onceF L E i = none from HO.out)
        clear h3 hR HO
        go_wp2
        refine ⟨rfl, ?_⟩
        rw [HF.out]
        exact ⟨rfl, HG3.out⟩
      | some p =>
        obtain ⟨m, j⟩ := p
        rw [hR] at hout HO
        obtain ⟨rfl, hm, hj, h3, h4⟩ := hout
        have HF := hide (show onceF L E i = some ((1, m, []), j) from HO.out)
        have HG3 := hide (gb_trans HG2.out h4)
        have HR3 := hide h3
        obtain ⟨m0, m1, m2, m3⟩ := st3_cells (st3_grown HS2.out h4 (by simp; omega))
        have m4 := m3 0
        have m5 := m3 1
        have m6 := m3 2
        have hij := setF_lt hR
        clear h3 h4 m3 hR HO
        go_wp2
        refine bodyPost_ret (v := .agg #[.int .u8 1, .int .u16 m, .slice none 0 0]) (by simp [results, Tryd.results77, go_sem, m0, m1, m2]) rfl ?_
        rw [HF.out]
        exact ⟨⟨1, m, none, 0, 0⟩, [], rfl, tr_leaf _ n 1 m (by omega) hm, by simp, (fun b hb => by cases hb), by omega, hj, fin_rd HR3.out hqr _ _ _, fin_gb HG3.out (by have := HQ.out; omega) _ _ _⟩
    | false =>
      rw [nx_no ht] at h1
      have HR2 := hide h1
      rw [ht] at HO
      clear h1 ht
      cases hR : letF L i with
      | none =>
        rw [hR] at HO
        have HF := hide (show onceF L E i = none from HO.out)
        have HL := hide hR
        clear hR HO
        go_wp2_with fail
        refine (letter_no q L i w2 hi hL HR2.out HL.out).mono ?_
        rintro e w3 ⟨rfl, h3⟩
        have HG3 := hide (gb_trans HG2.out h3)
        clear h3
        go_wp2
        refine ⟨rfl, ?_⟩
        rw [HF.out]
        exact ⟨rfl, HG3.out⟩
      | some m =>
        obtain ⟨hlt, k, hk, hc, rfl⟩ := letF_some hR
        have hm := letF_lt hR
        rw [hR] at HO
        have HF := hide (show onceF L E i = some ((1, 2 ^ k, []), i + 1) from HO.out)
        have HC := hide hc
        clear hR HO hc
        go_wp2_with fail
        refine (letter_yes q L i w2 hlt hL HR2.out k HC.out hk).mono ?_
        rintro e w3 ⟨rfl, h3, h4⟩
        have HG3 := hide (gb_trans HG2.out h4)
        have HR3 := hide h3
        obtain ⟨m0, m1, m2, m3⟩ := st3_cells (st3_grown HS2.out h4 (by simp; omega))
        have m4 := m3 0
        have m5 := m3 1
        have m6 := m3 2
        clear h3 h4 m3
        generalize 2 ^ k = m at *
        go_wp2
        refine bodyPost_ret (v := .agg #[.int .u8 1, .int .u16 m, .slice none 0 0]) (by simp [results, Tryd.results77, go_sem, m0, m1, m2]) rfl ?_
        rw [HF.out]
        exact ⟨⟨1, m, none, 0, 0⟩, [], rfl, tr_leaf _ n 1 m (by omega) hm, by simp, (fun b hb => by cases hb), by omega, hlt, fin_rd HR3.out hqr _ _ _, fin_gb HG3.out (by have := HQ.out; omega) _ _ _⟩

set_option maxHeartbeats 1600000 in
theorem copied_no (n : Nat) (t : Ex n) (v : Value) (w : World) (h : Rx w n t v) (hr : rightE n t = false) :
    Calls Tryd.prog 78 #[v] w fun e w' => e = .panicked gave ∧ Below w.heap.size w w' := by
  obtain ⟨c0, c1, c2, rfl⟩ := rx_form h
  obtain ⟨kx, sx, ax, lx, cx, rfl, rfl, rfl⟩ := rx_cells h
  have HX := hide h
  have HR := hide hr
  have HB0 := hide (((Below.refl w.heap.size w).alloc (Nat.le_refl _) (.cells #[.int .u8 kx, .int .u16 sx, .slice ax lx cx] 40)).alloc (by simp) (.cells #[.int .u8 0, .int .u16 0, .slice none 0 0] 40))
  clear h hr
  go_enter Tryd.func78, Tryd.ntmps78
  go_wp2_with fail
  refine (right_any n t _ _ (rx_below HB0.out n t _ HX.out)).mono ?_
  rintro e w1 ⟨rfl, hb1⟩
  rw [HR.out]
  have HB1 := hide (HB0.out.trans (hb1.mono HB0.out.size))
  clear hb1
  go_wp2
  exact ⟨rfl, rfl, HB1.out⟩
set_option maxHeartbeats 1600000 in
theorem copied_yes (n : Nat) (t : Ex n) (v : Value) (w : World) (h : Rx w n t v) (hr : rightE n t = true) :
    Calls Tryd.prog 78 #[v] w fun e w' => Makes w n t e w' := by
  have hri := (right_iff (rx_full n t _ h)).1 hr
  obtain ⟨c0, c1, c2, rfl⟩ := rx_form h
  obtain ⟨kx, sx, ax, lx, cx, rfl, rfl, rfl⟩ := rx_cells h
  have HX := hide h
  have HR := hide hr
  have HRI := hide hri
  have HB0 := hide (((Below.refl w.heap.size w).alloc (Nat.le_refl _) (.cells #[.int .u8 kx, .int .u16 sx, .slice ax lx cx] 40)).alloc (by simp) (.cells #[.int .u8 0, .int .u16 0, .slice none 0 0] 40))
  have HA := hide (st3_alloc (st3_new w kx sx (.slice ax lx cx)) (.cells #[.int .u8 0, .int .u16 0, .slice none 0 0] 40))
  have HST := hide (st3_new (w.alloc (.cells #[.int .u8 kx, .int .u16 sx, .slice ax lx cx] 40)) 0 0 (.slice none 0 0))
  have HZ := hide (show (w.alloc (.cells #[.int .u8 kx, .int .u16 sx, .slice ax lx cx] 40)).heap.size = w.heap.size + 1 by simp)
  clear h hr hri
  go_enter Tryd.func78, Tryd.ntmps78
  go_wp2_with fail
  rw [HZ.out] at HST
  generalize (w.alloc (.cells #[.int .u8 kx, .int .u16 sx, .slice ax lx cx] 40)).alloc (.cells #[.int .u8 0, .int .u16 0, .slice none 0 0] 40) = W at *
  refine (right_any n t _ W (rx_below HB0.out n t _ HX.out)).mono ?_
  rintro e w1 ⟨rfl, hb1⟩
  rw [HR.out]
  have hA := st3_below HA.out hb1 (st3_lt HA.out)
  have hST := st3_below HST.out hb1 (st3_lt HST.out)
  obtain ⟨r0, r1, r2, -⟩ := st3_cells hA
  have HST1 := hide hST
  have HB1 := hide (HB0.out.trans (hb1.mono HB0.out.size))
  clear hb1 hA hST HA HST HB0
  go_wp2_with fail
  refine (dup_any n t _ w1 (rx_below HB1.out n t _ HX.out) HRI.out.2.2 (by have := HRI.out.1; omega)).mono ?_
  rintro e w2 ⟨y, S, rfl, hT, hN, hS, hb⟩
  have hst := st3_below HST1.out hb (st3_lt HST1.out)
  obtain ⟨m0, m1, m2, m3⟩ := st3_cells hst
  have m4 := m3 0
  have m5 := m3 1
  have m6 := m3 2
  have HT := hide hT
  have HN := hide hN
  have HS := hide hS
  have HB2 := hide (HB1.out.trans (hb.mono HB1.out.size))
  have HL := hide (st3_lt HST1.out)
  clear hT hN hS hb hst m3 HST1
  go_wp2
  refine bodyPost_ret (v := .agg #[.int .u8 y.k, .int .u16 y.s, .slice y.a y.l y.c]) (by simp [results, Tryd.results78, go_sem, m0, m1, m2]) rfl ?_
  refine ⟨y, S, rfl, fin_tr HT.out (fun b hb => by have := HS.out b hb; have := HL.out; omega) _ _ _, HN.out, (fun b hb => by have := HS.out b hb; have := HB1.out.size; omega), ((HB2.out.setCell (by simp) _).setCell (by simp) _).setCell (by simp) _⟩
end Go.Proofs.YtgjjmcgmdlfdaaaDoor.A
