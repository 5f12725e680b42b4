/- The reader's item. -/
import Derived.Test.YtgjjmcgmdlfdaaaDoorRf
namespace Go.Proofs.YtgjjmcgmdlfdaaaDoor.A
open Go.RowKit
set_option linter.unusedVariables false

theorem tr_node1 {w : World} {n k : Nat} {t : Ex n} {y : Nd} {S : List Nat} (h : Tr w n t y S) (hk : k < 256) :
    Tr (w.alloc (.cells #[.int .u8 y.k, .int .u16 y.s, .slice y.a y.l y.c] 40)) (n + 1) ((k, 0, [t]) : Ex (n + 1)) ⟨k, 0, some ⟨w.heap.size, 0, none⟩, 1, 1⟩ (w.heap.size :: S) := by
  refine ⟨rfl, rfl, hk, by show (0 : Nat) < 65536; omega, Nat.le_refl _, by show (1 : Nat) ≤ maxLen; unfold maxLen; omega, rfl, .inr ⟨w.heap.size, _, [y], [S], rfl, heap_alloc_last w _, by simp [cellsN, cellsO], rfl, rfl, by simp, fun i e y' T he hy hT => ?_⟩⟩
  match i with
  | 0 =>
    have he' : [t][0]? = some e := he
    simp only [List.getElem?_cons_zero, Option.some.injEq] at he' hy hT
    subst he'; subst hy; subst hT
    exact tr_alloc h _
  | i + 1 => simp at hy
theorem tr_node2 {w : World} {n k : Nat} {t1 t2 : Ex n} {y1 y2 : Nd} {S1 S2 : List Nat} (h1 : Tr w n t1 y1 S1) (h2 : Tr w n t2 y2 S2) (hk : k < 256) :
    Tr (w.alloc (.cells #[.int .u8 y1.k, .int .u16 y1.s, .slice y1.a y1.l y1.c, .int .u8 y2.k, .int .u16 y2.s, .slice y2.a y2.l y2.c] 40)) (n + 1) ((k, 0, [t1, t2]) : Ex (n + 1)) ⟨k, 0, some ⟨w.heap.size, 0, none⟩, 2, 2⟩ (w.heap.size :: (S1 ++ S2)) := by
  refine ⟨rfl, rfl, hk, by show (0 : Nat) < 65536; omega, Nat.le_refl _, by show (2 : Nat) ≤ maxLen; unfold maxLen; omega, rfl, .inr ⟨w.heap.size, _, [y1, y2], [S1, S2], rfl, heap_alloc_last w _, by simp [cellsN, cellsO], rfl, rfl, by simp, fun i e y' T he hy hT => ?_⟩⟩
  match i with
  | 0 =>
    have he' : [t1, t2][0]? = some e := he
    simp only [List.getElem?_cons_zero, Option.some.injEq] at he' hy hT
    subst he'; subst hy; subst hT
    exact tr_alloc h1 _
  | 1 =>
    have he' : [t1, t2][1]? = some e := he
    simp only [List.getElem?_cons_zero, List.getElem?_cons_succ, Option.some.injEq] at he' hy hT
    subst he'; subst hy; subst hT
    exact tr_alloc h2 _
  | i + 2 => simp at hy
theorem tr_gb {w w' : World} {q n : Nat} {t : Ex n} {y : Nd} {S : List Nat} (h : Tr w n t y S) (hg : w.grownBy w' (some q)) (hS : ∀ b ∈ S, q < b) : Tr w' n t y S :=
  tr_keep n t y S (fun b hb => hg.block b (tr_lt n t y S h b hb) (by intro e; cases e; have := hS q hb; omega)) h
theorem tr_below {w w' : World} {n : Nat} {t : Ex n} {y : Nd} {S : List Nat} (h : Tr w n t y S) (hg : Below w.heap.size w w') : Tr w' n t y S :=
  tr_keep n t y S (fun b hb => hg.block b (tr_lt n t y S h b hb)) h

/-- An item, and how often. -/
def itemF (L : ByteArray) {n : Nat} (O : Nat → Option (Ex n × Nat)) (i : Nat) : Option (Ex (n + 2) × Nat) := match O i with
  | none => none
  | some (t, j) => if tk L j 42 = true then some ((4, 0, [liftE n t]), j + 1)
    else if tk L j 63 = true then some ((5, 0, [liftE n t]), j + 1)
    else if tk L j 43 = true then (if rightE n t = true then some ((2, 0, [liftE n t, ((4, 0, [t]) : Ex (n + 1))]), j + 1) else none)
    else some (liftE (n + 1) (liftE n t), j)

set_option maxHeartbeats 12800000 in
theorem item_any (q : Nat) (L : ByteArray) (i n : Nat) (O : Nat → Option (Ex n × Nat)) (w : World) (hi : i ≤ L.size) (hL : L.size ≤ 2000) (h : Rd w q L i)
    (hO : ∀ u : World, Rd u q L i → Calls Tryd.prog 77 #[.pointer (some ⟨q, 0, none⟩)] u fun e w' => OutE u q L (i + 1) n (O i) e w') :
    Calls Tryd.prog 75 #[.pointer (some ⟨q, 0, none⟩)] w fun e w' => OutE w q L (i + 1) (n + 2) (itemF L O i) e w' := by
  have hq := rd_lt h
  have HRA := hide (rd_alloc h (.cells #[.int .u8 0, .int .u16 0, .slice none 0 0] 40))
  have HGA := hide (gb_alloc w (.cells #[.int .u8 0, .int .u16 0, .slice none 0 0] 40) (some q))
  have HSA := hide (st3_new w 0 0 (.slice none 0 0))
  have HIF := hide (show itemF L O i = match O i with
    | none => none
    | some (t, j) => if tk L j 42 = true then some ((4, 0, [liftE n t]), j + 1)
      else if tk L j 63 = true then some ((5, 0, [liftE n t]), j + 1)
      else if tk L j 43 = true then (if rightE n t = true then some ((2, 0, [liftE n t, ((4, 0, [t]) : Ex (n + 1))]), j + 1) else none)
      else some (liftE (n + 1) (liftE n t), j) from rfl)
  have HO := hide hO
  clear h hO
  go_enter Tryd.func75, Tryd.ntmps75
  go_wp2_with fail
  generalize w.alloc (.cells #[.int .u8 0, .int .u16 0, .slice none 0 0] 40) = W at *
  obtain ⟨r, hr⟩ : ∃ r, w.heap.size = r := ⟨_, rfl⟩
  rw [hr] at HSA ⊢
  have HQ := hide hr
  have hqr : q ≠ r := by omega
  have HQR := hide (show q < r by omega)
  clear hr hq
  refine (HO.out W HRA.out).mono ?_
  intro e w1 hout
  cases hR : O i with
  | none =>
    rw [hR] at hout HIF
    obtain ⟨rfl, h3⟩ := hout
    have HG2 := hide (gb_trans HGA.out h3)
    have HF := hide (show itemF L O i = none from HIF.out)
    clear h3 hR HIF HO
    go_wp2
    refine ⟨rfl, ?_⟩
    rw [HF.out]
    exact ⟨rfl, HG2.out⟩
  | some p =>
    obtain ⟨t, j⟩ := p
    rw [hR] at hout HIF
    obtain ⟨y, S, rfl, hT, hN, hS, hij, hj, h3, h4⟩ := hout
    have HIF2 := hide (show itemF L O i = if tk L j 42 = true then some ((4, 0, [liftE n t]), j + 1)
      else if tk L j 63 = true then some ((5, 0, [liftE n t]), j + 1)
      else if tk L j 43 = true then (if rightE n t = true then some ((2, 0, [liftE n t, ((4, 0, [t]) : Ex (n + 1))]), j + 1) else none)
      else some (liftE (n + 1) (liftE n t), j) from HIF.out)
    have HG2 := hide (gb_trans (gb_trans HGA.out h4) (gb_alloc w1 (.cells #[.int .u8 y.k, .int .u16 y.s, .slice y.a y.l y.c] 40) (some q)))
    have HR2 := hide (rd_alloc h3 (.cells #[.int .u8 y.k, .int .u16 y.s, .slice y.a y.l y.c] 40))
    have HS2 := hide (st3_alloc (st3_grown HSA.out h4 (by simp; omega)) (.cells #[.int .u8 y.k, .int .u16 y.s, .slice y.a y.l y.c] 40))
    have HY := hide (st3_new w1 y.k y.s (.slice y.a y.l y.c))
    have HT := hide (tr_alloc hT (.cells #[.int .u8 y.k, .int .u16 y.s, .slice y.a y.l y.c] 40))
    have HN := hide hN
    have HSS := hide (show ∀ b ∈ S, r < b from fun b hb => by have := hS b hb; have := st3_lt HSA.out; omega)
    have HSQ := hide (show ∀ b ∈ S, q < b from fun b hb => by have := HSS.out b hb; have := HQR.out; omega)
    have HRZ := hide (show r < w1.heap.size by have := st3_lt HSA.out; have := h4.size; omega)
    have hne : q ≠ w1.heap.size := by have := rd_lt h3; omega
    clear hT hN hS h3 h4 hR HO HIF HGA HRA HSA
    go_wp2_with fail
    generalize w1.alloc (.cells #[.int .u8 y.k, .int .u16 y.s, .slice y.a y.l y.c] 40) = W2 at *
    generalize w1.heap.size = z at *
    refine (takes_any q L j 42 W2 hj hL HR2.out).mono ?_
    rintro e w2 ⟨rfl, h1, h2⟩
    have HG3 := hide (gb_trans HG2.out h2)
    have HS3 := hide (st3_grown HS2.out h2 (by simp; omega))
    have HY3 := hide (st3_grown HY.out h2 (by simp; omega))
    have HT3 := hide (tr_gb HT.out h2 HSQ.out)
    clear h2 HR2 HG2 HS2 HY HT
    cases ht : tk L j 42 with
    | true =>
      rw [nx_yes ht] at h1
      have hlt := tk_lt ht
      have HR3 := hide h1
      rw [ht] at HIF2
      have HF := hide (show itemF L O i = some ((4, 0, [liftE n t]), j + 1) from HIF2.out)
      obtain ⟨n0, n1, n2, -⟩ := st3_cells HY3.out
      have HTN := hide (tr_node1 (k := 4) (tr_lift n t y S HT3.out) (by omega))
      have HGN := hide (gb_trans HG3.out (gb_alloc w2 (.cells #[.int .u8 y.k, .int .u16 y.s, .slice y.a y.l y.c] 40) (some q)))
      have HSN := hide (st3_alloc HS3.out (.cells #[.int .u8 y.k, .int .u16 y.s, .slice y.a y.l y.c] 40))
      have HRN := hide (rd_alloc HR3.out (.cells #[.int .u8 y.k, .int .u16 y.s, .slice y.a y.l y.c] 40))
      have HZ2 := hide (show r < w2.heap.size from st3_lt HS3.out)
      have HND := hide (List.nodup_cons.2 ⟨fun hm => Nat.lt_irrefl _ (tr_lt n t y S HT3.out _ hm), HN.out⟩)
      clear h1 ht HIF2 HS3 HT3 HR3 HG3
      go_wp2_with fail
      generalize w2.alloc (.cells #[.int .u8 y.k, .int .u16 y.s, .slice y.a y.l y.c] 40) = W3 at *
      generalize w2.heap.size = z2 at *
      refine (mknode_any 4 _ _ _ W3).mono ?_
      rintro e w3 ⟨rfl, hb⟩
      obtain ⟨m0, m1, m2, m3⟩ := st3_cells (st3_below HSN.out hb (st3_lt HSN.out))
      have m4 := m3 0
      have m5 := m3 1
      have m6 := m3 2
      have HRF := hide (rd_below HRN.out hb (rd_lt HRN.out))
      have HGF := hide (gb_trans HGN.out (gb_below (q := some q) hb))
      have HTF := hide (tr_below HTN.out hb)
      clear hb m3 HSN HRN HGN HTN n0 n1 n2
      go_wp2
      refine bodyPost_ret (v := .agg #[.int .u8 4, .int .u16 0, .slice (some ⟨z2, 0, none⟩) 1 1]) (by simp [results, Tryd.results75, go_sem, m0, m1, m2]) rfl ?_
      rw [HF.out]
      exact ⟨⟨4, 0, some ⟨z2, 0, none⟩, 1, 1⟩, _, rfl, fin_tr HTF.out (fun b hb => by rcases List.mem_cons.1 hb with rfl | hb; exact HZ2.out; exact HSS.out b hb) _ _ _, HND.out, (fun b hb => by have := HQ.out; rcases List.mem_cons.1 hb with rfl | hb; (have := HZ2.out; omega); (have := HSS.out b hb; omega)), by omega, hlt, fin_rd HRF.out hqr _ _ _, fin_gb HGF.out (by have := HQ.out; omega) _ _ _⟩
    | false =>
      rw [nx_no ht] at h1
      have HR3 := hide h1
      rw [ht] at HIF2
      clear h1 ht
      go_wp2_with fail
      refine (takes_any q L j 63 w2 hj hL HR3.out).mono ?_
      rintro e wB ⟨rfl, h1, h2⟩
      have HG4 := hide (gb_trans HG3.out h2)
      have HS4 := hide (st3_grown HS3.out h2 (by simp; omega))
      have HY4 := hide (st3_grown HY3.out h2 (by simp; omega))
      have HT4 := hide (tr_gb HT3.out h2 HSQ.out)
      clear h2 HR3 HG3 HS3 HY3 HT3
      have HG3 := HG4
      have HS3 := HS4
      have HY3 := HY4
      have HT3 := HT4
      clear HG4 HS4 HY4 HT4
      cases ht : tk L j 63 with
      | true =>
        rw [nx_yes ht] at h1
        have hlt := tk_lt ht
        have HR3 := hide h1
        rw [ht] at HIF2
        have HF := hide (show itemF L O i = some ((5, 0, [liftE n t]), j + 1) from HIF2.out)
        obtain ⟨n0, n1, n2, -⟩ := st3_cells HY3.out
        have HTN := hide (tr_node1 (k := 5) (tr_lift n t y S HT3.out) (by omega))
        have HGN := hide (gb_trans HG3.out (gb_alloc wB (.cells #[.int .u8 y.k, .int .u16 y.s, .slice y.a y.l y.c] 40) (some q)))
        have HSN := hide (st3_alloc HS3.out (.cells #[.int .u8 y.k, .int .u16 y.s, .slice y.a y.l y.c] 40))
        have HRN := hide (rd_alloc HR3.out (.cells #[.int .u8 y.k, .int .u16 y.s, .slice y.a y.l y.c] 40))
        have HZ2 := hide (show r < wB.heap.size from st3_lt HS3.out)
        have HND := hide (List.nodup_cons.2 ⟨fun hm => Nat.lt_irrefl _ (tr_lt n t y S HT3.out _ hm), HN.out⟩)
        clear h1 ht HIF2 HS3 HT3 HR3 HG3
        go_wp2_with fail
        generalize wB.alloc (.cells #[.int .u8 y.k, .int .u16 y.s, .slice y.a y.l y.c] 40) = WC at *
        generalize wB.heap.size = zB at *
        refine (mknode_any 5 _ _ _ WC).mono ?_
        rintro e wC ⟨rfl, hb⟩
        obtain ⟨m0, m1, m2, m3⟩ := st3_cells (st3_below HSN.out hb (st3_lt HSN.out))
        have m4 := m3 0
        have m5 := m3 1
        have m6 := m3 2
        have HRF := hide (rd_below HRN.out hb (rd_lt HRN.out))
        have HGF := hide (gb_trans HGN.out (gb_below (q := some q) hb))
        have HTF := hide (tr_below HTN.out hb)
        clear hb m3 HSN HRN HGN HTN n0 n1 n2
        go_wp2
        refine bodyPost_ret (v := .agg #[.int .u8 5, .int .u16 0, .slice (some ⟨zB, 0, none⟩) 1 1]) (by simp [results, Tryd.results75, go_sem, m0, m1, m2]) rfl ?_
        rw [HF.out]
        exact ⟨⟨5, 0, some ⟨zB, 0, none⟩, 1, 1⟩, _, rfl, fin_tr HTF.out (fun b hb => by rcases List.mem_cons.1 hb with rfl | hb; exact HZ2.out; exact HSS.out b hb) _ _ _, HND.out, (fun b hb => by have := HQ.out; rcases List.mem_cons.1 hb with rfl | hb; (have := HZ2.out; omega); (have := HSS.out b hb; omega)), by omega, hlt, fin_rd HRF.out hqr _ _ _, fin_gb HGF.out (by have := HQ.out; omega) _ _ _⟩

      | false =>
        rw [nx_no ht] at h1
        have HR3 := hide h1
        rw [ht] at HIF2
        clear h1 ht
        go_wp2_with fail
        refine (takes_any q L j 43 wB hj hL HR3.out).mono ?_
        rintro e wC ⟨rfl, h1, h2⟩
        have HG4 := hide (gb_trans HG3.out h2)
        have HS4 := hide (st3_grown HS3.out h2 (by simp; omega))
        have HY4 := hide (st3_grown HY3.out h2 (by simp; omega))
        have HT4 := hide (tr_gb HT3.out h2 HSQ.out)
        clear h2 HR3 HG3 HS3 HY3 HT3
        have HG3 := HG4
        have HS3 := HS4
        have HY3 := HY4
        have HT3 := HT4
        clear HG4 HS4 HY4 HT4
        cases ht : tk L j 43 with
        | false =>
          rw [nx_no ht] at h1
          rw [ht] at HIF2
          have HF := hide (show itemF L O i = some (liftE (n + 1) (liftE n t), j) from HIF2.out)
          have HRF := hide h1
          obtain ⟨n0, n1, n2, -⟩ := st3_cells HY3.out
          obtain ⟨m0, m1, m2, m3⟩ := st3_cells HS3.out
          have m4 := m3 0
          have m5 := m3 1
          have m6 := m3 2
          clear h1 ht HIF2 m3 HY3 HS3
          go_wp2
          refine bodyPost_ret (v := .agg #[.int .u8 y.k, .int .u16 y.s, .slice y.a y.l y.c]) (by simp [results, Tryd.results75, go_sem, m0, m1, m2]) rfl ?_
          rw [HF.out]
          exact ⟨y, S, rfl, fin_tr (tr_lift _ _ _ _ (tr_lift n t y S HT3.out)) HSS.out _ _ _, HN.out, (fun b hb => by have := HSS.out b hb; have := HQ.out; omega), hij, hj, fin_rd HRF.out hqr _ _ _, fin_gb HG3.out (by have := HQ.out; omega) _ _ _⟩
        | true =>
          rw [nx_yes ht] at h1
          have hlt := tk_lt ht
          have HR3 := hide h1
          rw [ht] at HIF2
          obtain ⟨n0, n1, n2, -⟩ := st3_cells HY3.out
          clear h1 ht
          cases hri : rightE n t with
          | false =>
            rw [hri] at HIF2
            have HF := hide (show itemF L O i = none from HIF2.out)
            have HRI := hide hri
            clear HIF2 hri
            go_wp2_with fail
            refine (copied_no n t _ wC (tr_rx n t y S HT3.out) HRI.out).mono ?_
            rintro e wD ⟨rfl, hb⟩
            have HGF := hide (gb_trans HG3.out (gb_below (q := some q) hb))
            clear hb
            go_wp2
            refine ⟨rfl, ?_⟩
            rw [HF.out]
            exact ⟨rfl, HGF.out⟩
          | true =>
            rw [hri] at HIF2
            have HF := hide (show itemF L O i = some ((2, 0, [liftE n t, ((4, 0, [t]) : Ex (n + 1))]), j + 1) from HIF2.out)
            have HRI := hide hri
            clear HIF2 hri
            go_wp2_with fail
            refine (copied_yes n t _ wC (tr_rx n t y S HT3.out) HRI.out).mono ?_
            rintro e wD ⟨y2, S2, rfl, hT2, hN2, hS2, hb⟩
            have hTD := tr_below HT3.out hb
            have hSD := st3_below HS3.out hb (st3_lt HS3.out)
            have hYD := st3_below HY3.out hb (st3_lt HY3.out)
            have hRD := rd_below HR3.out hb (rd_lt HR3.out)
            have hGD := gb_trans HG3.out (gb_below (q := some q) hb)
            have HS12 := hide (show ∀ b ∈ S, ∀ c ∈ S2, b < c from fun b hb1 c hc => by have := tr_lt n t y S HT3.out b hb1; have := hS2 c hc; omega)
            have HS2L := hide (show ∀ c ∈ S2, r < c from fun c hc => by have := hS2 c hc; have := st3_lt HS3.out; omega)
            have HSD1 := hide (show ∀ b ∈ S, b < wD.heap.size from tr_lt n t y S hTD)
            have HSD2 := hide (show ∀ b ∈ S2, b < wD.heap.size from tr_lt n t y2 S2 hT2)
            have HN2 := hide hN2
            have HRD2 := hide (show r < wD.heap.size from st3_lt hSD)
            have HTE := hide (tr_alloc hTD (.cells #[.int .u8 y2.k, .int .u16 y2.s, .slice y2.a y2.l y2.c] 40))
            have HSE := hide (st3_alloc hSD (.cells #[.int .u8 y2.k, .int .u16 y2.s, .slice y2.a y2.l y2.c] 40))
            have HYE := hide (st3_alloc hYD (.cells #[.int .u8 y2.k, .int .u16 y2.s, .slice y2.a y2.l y2.c] 40))
            have HRE := hide (rd_alloc hRD (.cells #[.int .u8 y2.k, .int .u16 y2.s, .slice y2.a y2.l y2.c] 40))
            have HGE := hide (gb_trans hGD (gb_alloc wD (.cells #[.int .u8 y2.k, .int .u16 y2.s, .slice y2.a y2.l y2.c] 40) (some q)))
            have HT2E := hide (tr_node1 (k := 4) hT2 (by omega))
            clear hT2 hN2 hS2 hb hTD hSD hYD hRD hGD HT3 HS3 HY3 HR3 HG3 n0 n1 n2
            go_wp2_with fail
            have HZE := hide (show (wD.alloc (.cells #[.int .u8 y2.k, .int .u16 y2.s, .slice y2.a y2.l y2.c] 40)).heap.size = wD.heap.size + 1 by simp)
            generalize wD.alloc (.cells #[.int .u8 y2.k, .int .u16 y2.s, .slice y2.a y2.l y2.c] 40) = WE at *
            generalize wD.heap.size = zD at *
            refine (mknode_any 4 _ _ _ WE).mono ?_
            rintro e wF ⟨rfl, hb⟩
            have hTG := tr_alloc (tr_below HTE.out hb) (.cells #[.int .u8 4, .int .u16 0, .slice (some ⟨zD, 0, none⟩) 1 1] 40)
            have hT2G := tr_alloc (tr_below HT2E.out hb) (.cells #[.int .u8 4, .int .u16 0, .slice (some ⟨zD, 0, none⟩) 1 1] 40)
            have hSG := st3_alloc (st3_below HSE.out hb (st3_lt HSE.out)) (.cells #[.int .u8 4, .int .u16 0, .slice (some ⟨zD, 0, none⟩) 1 1] 40)
            have hYG := st3_alloc (st3_below HYE.out hb (st3_lt HYE.out)) (.cells #[.int .u8 4, .int .u16 0, .slice (some ⟨zD, 0, none⟩) 1 1] 40)
            have hRG := rd_alloc (rd_below HRE.out hb (rd_lt HRE.out)) (.cells #[.int .u8 4, .int .u16 0, .slice (some ⟨zD, 0, none⟩) 1 1] 40)
            have hGG := gb_trans (gb_trans HGE.out (gb_below (q := some q) hb)) (gb_alloc wF (.cells #[.int .u8 4, .int .u16 0, .slice (some ⟨zD, 0, none⟩) 1 1] 40) (some q))
            have hX := st3_new wF 4 0 (.slice (some ⟨zD, 0, none⟩) 1 1)
            have HFZ := hide (show zD < wF.heap.size by have := hb.size; have := HZE.out; omega)
            have HTG := hide hTG
            have HT2G := hide hT2G
            have HSG := hide hSG
            have HYG := hide hYG
            have HRG := hide hRG
            have HGG := hide hGG
            have HXG := hide hX
            have HZG := hide (show (wF.alloc (.cells #[.int .u8 4, .int .u16 0, .slice (some ⟨zD, 0, none⟩) 1 1] 40)).heap.size = wF.heap.size + 1 by simp)
            obtain ⟨n0, n1, n2, -⟩ := st3_cells HYG.out
            have HTH := hide (tr_node2 (k := 2) (tr_lift n t y S HTG.out) HT2G.out (by omega))
            have HSH := hide (st3_alloc HSG.out (.cells #[.int .u8 y.k, .int .u16 y.s, .slice y.a y.l y.c, .int .u8 4, .int .u16 0, .slice (some ⟨zD, 0, none⟩) 1 1] 40))
            have HRH := hide (rd_alloc HRG.out (.cells #[.int .u8 y.k, .int .u16 y.s, .slice y.a y.l y.c, .int .u8 4, .int .u16 0, .slice (some ⟨zD, 0, none⟩) 1 1] 40))
            have HGH := hide (gb_trans HGG.out (gb_alloc (wF.alloc (.cells #[.int .u8 4, .int .u16 0, .slice (some ⟨zD, 0, none⟩) 1 1] 40)) (.cells #[.int .u8 y.k, .int .u16 y.s, .slice y.a y.l y.c, .int .u8 4, .int .u16 0, .slice (some ⟨zD, 0, none⟩) 1 1] 40) (some q)))
            rw [HZG.out] at HTH
            clear hb hTG hT2G hSG hYG hRG hGG hX HTE HSE HYE HRE HGE HT2E HTG HT2G HSG HYG HRG HGG HXG
            go_wp2_with fail
            have HTH2 := hide (show Tr ((wF.alloc (.cells #[.int .u8 4, .int .u16 0, .slice (some ⟨zD, 0, none⟩) 1 1] 40)).alloc (.cells #[.int .u8 y.k, .int .u16 y.s, .slice y.a y.l y.c, .int .u8 4, .int .u16 0, .slice (some ⟨zD, 0, none⟩) 1 1] 40)) (n + 2) ((2, 0, [liftE n t, ((4, 0, [t]) : Ex (n + 1))]) : Ex (n + 2)) ⟨2, 0, some ⟨wF.heap.size + 1, 0, none⟩, 2, 2⟩ ((wF.heap.size + 1) :: (S ++ zD :: S2)) from HTH.out)
            clear HTH
            generalize (wF.alloc (.cells #[.int .u8 4, .int .u16 0, .slice (some ⟨zD, 0, none⟩) 1 1] 40)).alloc (.cells #[.int .u8 y.k, .int .u16 y.s, .slice y.a y.l y.c, .int .u8 4, .int .u16 0, .slice (some ⟨zD, 0, none⟩) 1 1] 40) = WH at *
            refine (mknode_any 2 _ _ _ WH).mono ?_
            rintro e wI ⟨rfl, hb⟩
            obtain ⟨m0, m1, m2, m3⟩ := st3_cells (st3_below HSH.out hb (st3_lt HSH.out))
            have m4 := m3 0
            have m5 := m3 1
            have m6 := m3 2
            have HRF := hide (rd_below HRH.out hb (rd_lt HRH.out))
            have HGF := hide (gb_trans HGH.out (gb_below (q := some q) hb))
            have HTF := hide (tr_below HTH2.out hb)
            clear hb m3 HSH HRH HGH HTH2 n0 n1 n2
            go_wp2
            refine bodyPost_ret (v := .agg #[.int .u8 2, .int .u16 0, .slice (some ⟨wF.heap.size + 1, 0, none⟩) 2 2]) (by simp [results, Tryd.results75, go_sem, m0, m1, m2]) rfl ?_
            rw [HF.out]
            have hrF := HFZ.out
            have hmem : ∀ b ∈ (wF.heap.size + 1) :: (S ++ zD :: S2), r < b := fun b hb => by
              have := HRD2.out
              rcases List.mem_cons.1 hb with rfl | hb
              · omega
              · rcases List.mem_append.1 hb with hb | hb
                · exact HSS.out b hb
                · rcases List.mem_cons.1 hb with rfl | hb
                  · omega
                  · exact HS2L.out b hb
            have hnd : ((wF.heap.size + 1) :: (S ++ zD :: S2)).Nodup := by
              refine List.nodup_cons.2 ⟨fun hm => ?_, List.nodup_append.2 ⟨HN.out, List.nodup_cons.2 ⟨fun hm => Nat.lt_irrefl _ (HSD2.out _ hm), HN2.out⟩, fun b hb c hc e => ?_⟩⟩
              · rcases List.mem_append.1 hm with hm | hm
                · have := HSD1.out _ hm; omega
                · rcases List.mem_cons.1 hm with hm | hm
                  · omega
                  · have := HSD2.out _ hm; omega
              · subst e
                rcases List.mem_cons.1 hc with hc | hc
                · have := HSD1.out _ hb; omega
                · have := HS12.out _ hb _ hc; omega
            exact ⟨⟨2, 0, some ⟨wF.heap.size + 1, 0, none⟩, 2, 2⟩, _, rfl, fin_tr HTF.out hmem _ _ _, hnd, (fun b hb => by have := HQ.out; have := hmem b hb; omega), by omega, hlt, fin_rd HRF.out hqr _ _ _, fin_gb HGF.out (by have := HQ.out; omega) _ _ _⟩
end Go.Proofs.YtgjjmcgmdlfdaaaDoor.A
