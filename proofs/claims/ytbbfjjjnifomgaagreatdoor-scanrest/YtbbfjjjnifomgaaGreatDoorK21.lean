/- The reader's once, and the copy. -/
import Derived.WalkKit
import Derived.ProofKit
import Derived.Outline
import Derived.BigQuiet
import Derived.Deep.QuietTactic
import Derived.Below
import Derived.WalkLawsBesides
import Derived.Laws.AppendOwn
import Derived.Shelf.Small.Strs
import Derived.Shelf.Strconv.Itoa0
import Derived.Shelf.Strconv.Itoa1
import Derived.Shelf.LaysM
import Derived.Shelf.Strconv.Itoa2
import Derived.Shelf.Strconv.Clone
import Derived.Shelf.Strings.Search1
import Derived.Shelf.Strings.Search2
import Derived.Shelf.Strings.Search3
import Derived.Shelf.Strings.Count
import Derived.Shelf.Strings.Shaped
import Derived.Shelf.Strconv.AppendUint10
import Derived.Shelf.Strconv.AppendInt10
import Derived.Shelf.Strconv.AppendIntPublic10
import Derived.Shelf.Strings.Split
import Derived.Shelf.Strings.SplitShaped
import Derived.Shelf.Bits.Mul64
import Derived.Shelf.Unicode.DecodeSlow
import Derived.Ground.Names2Prog
import Derived.Shelf.Slices.Clone
import Derived.Ground.SlgnProg
import Derived.Shelf.SlicesE.Clone
import Derived.Deep.RegionHeld3
import Derived.OpenShut
import Derived.Deep.Slices
import Derived.Deep.Strs
import Derived.Deep.OwnRows
import Derived.Deep.WholeRow
import Derived.Deep.Heap
import Derived.Laws.OwnMore
import Derived.Deep.AppendLies
import Derived.Deep.RegionLaw
import Derived.Deep.AppendSrc
import Derived.Laws.AppendOwnNone
import Derived.Test.YtbbfjjjnifomgaaGreatDoorK1
import Derived.Test.YtbbfjjjnifomgaaGreatDoorK3
import Derived.Test.YtbbfjjjnifomgaaGreatDoorK5
import Derived.Test.YtbbfjjjnifomgaaGreatDoorK6
import Derived.Test.YtbbfjjjnifomgaaGreatDoorK8
import Derived.Test.YtbbfjjjnifomgaaGreatDoorK11
import Derived.Test.YtbbfjjjnifomgaaGreatDoorK13
import Derived.Test.YtbbfjjjnifomgaaGreatDoorK19
import Derived.Test.YtbbfjjjnifomgaaGreatDoorK20
import Derived.Test.YtbbfjjjnifomgaaGreatDoorK4
import Derived.OwnWalk
namespace Go.Proofs.YtbbfjjjnifomgaaGreatDoor.A
open Go.RowKit
set_option linter.unusedVariables false

/-- What a call of the reader's that makes an expression answers. -/
def OutE (w : World) (q : Nat) (L : ByteArray) (i0 n : Nat) (R : Option (Ex n × Nat)) (e : Ending) (w' : World) : Prop := match R with
  | none => e = .panicked gave ∧ w.grownBy w' (some q)
  | some (t, j) => ∃ (y : Nd) (S : List Nat), e = .returned (.agg #[.int .u8 y.k, .int .u16 y.s, .slice y.a y.l y.c]) ∧ Tr w' n t y S ∧ S.Nodup ∧ (∀ b ∈ S, w.heap.size ≤ b) ∧ i0 ≤ j ∧ j ≤ L.size ∧ Rd w' q L j ∧ w.grownBy w' (some q)
theorem fin_gb {w w1 : World} {q r : Nat} (h : w.grownBy w1 (some q)) (hr : w.heap.size ≤ r) (a b c : Value) : w.grownBy (((w1.setCell ⟨r, 0, none⟩ a).setCell ⟨r, 1, none⟩ b).setCell ⟨r, 2, none⟩ c) (some q) := by
  refine ⟨h.os, h.tape, h.output, by simpa using h.size, fun k hk hq => ?_⟩
  rw [Below.heap_setCell _ _ _ _ (by simp; omega), Below.heap_setCell _ _ _ _ (by simp; omega), Below.heap_setCell _ _ _ _ (by simp; omega)]
  exact h.block k hk hq
theorem fin_rd {w1 : World} {q r j : Nat} {L : ByteArray} (h : Rd w1 q L j) (hr : q ≠ r) (a b c : Value) : Rd (((w1.setCell ⟨r, 0, none⟩ a).setCell ⟨r, 1, none⟩ b).setCell ⟨r, 2, none⟩ c) q L j := by
  unfold Rd at *
  rw [Below.heap_setCell _ _ _ _ (by simpa using hr), Below.heap_setCell _ _ _ _ (by simpa using hr), Below.heap_setCell _ _ _ _ (by simpa using hr)]
  exact h
theorem fin_tr {w1 : World} {n r : Nat} {t : Ex n} {y : Nd} {S : List Nat} (h : Tr w1 n t y S) (hr : ∀ b ∈ S, r < b) (a b c : Value) : Tr (((w1.setCell ⟨r, 0, none⟩ a).setCell ⟨r, 1, none⟩ b).setCell ⟨r, 2, none⟩ c) n t y S := by
  refine tr_keep n t y S (fun k hk => ?_) h
  have := hr k hk
  rw [Below.heap_setCell _ _ _ _ (by simp; omega), Below.heap_setCell _ _ _ _ (by simp; omega), Below.heap_setCell _ _ _ _ (by simp; omega)]
theorem gb_alloc (w : World) (o : Obj) (q : Option Nat) : w.grownBy (w.alloc o) q := gb_below ((Below.refl w.heap.size w).alloc (Nat.le_refl _) o)
theorem rd_alloc {w : World} {q i : Nat} {L : ByteArray} (h : Rd w q L i) (o : Obj) : Rd (w.alloc o) q L i := (Below.heap_alloc w o q (rd_lt h)).trans h
theorem tr_alloc {w : World} {n : Nat} {t : Ex n} {y : Nd} {S : List Nat} (h : Tr w n t y S) (o : Obj) : Tr (w.alloc o) n t y S := tr_keep n t y S (fun b hb => Below.heap_alloc _ _ _ (tr_lt n t y S h b hb)) h
theorem st3_new (w : World) (k s : Nat) (v : Value) : St3 (w.alloc (.cells #[.int .u8 k, .int .u16 s, v] 55)) w.heap.size k s v := heap_alloc_last w _
theorem st3_alloc {w : World} {b k s : Nat} {v : Value} (h : St3 w b k s v) (o : Obj) : St3 (w.alloc o) b k s v := (Below.heap_alloc w o b (st3_lt h)).trans h
theorem tr_leaf (w : World) (n k m : Nat) (hk : k < 256) (hm : m < 65536) : Tr w (n + 1) ((k, m, []) : Ex (n + 1)) ⟨k, m, none, 0, 0⟩ [] :=
  ⟨rfl, rfl, hk, hm, Nat.le_refl _, by show (0 : Nat) ≤ maxLen; unfold maxLen; omega, rfl, .inl ⟨rfl, rfl⟩⟩

theorem setL_lt {L : ByteArray} : ∀ (f s i s' j : Nat), setL L f s i = some (s', j) → i < j
  | 0, _, _, _, _, h => by cases h
  | f + 1, s, i, s', j, h => by
    have h' : (if tk L i 93 = true then some (s, i + 1) else match letF L i with
      | none => none
      | some m => if s &&& m = 0 then setL L f (s ||| m) (i + 1) else none) = some (s', j) := h
    by_cases ht : tk L i 93 = true
    · rw [if_pos ht] at h'
      cases h'
      omega
    · rw [if_neg ht] at h'
      cases hl : letF L i with
      | none => rw [hl] at h'; cases h'
      | some m =>
        rw [hl] at h'
        have h2 : (if s &&& m = 0 then setL L f (s ||| m) (i + 1) else none) = some (s', j) := h'
        by_cases h0 : s &&& m = 0
        · rw [if_pos h0] at h2
          have := setL_lt f _ _ _ _ h2
          omega
        · rw [if_neg h0] at h2; cases h2
theorem setF_lt {L : ByteArray} {i s' j : Nat} (h : setF L i = some (s', j)) : i < j := by
  unfold setF at h
  cases hl : letF L i with
  | none => rw [hl] at h; cases h
  | some m =>
    rw [hl] at h
    have := setL_lt _ _ _ _ _ h
    omega
/-- An item without what stands behind it. -/
def onceF (L : ByteArray) {n : Nat} (E : Nat → Option (Ex (n + 1) × Nat)) (i : Nat) : Option (Ex (n + 1) × Nat) :=
  if tk L i 40 = true then match E (i + 1) with
    | none => none
    | some (t, j) => if tk L j 41 = true then some (t, j + 1) else none
  else if tk L i 91 = true then match setF L (i + 1) with
    | none => none
    | some (s, j) => some ((1, s, []), j)
  else match letF L i with
    | none => none
    | some m => some ((1, m, []), i + 1)

set_option maxHeartbeats 6400000 in
theorem once_any (q : Nat) (L : ByteArray) (i n : Nat) (E : Nat → Option (Ex (n + 1) × Nat)) (w : World) (hi : i ≤ L.size) (hL : L.size ≤ 2000) (h : Rd w q L i)
    (hE : tk L i 40 = true → ∀ u : World, Rd u q L (i + 1) → Calls Tryz.prog 92 #[.pointer (some ⟨q, 0, none⟩)] u fun e w' => OutE u q L (i + 1) (n + 1) (E (i + 1)) e w') :
    Calls Tryz.prog 159 #[.pointer (some ⟨q, 0, none⟩)] w fun e w' => OutE w q L (i + 1) (n + 1) (onceF L E i) e w' := by
  have hq := rd_lt h
  have HRA := hide (rd_alloc h (.cells #[.int .u8 0, .int .u16 0, .slice none 0 0] 55))
  have HGA := hide (gb_alloc w (.cells #[.int .u8 0, .int .u16 0, .slice none 0 0] 55) (some q))
  have HSA := hide (st3_new w 0 0 (.slice none 0 0))
  have HO := hide (show onceF L E i = if tk L i 40 = true then (match E (i + 1) with
    | none => none
    | some (t, j) => if tk L j 41 = true then some (t, j + 1) else none)
    else if tk L i 91 = true then (match setF L (i + 1) with
    | none => none
    | some (s, j) => some ((1, s, []), j))
    else match letF L i with
    | none => none
    | some m => some ((1, m, []), i + 1) from rfl)
  have HE := hide hE
  clear h hE
  go_enter Tryz.func159, Tryz.ntmps159
  go_wp2_with fail
  generalize w.alloc (.cells #[.int .u8 0, .int .u16 0, .slice none 0 0] 55) = W at *
  obtain ⟨r, hr⟩ : ∃ r, w.heap.size = r := ⟨_, rfl⟩
  rw [hr] at HSA ⊢
  have HQ := hide hr
  have hqr : q ≠ r := by omega
  have HQR := hide (show q < r by omega)
  clear hr hq
  refine (takes_any q L i 40 W hi hL HRA.out).mono ?_
  rintro e w1 ⟨rfl, h1, h2⟩
  have HG1 := hide (gb_trans HGA.out h2)
  have HS1 := hide (st3_grown HSA.out h2 (by simp; omega))
  clear h2 HRA HGA HSA
  cases ht : tk L i 40 with
  | true =>
    rw [nx_yes ht] at h1
    have hlt := tk_lt ht
    have HC := hide (HE.out ht w1 h1)
    rw [ht] at HO
    have HR1 := hide h1
    clear h1 HE ht
    go_wp2_with fail
    refine HC.out.mono ?_
    intro e w2 hout
    cases hR : E (i + 1) with
    | none =>
      rw [hR] at hout HO
      obtain ⟨rfl, h3⟩ := hout
      have HG2 := hide (gb_trans HG1.out h3)
      have HF := hide (show onceF L E i = none from HO.out)
      clear h3 hR HO HC
      go_wp2
      refine ⟨rfl, ?_⟩
      rw [HF.out]
      exact ⟨rfl, HG2.out⟩
    | some p =>
      obtain ⟨t, j⟩ := p
      rw [hR] at hout HO
      obtain ⟨y, S, rfl, hT, hN, hS, hij, hj, h3, h4⟩ := hout
      have HG2 := hide (gb_trans (gb_trans HG1.out h4) (gb_alloc w2 (.cells #[.int .u8 y.k, .int .u16 y.s, .slice y.a y.l y.c] 55) (some q)))
      have HR2 := hide (rd_alloc h3 (.cells #[.int .u8 y.k, .int .u16 y.s, .slice y.a y.l y.c] 55))
      have HS2 := hide (st3_alloc (st3_grown HS1.out h4 (by simp; omega)) (.cells #[.int .u8 y.k, .int .u16 y.s, .slice y.a y.l y.c] 55))
      have HY := hide (st3_new w2 y.k y.s (.slice y.a y.l y.c))
      have HT := hide (tr_alloc hT (.cells #[.int .u8 y.k, .int .u16 y.s, .slice y.a y.l y.c] 55))
      have HN := hide hN
      have HSS := hide (show ∀ b ∈ S, r < b from fun b hb => by have := hS b hb; have := st3_lt HS1.out; omega)
      have hne : q ≠ w2.heap.size := by have := rd_lt h3; omega
      clear hT hN hS h3 h4 hR HC HR1 HG1 HS1
      go_wp2_with fail
      generalize w2.alloc (.cells #[.int .u8 y.k, .int .u16 y.s, .slice y.a y.l y.c] 55) = W2 at *
      generalize w2.heap.size = z at *
      cases ht2 : tk L j 41 with
      | false =>
        refine (need_no q L j 41 W2 hj hL HR2.out ht2).mono ?_
        rintro e w3 ⟨rfl, h5⟩
        rw [ht2] at HO
        have HF := hide (show onceF L E i = none from HO.out)
        have HG3 := hide (gb_trans HG2.out h5)
        clear h5 ht2 HO
        go_wp2
        refine ⟨rfl, ?_⟩
        rw [HF.out]
        exact ⟨rfl, HG3.out⟩
      | true =>
        refine (need_yes q L j 41 W2 hj hL HR2.out ht2).mono ?_
        rintro e w3 ⟨rfl, h5, h6⟩
        rw [ht2] at HO
        have HF := hide (show onceF L E i = some (t, j + 1) from HO.out)
        have HG3 := hide (gb_trans HG2.out h6)
        have HR3 := hide h5
        have hj2 := tk_lt ht2
        obtain ⟨m0, m1, m2, m3⟩ := st3_cells (st3_grown HS2.out h6 (by simp; omega))
        have m4 := m3 0
        have m5 := m3 1
        have m6 := m3 2
        obtain ⟨n0, n1, n2, -⟩ := st3_cells (st3_grown HY.out h6 (by simp; omega))
        have HT3 := hide (tr_keep _ _ _ _ (fun b hb => h6.block b (tr_lt _ _ _ _ HT.out b hb) (by
          intro e
          cases e
          have := HSS.out q hb
          have := HQR.out
          omega)) HT.out)
        clear h5 h6 m3 ht2 HO
        go_wp2
        refine bodyPost_ret (v := .agg #[.int .u8 y.k, .int .u16 y.s, .slice y.a y.l y.c]) (by simp [results, Tryz.results159, go_sem, m0, m1, m2]) rfl ?_
        rw [HF.out]
        exact ⟨y, S, rfl, fin_tr HT3.out HSS.out _ _ _, HN.out, (fun b hb => by have := HSS.out b hb; have := HQ.out; omega), by omega, hj2, fin_rd HR3.out hqr _ _ _, fin_gb HG3.out (by have := HQ.out; omega) _ _ _⟩
  | false =>
    rw [nx_no ht] at h1
    have HR1 := hide h1
    rw [ht] at HO
    clear h1 HE ht
    go_wp2_with fail
    refine (takes_any q L i 91 w1 hi hL HR1.out).mono ?_
    rintro e w2 ⟨rfl, h1, h2⟩
    have HG2 := hide (gb_trans HG1.out h2)
    have HS2 := hide (st3_grown HS1.out h2 (by simp; omega))
    clear h2 HR1 HG1 HS1
    cases ht : tk L i 91 with
    | true =>
      rw [nx_yes ht] at h1
      have hlt := tk_lt ht
      have HR2 := hide h1
      rw [ht] at HO
      clear h1 ht
      go_wp2_with fail
      refine (set_any q L (i + 1) w2 hlt hL HR2.out).mono ?_
      intro e w3 hout
      cases hR : setF L (i + 1) with
      | none =>
        rw [hR] at hout HO
        obtain ⟨rfl, h3⟩ := hout
        have HG3 := hide (gb_trans HG2.out h3)
        have HF := hide (show onceF L E i = none from HO.out)
        clear h3 hR HO
        go_wp2
        refine ⟨rfl, ?_⟩
        rw [HF.out]
        exact ⟨rfl, HG3.out⟩
      | some p =>
        obtain ⟨m, j⟩ := p
        rw [hR] at hout HO
        obtain ⟨rfl, hm, hj, h3, h4⟩ := hout
        have HF := hide (show onceF L E i = some ((1, m, []), j) from HO.out)
        have HG3 := hide (gb_trans HG2.out h4)
        have HR3 := hide h3
        obtain ⟨m0, m1, m2, m3⟩ := st3_cells (st3_grown HS2.out h4 (by simp; omega))
        have m4 := m3 0
        have m5 := m3 1
        have m6 := m3 2
        have hij := setF_lt hR
        clear h3 h4 m3 hR HO
        go_wp2
        refine bodyPost_ret (v := .agg #[.int .u8 1, .int .u16 m, .slice none 0 0]) (by simp [results, Tryz.results159, go_sem, m0, m1, m2]) rfl ?_
        rw [HF.out]
        exact ⟨⟨1, m, none, 0, 0⟩, [], rfl, tr_leaf _ n 1 m (by omega) hm, by simp, (fun b hb => by cases hb), by omega, hj, fin_rd HR3.out hqr _ _ _, fin_gb HG3.out (by have := HQ.out; omega) _ _ _⟩
    | false =>
      rw [nx_no ht] at h1
      have HR2 := hide h1
      rw [ht] at HO
      clear h1 ht
      cases hR : letF L i with
      | none =>
        rw [hR] at HO
        have HF := hide (show onceF L E i = none from HO.out)
        have HL := hide hR
        clear hR HO
        go_wp2_with fail
        refine (letter_no q L i w2 hi hL HR2.out HL.out).mono ?_
        rintro e w3 ⟨rfl, h3⟩
        have HG3 := hide (gb_trans HG2.out h3)
        clear h3
        go_wp2
        refine ⟨rfl, ?_⟩
        rw [HF.out]
        exact ⟨rfl, HG3.out⟩
      | some m =>
        obtain ⟨hlt, k, hk, hc, rfl⟩ := letF_some hR
        have hm := letF_lt hR
        rw [hR] at HO
        have HF := hide (show onceF L E i = some ((1, 2 ^ k, []), i + 1) from HO.out)
        have HC := hide hc
        clear hR HO hc
        go_wp2_with fail
        refine (letter_yes q L i w2 hlt hL HR2.out k HC.out hk).mono ?_
        rintro e w3 ⟨rfl, h3, h4⟩
        have HG3 := hide (gb_trans HG2.out h4)
        have HR3 := hide h3
        obtain ⟨m0, m1, m2, m3⟩ := st3_cells (st3_grown HS2.out h4 (by simp; omega))
        have m4 := m3 0
        have m5 := m3 1
        have m6 := m3 2
        clear h3 h4 m3
        generalize 2 ^ k = m at *
        go_wp2
        refine bodyPost_ret (v := .agg #[.int .u8 1, .int .u16 m, .slice none 0 0]) (by simp [results, Tryz.results159, go_sem, m0, m1, m2]) rfl ?_
        rw [HF.out]
        exact ⟨⟨1, m, none, 0, 0⟩, [], rfl, tr_leaf _ n 1 m (by omega) hm, by simp, (fun b hb => by cases hb), by omega, hlt, fin_rd HR3.out hqr _ _ _, fin_gb HG3.out (by have := HQ.out; omega) _ _ _⟩

set_option maxHeartbeats 1600000 in
theorem copied_no (n : Nat) (t : Ex n) (v : Value) (w : World) (h : Rx w n t v) (hr : rightE n t = false) :
    Calls Tryz.prog 160 #[v] w fun e w' => e = .panicked gave ∧ Below w.heap.size w w' := by
  obtain ⟨c0, c1, c2, rfl⟩ := rx_form h
  obtain ⟨kx, sx, ax, lx, cx, rfl, rfl, rfl⟩ := rx_cells h
  have HX := hide h
  have HR := hide hr
  have HB0 := hide (((Below.refl w.heap.size w).alloc (Nat.le_refl _) (.cells #[.int .u8 kx, .int .u16 sx, .slice ax lx cx] 55)).alloc (by simp) (.cells #[.int .u8 0, .int .u16 0, .slice none 0 0] 55))
  clear h hr
  go_enter Tryz.func160, Tryz.ntmps160
  go_wp2_with fail
  refine (right_any n t _ _ (rx_below HB0.out n t _ HX.out)).mono ?_
  rintro e w1 ⟨rfl, hb1⟩
  rw [HR.out]
  have HB1 := hide (HB0.out.trans (hb1.mono HB0.out.size))
  clear hb1
  go_wp2
  exact ⟨rfl, rfl, HB1.out⟩
set_option maxHeartbeats 1600000 in
theorem copied_yes (n : Nat) (t : Ex n) (v : Value) (w : World) (h : Rx w n t v) (hr : rightE n t = true) :
    Calls Tryz.prog 160 #[v] w fun e w' => Makes w n t e w' := by
  have hri := (right_iff (rx_full n t _ h)).1 hr
  obtain ⟨c0, c1, c2, rfl⟩ := rx_form h
  obtain ⟨kx, sx, ax, lx, cx, rfl, rfl, rfl⟩ := rx_cells h
  have HX := hide h
  have HR := hide hr
  have HRI := hide hri
  have HB0 := hide (((Below.refl w.heap.size w).alloc (Nat.le_refl _) (.cells #[.int .u8 kx, .int .u16 sx, .slice ax lx cx] 55)).alloc (by simp) (.cells #[.int .u8 0, .int .u16 0, .slice none 0 0] 55))
  have HA := hide (st3_alloc (st3_new w kx sx (.slice ax lx cx)) (.cells #[.int .u8 0, .int .u16 0, .slice none 0 0] 55))
  have HST := hide (st3_new (w.alloc (.cells #[.int .u8 kx, .int .u16 sx, .slice ax lx cx] 55)) 0 0 (.slice none 0 0))
  have HZ := hide (show (w.alloc (.cells #[.int .u8 kx, .int .u16 sx, .slice ax lx cx] 55)).heap.size = w.heap.size + 1 by simp)
  clear h hr hri
  go_enter Tryz.func160, Tryz.ntmps160
  go_wp2_with fail
  rw [HZ.out] at HST
  generalize (w.alloc (.cells #[.int .u8 kx, .int .u16 sx, .slice ax lx cx] 55)).alloc (.cells #[.int .u8 0, .int .u16 0, .slice none 0 0] 55) = W at *
  refine (right_any n t _ W (rx_below HB0.out n t _ HX.out)).mono ?_
  rintro e w1 ⟨rfl, hb1⟩
  rw [HR.out]
  have hA := st3_below HA.out hb1 (st3_lt HA.out)
  have hST := st3_below HST.out hb1 (st3_lt HST.out)
  obtain ⟨r0, r1, r2, -⟩ := st3_cells hA
  have HST1 := hide hST
  have HB1 := hide (HB0.out.trans (hb1.mono HB0.out.size))
  clear hb1 hA hST HA HST HB0
  go_wp2_with fail
  refine (dup_any n t _ w1 (rx_below HB1.out n t _ HX.out) HRI.out.2.2 (by have := HRI.out.1; omega)).mono ?_
  rintro e w2 ⟨y, S, rfl, hT, hN, hS, hb⟩
  have hst := st3_below HST1.out hb (st3_lt HST1.out)
  obtain ⟨m0, m1, m2, m3⟩ := st3_cells hst
  have m4 := m3 0
  have m5 := m3 1
  have m6 := m3 2
  have HT := hide hT
  have HN := hide hN
  have HS := hide hS
  have HB2 := hide (HB1.out.trans (hb.mono HB1.out.size))
  have HL := hide (st3_lt HST1.out)
  clear hT hN hS hb hst m3 HST1
  go_wp2
  refine bodyPost_ret (v := .agg #[.int .u8 y.k, .int .u16 y.s, .slice y.a y.l y.c]) (by simp [results, Tryz.results160, go_sem, m0, m1, m2]) rfl ?_
  refine ⟨y, S, rfl, fin_tr HT.out (fun b hb => by have := HS.out b hb; have := HL.out; omega) _ _ _, HN.out, (fun b hb => by have := HS.out b hb; have := HB1.out.size; omega), ((HB2.out.setCell (by simp) _).setCell (by simp) _).setCell (by simp) _⟩
end Go.Proofs.YtbbfjjjnifomgaaGreatDoor.A



/- The reader's item. -/
namespace Go.Proofs.YtbbfjjjnifomgaaGreatDoor.A
open Go.RowKit
set_option linter.unusedVariables false

theorem tr_node1 {w : World} {n k : Nat} {t : Ex n} {y : Nd} {S : List Nat} (h : Tr w n t y S) (hk : k < 256) :
    Tr (w.alloc (.cells #[.int .u8 y.k, .int .u16 y.s, .slice y.a y.l y.c] 55)) (n + 1) ((k, 0, [t]) : Ex (n + 1)) ⟨k, 0, some ⟨w.heap.size, 0, none⟩, 1, 1⟩ (w.heap.size :: S) := by
  refine ⟨rfl, rfl, hk, by show (0 : Nat) < 65536; omega, Nat.le_refl _, by show (1 : Nat) ≤ maxLen; unfold maxLen; omega, rfl, .inr ⟨w.heap.size, _, [y], [S], rfl, heap_alloc_last w _, by simp [cellsN, cellsO], rfl, rfl, by simp, fun i e y' T he hy hT => ?_⟩⟩
  match i with
  | 0 =>
    have he' : [t][0]? = some e := he
    simp only [List.getElem?_cons_zero, Option.some.injEq] at he' hy hT
    subst he'; subst hy; subst hT
    exact tr_alloc h _
  | i + 1 => simp at hy
theorem tr_node2 {w : World} {n k : Nat} {t1 t2 : Ex n} {y1 y2 : Nd} {S1 S2 : List Nat} (h1 : Tr w n t1 y1 S1) (h2 : Tr w n t2 y2 S2) (hk : k < 256) :
    Tr (w.alloc (.cells #[.int .u8 y1.k, .int .u16 y1.s, .slice y1.a y1.l y1.c, .int .u8 y2.k, .int .u16 y2.s, .slice y2.a y2.l y2.c] 55)) (n + 1) ((k, 0, [t1, t2]) : Ex (n + 1)) ⟨k, 0, some ⟨w.heap.size, 0, none⟩, 2, 2⟩ (w.heap.size :: (S1 ++ S2)) := by
  refine ⟨rfl, rfl, hk, by show (0 : Nat) < 65536; omega, Nat.le_refl _, by show (2 : Nat) ≤ maxLen; unfold maxLen; omega, rfl, .inr ⟨w.heap.size, _, [y1, y2], [S1, S2], rfl, heap_alloc_last w _, by simp [cellsN, cellsO], rfl, rfl, by simp, fun i e y' T he hy hT => ?_⟩⟩
  match i with
  | 0 =>
    have he' : [t1, t2][0]? = some e := he
    simp only [List.getElem?_cons_zero, Option.some.injEq] at he' hy hT
    subst he'; subst hy; subst hT
    exact tr_alloc h1 _
  | 1 =>
    have he' : [t1, t2][1]? = some e := he
    simp only [List.getElem?_cons_zero, List.getElem?_cons_succ, Option.some.injEq] at he' hy hT
    subst he'; subst hy; subst hT
    exact tr_alloc h2 _
  | i + 2 => simp at hy
theorem tr_gb {w w' : World} {q n : Nat} {t : Ex n} {y : Nd} {S : List Nat} (h : Tr w n t y S) (hg : w.grownBy w' (some q)) (hS : ∀ b ∈ S, q < b) : Tr w' n t y S :=
  tr_keep n t y S (fun b hb => hg.block b (tr_lt n t y S h b hb) (by intro e; cases e; have := hS q hb; omega)) h
theorem tr_below {w w' : World} {n : Nat} {t : Ex n} {y : Nd} {S : List Nat} (h : Tr w n t y S) (hg : Below w.heap.size w w') : Tr w' n t y S :=
  tr_keep n t y S (fun b hb => hg.block b (tr_lt n t y S h b hb)) h

/-- An item, and how often. -/
def itemF (L : ByteArray) {n : Nat} (O : Nat → Option (Ex n × Nat)) (i : Nat) : Option (Ex (n + 2) × Nat) := match O i with
  | none => none
  | some (t, j) => if tk L j 42 = true then some ((4, 0, [liftE n t]), j + 1)
    else if tk L j 63 = true then some ((5, 0, [liftE n t]), j + 1)
    else if tk L j 43 = true then (if rightE n t = true then some ((2, 0, [liftE n t, ((4, 0, [t]) : Ex (n + 1))]), j + 1) else none)
    else some (liftE (n + 1) (liftE n t), j)

set_option maxHeartbeats 12800000 in
theorem item_any (q : Nat) (L : ByteArray) (i n : Nat) (O : Nat → Option (Ex n × Nat)) (w : World) (hi : i ≤ L.size) (hL : L.size ≤ 2000) (h : Rd w q L i)
    (hO : ∀ u : World, Rd u q L i → Calls Tryz.prog 159 #[.pointer (some ⟨q, 0, none⟩)] u fun e w' => OutE u q L (i + 1) n (O i) e w') :
    Calls Tryz.prog 137 #[.pointer (some ⟨q, 0, none⟩)] w fun e w' => OutE w q L (i + 1) (n + 2) (itemF L O i) e w' := by
  have hq := rd_lt h
  have HRA := hide (rd_alloc h (.cells #[.int .u8 0, .int .u16 0, .slice none 0 0] 55))
  have HGA := hide (gb_alloc w (.cells #[.int .u8 0, .int .u16 0, .slice none 0 0] 55) (some q))
  have HSA := hide (st3_new w 0 0 (.slice none 0 0))
  have HIF := hide (show itemF L O i = match O i with
    | none => none
    | some (t, j) => if tk L j 42 = true then some ((4, 0, [liftE n t]), j + 1)
      else if tk L j 63 = true then some ((5, 0, [liftE n t]), j + 1)
      else if tk L j 43 = true then (if rightE n t = true then some ((2, 0, [liftE n t, ((4, 0, [t]) : Ex (n + 1))]), j + 1) else none)
      else some (liftE (n + 1) (liftE n t), j) from rfl)
  have HO := hide hO
  clear h hO
  go_enter Tryz.func137, Tryz.ntmps137
  go_wp2_with fail
  generalize w.alloc (.cells #[.int .u8 0, .int .u16 0, .slice none 0 0] 55) = W at *
  obtain ⟨r, hr⟩ : ∃ r, w.heap.size = r := ⟨_, rfl⟩
  rw [hr] at HSA ⊢
  have HQ := hide hr
  have hqr : q ≠ r := by omega
  have HQR := hide (show q < r by omega)
  clear hr hq
  refine (HO.out W HRA.out).mono ?_
  intro e w1 hout
  cases hR : O i with
  | none =>
    rw [hR] at hout HIF
    obtain ⟨rfl, h3⟩ := hout
    have HG2 := hide (gb_trans HGA.out h3)
    have HF := hide (show itemF L O i = none from HIF.out)
    clear h3 hR HIF HO
    go_wp2
    refine ⟨rfl, ?_⟩
    rw [HF.out]
    exact ⟨rfl, HG2.out⟩
  | some p =>
    obtain ⟨t, j⟩ := p
    rw [hR] at hout HIF
    obtain ⟨y, S, rfl, hT, hN, hS, hij, hj, h3, h4⟩ := hout
    have HIF2 := hide (show itemF L O i = if tk L j 42 = true then some ((4, 0, [liftE n t]), j + 1)
      else if tk L j 63 = true then some ((5, 0, [liftE n t]), j + 1)
      else if tk L j 43 = true then (if rightE n t = true then some ((2, 0, [liftE n t, ((4, 0, [t]) : Ex (n + 1))]), j + 1) else none)
      else some (liftE (n + 1) (liftE n t), j) from HIF.out)
    have HG2 := hide (gb_trans (gb_trans HGA.out h4) (gb_alloc w1 (.cells #[.int .u8 y.k, .int .u16 y.s, .slice y.a y.l y.c] 55) (some q)))
    have HR2 := hide (rd_alloc h3 (.cells #[.int .u8 y.k, .int .u16 y.s, .slice y.a y.l y.c] 55))
    have HS2 := hide (st3_alloc (st3_grown HSA.out h4 (by simp; omega)) (.cells #[.int .u8 y.k, .int .u16 y.s, .slice y.a y.l y.c] 55))
    have HY := hide (st3_new w1 y.k y.s (.slice y.a y.l y.c))
    have HT := hide (tr_alloc hT (.cells #[.int .u8 y.k, .int .u16 y.s, .slice y.a y.l y.c] 55))
    have HN := hide hN
    have HSS := hide (show ∀ b ∈ S, r < b from fun b hb => by have := hS b hb; have := st3_lt HSA.out; omega)
    have HSQ := hide (show ∀ b ∈ S, q < b from fun b hb => by have := HSS.out b hb; have := HQR.out; omega)
    have HRZ := hide (show r < w1.heap.size by have := st3_lt HSA.out; have := h4.size; omega)
    have hne : q ≠ w1.heap.size := by have := rd_lt h3; omega
    clear hT hN hS h3 h4 hR HO HIF HGA HRA HSA
    go_wp2_with fail
    generalize w1.alloc (.cells #[.int .u8 y.k, .int .u16 y.s, .slice y.a y.l y.c] 55) = W2 at *
    generalize w1.heap.size = z at *
    refine (takes_any q L j 42 W2 hj hL HR2.out).mono ?_
    rintro e w2 ⟨rfl, h1, h2⟩
    have HG3 := hide (gb_trans HG2.out h2)
    have HS3 := hide (st3_grown HS2.out h2 (by simp; omega))
    have HY3 := hide (st3_grown HY.out h2 (by simp; omega))
    have HT3 := hide (tr_gb HT.out h2 HSQ.out)
    clear h2 HR2 HG2 HS2 HY HT
    cases ht : tk L j 42 with
    | true =>
      rw [nx_yes ht] at h1
      have hlt := tk_lt ht
      have HR3 := hide h1
      rw [ht] at HIF2
      have HF := hide (show itemF L O i = some ((4, 0, [liftE n t]), j + 1) from HIF2.out)
      obtain ⟨n0, n1, n2, -⟩ := st3_cells HY3.out
      have HTN := hide (tr_node1 (k := 4) (tr_lift n t y S HT3.out) (by omega))
      have HGN := hide (gb_trans HG3.out (gb_alloc w2 (.cells #[.int .u8 y.k, .int .u16 y.s, .slice y.a y.l y.c] 55) (some q)))
      have HSN := hide (st3_alloc HS3.out (.cells #[.int .u8 y.k, .int .u16 y.s, .slice y.a y.l y.c] 55))
      have HRN := hide (rd_alloc HR3.out (.cells #[.int .u8 y.k, .int .u16 y.s, .slice y.a y.l y.c] 55))
      have HZ2 := hide (show r < w2.heap.size from st3_lt HS3.out)
      have HND := hide (List.nodup_cons.2 ⟨fun hm => Nat.lt_irrefl _ (tr_lt n t y S HT3.out _ hm), HN.out⟩)
      clear h1 ht HIF2 HS3 HT3 HR3 HG3
      go_wp2_with fail
      generalize w2.alloc (.cells #[.int .u8 y.k, .int .u16 y.s, .slice y.a y.l y.c] 55) = W3 at *
      generalize w2.heap.size = z2 at *
      refine (mknode_any 4 _ _ _ W3).mono ?_
      rintro e w3 ⟨rfl, hb⟩
      obtain ⟨m0, m1, m2, m3⟩ := st3_cells (st3_below HSN.out hb (st3_lt HSN.out))
      have m4 := m3 0
      have m5 := m3 1
      have m6 := m3 2
      have HRF := hide (rd_below HRN.out hb (rd_lt HRN.out))
      have HGF := hide (gb_trans HGN.out (gb_below (q := some q) hb))
      have HTF := hide (tr_below HTN.out hb)
      clear hb m3 HSN HRN HGN HTN n0 n1 n2
      go_wp2
      refine bodyPost_ret (v := .agg #[.int .u8 4, .int .u16 0, .slice (some ⟨z2, 0, none⟩) 1 1]) (by simp [results, Tryz.results137, go_sem, m0, m1, m2]) rfl ?_
      rw [HF.out]
      exact ⟨⟨4, 0, some ⟨z2, 0, none⟩, 1, 1⟩, _, rfl, fin_tr HTF.out (fun b hb => by rcases List.mem_cons.1 hb with rfl | hb; exact HZ2.out; exact HSS.out b hb) _ _ _, HND.out, (fun b hb => by have := HQ.out; rcases List.mem_cons.1 hb with rfl | hb; (have := HZ2.out; omega); (have := HSS.out b hb; omega)), by omega, hlt, fin_rd HRF.out hqr _ _ _, fin_gb HGF.out (by have := HQ.out; omega) _ _ _⟩
    | false =>
      rw [nx_no ht] at h1
      have HR3 := hide h1
      rw [ht] at HIF2
      clear h1 ht
      go_wp2_with fail
      refine (takes_any q L j 63 w2 hj hL HR3.out).mono ?_
      rintro e wB ⟨rfl, h1, h2⟩
      have HG4 := hide (gb_trans HG3.out h2)
      have HS4 := hide (st3_grown HS3.out h2 (by simp; omega))
      have HY4 := hide (st3_grown HY3.out h2 (by simp; omega))
      have HT4 := hide (tr_gb HT3.out h2 HSQ.out)
      clear h2 HR3 HG3 HS3 HY3 HT3
      have HG3 := HG4
      have HS3 := HS4
      have HY3 := HY4
      have HT3 := HT4
      clear HG4 HS4 HY4 HT4
      cases ht : tk L j 63 with
      | true =>
        rw [nx_yes ht] at h1
        have hlt := tk_lt ht
        have HR3 := hide h1
        rw [ht] at HIF2
        have HF := hide (show itemF L O i = some ((5, 0, [liftE n t]), j + 1) from HIF2.out)
        obtain ⟨n0, n1, n2, -⟩ := st3_cells HY3.out
        have HTN := hide (tr_node1 (k := 5) (tr_lift n t y S HT3.out) (by omega))
        have HGN := hide (gb_trans HG3.out (gb_alloc wB (.cells #[.int .u8 y.k, .int .u16 y.s, .slice y.a y.l y.c] 55) (some q)))
        have HSN := hide (st3_alloc HS3.out (.cells #[.int .u8 y.k, .int .u16 y.s, .slice y.a y.l y.c] 55))
        have HRN := hide (rd_alloc HR3.out (.cells #[.int .u8 y.k, .int .u16 y.s, .slice y.a y.l y.c] 55))
        have HZ2 := hide (show r < wB.heap.size from st3_lt HS3.out)
        have HND := hide (List.nodup_cons.2 ⟨fun hm => Nat.lt_irrefl _ (tr_lt n t y S HT3.out _ hm), HN.out⟩)
        clear h1 ht HIF2 HS3 HT3 HR3 HG3
        go_wp2_with fail
        generalize wB.alloc (.cells #[.int .u8 y.k, .int .u16 y.s, .slice y.a y.l y.c] 55) = WC at *
        generalize wB.heap.size = zB at *
        refine (mknode_any 5 _ _ _ WC).mono ?_
        rintro e wC ⟨rfl, hb⟩
        obtain ⟨m0, m1, m2, m3⟩ := st3_cells (st3_below HSN.out hb (st3_lt HSN.out))
        have m4 := m3 0
        have m5 := m3 1
        have m6 := m3 2
        have HRF := hide (rd_below HRN.out hb (rd_lt HRN.out))
        have HGF := hide (gb_trans HGN.out (gb_below (q := some q) hb))
        have HTF := hide (tr_below HTN.out hb)
        clear hb m3 HSN HRN HGN HTN n0 n1 n2
        go_wp2
        refine bodyPost_ret (v := .agg #[.int .u8 5, .int .u16 0, .slice (some ⟨zB, 0, none⟩) 1 1]) (by simp [results, Tryz.results137, go_sem, m0, m1, m2]) rfl ?_
        rw [HF.out]
        exact ⟨⟨5, 0, some ⟨zB, 0, none⟩, 1, 1⟩, _, rfl, fin_tr HTF.out (fun b hb => by rcases List.mem_cons.1 hb with rfl | hb; exact HZ2.out; exact HSS.out b hb) _ _ _, HND.out, (fun b hb => by have := HQ.out; rcases List.mem_cons.1 hb with rfl | hb; (have := HZ2.out; omega); (have := HSS.out b hb; omega)), by omega, hlt, fin_rd HRF.out hqr _ _ _, fin_gb HGF.out (by have := HQ.out; omega) _ _ _⟩

      | false =>
        rw [nx_no ht] at h1
        have HR3 := hide h1
        rw [ht] at HIF2
        clear h1 ht
        go_wp2_with fail
        refine (takes_any q L j 43 wB hj hL HR3.out).mono ?_
        rintro e wC ⟨rfl, h1, h2⟩
        have HG4 := hide (gb_trans HG3.out h2)
        have HS4 := hide (st3_grown HS3.out h2 (by simp; omega))
        have HY4 := hide (st3_grown HY3.out h2 (by simp; omega))
        have HT4 := hide (tr_gb HT3.out h2 HSQ.out)
        clear h2 HR3 HG3 HS3 HY3 HT3
        have HG3 := HG4
        have HS3 := HS4
        have HY3 := HY4
        have HT3 := HT4
        clear HG4 HS4 HY4 HT4
        cases ht : tk L j 43 with
        | false =>
          rw [nx_no ht] at h1
          rw [ht] at HIF2
          have HF := hide (show itemF L O i = some (liftE (n + 1) (liftE n t), j) from HIF2.out)
          have HRF := hide h1
          obtain ⟨n0, n1, n2, -⟩ := st3_cells HY3.out
          obtain ⟨m0, m1, m2, m3⟩ := st3_cells HS3.out
          have m4 := m3 0
          have m5 := m3 1
          have m6 := m3 2
          clear h1 ht HIF2 m3 HY3 HS3
          go_wp2
          refine bodyPost_ret (v := .agg #[.int .u8 y.k, .int .u16 y.s, .slice y.a y.l y.c]) (by simp [results, Tryz.results137, go_sem, m0, m1, m2]) rfl ?_
          rw [HF.out]
          exact ⟨y, S, rfl, fin_tr (tr_lift _ _ _ _ (tr_lift n t y S HT3.out)) HSS.out _ _ _, HN.out, (fun b hb => by have := HSS.out b hb; have := HQ.out; omega), hij, hj, fin_rd HRF.out hqr _ _ _, fin_gb HG3.out (by have := HQ.out; omega) _ _ _⟩
        | true =>
          rw [nx_yes ht] at h1
          have hlt := tk_lt ht
          have HR3 := hide h1
          rw [ht] at HIF2
          obtain ⟨n0, n1, n2, -⟩ := st3_cells HY3.out
          clear h1 ht
          cases hri : rightE n t with
          | false =>
            rw [hri] at HIF2
            have HF := hide (show itemF L O i = none from HIF2.out)
            have HRI := hide hri
            clear HIF2 hri
            go_wp2_with fail
            refine (copied_no n t _ wC (tr_rx n t y S HT3.out) HRI.out).mono ?_
            rintro e wD ⟨rfl, hb⟩
            have HGF := hide (gb_trans HG3.out (gb_below (q := some q) hb))
            clear hb
            go_wp2
            refine ⟨rfl, ?_⟩
            rw [HF.out]
            exact ⟨rfl, HGF.out⟩
          | true =>
            rw [hri] at HIF2
            have HF := hide (show itemF L O i = some ((2, 0, [liftE n t, ((4, 0, [t]) : Ex (n + 1))]), j + 1) from HIF2.out)
            have HRI := hide hri
            clear HIF2 hri
            go_wp2_with fail
            refine (copied_yes n t _ wC (tr_rx n t y S HT3.out) HRI.out).mono ?_
            rintro e wD ⟨y2, S2, rfl, hT2, hN2, hS2, hb⟩
            have hTD := tr_below HT3.out hb
            have hSD := st3_below HS3.out hb (st3_lt HS3.out)
            have hYD := st3_below HY3.out hb (st3_lt HY3.out)
            have hRD := rd_below HR3.out hb (rd_lt HR3.out)
            have hGD := gb_trans HG3.out (gb_below (q := some q) hb)
            have HS12 := hide (show ∀ b ∈ S, ∀ c ∈ S2, b < c from fun b hb1 c hc => by have := tr_lt n t y S HT3.out b hb1; have := hS2 c hc; omega)
            have HS2L := hide (show ∀ c ∈ S2, r < c from fun c hc => by have := hS2 c hc; have := st3_lt HS3.out; omega)
            have HSD1 := hide (show ∀ b ∈ S, b < wD.heap.size from tr_lt n t y S hTD)
            have HSD2 := hide (show ∀ b ∈ S2, b < wD.heap.size from tr_lt n t y2 S2 hT2)
            have HN2 := hide hN2
            have HRD2 := hide (show r < wD.heap.size from st3_lt hSD)
            have HTE := hide (tr_alloc hTD (.cells #[.int .u8 y2.k, .int .u16 y2.s, .slice y2.a y2.l y2.c] 55))
            have HSE := hide (st3_alloc hSD (.cells #[.int .u8 y2.k, .int .u16 y2.s, .slice y2.a y2.l y2.c] 55))
            have HYE := hide (st3_alloc hYD (.cells #[.int .u8 y2.k, .int .u16 y2.s, .slice y2.a y2.l y2.c] 55))
            have HRE := hide (rd_alloc hRD (.cells #[.int .u8 y2.k, .int .u16 y2.s, .slice y2.a y2.l y2.c] 55))
            have HGE := hide (gb_trans hGD (gb_alloc wD (.cells #[.int .u8 y2.k, .int .u16 y2.s, .slice y2.a y2.l y2.c] 55) (some q)))
            have HT2E := hide (tr_node1 (k := 4) hT2 (by omega))
            clear hT2 hN2 hS2 hb hTD hSD hYD hRD hGD HT3 HS3 HY3 HR3 HG3 n0 n1 n2
            go_wp2_with fail
            have HZE := hide (show (wD.alloc (.cells #[.int .u8 y2.k, .int .u16 y2.s, .slice y2.a y2.l y2.c] 55)).heap.size = wD.heap.size + 1 by simp)
            generalize wD.alloc (.cells #[.int .u8 y2.k, .int .u16 y2.s, .slice y2.a y2.l y2.c] 55) = WE at *
            generalize wD.heap.size = zD at *
            refine (mknode_any 4 _ _ _ WE).mono ?_
            rintro e wF ⟨rfl, hb⟩
            have hTG := tr_alloc (tr_below HTE.out hb) (.cells #[.int .u8 4, .int .u16 0, .slice (some ⟨zD, 0, none⟩) 1 1] 55)
            have hT2G := tr_alloc (tr_below HT2E.out hb) (.cells #[.int .u8 4, .int .u16 0, .slice (some ⟨zD, 0, none⟩) 1 1] 55)
            have hSG := st3_alloc (st3_below HSE.out hb (st3_lt HSE.out)) (.cells #[.int .u8 4, .int .u16 0, .slice (some ⟨zD, 0, none⟩) 1 1] 55)
            have hYG := st3_alloc (st3_below HYE.out hb (st3_lt HYE.out)) (.cells #[.int .u8 4, .int .u16 0, .slice (some ⟨zD, 0, none⟩) 1 1] 55)
            have hRG := rd_alloc (rd_below HRE.out hb (rd_lt HRE.out)) (.cells #[.int .u8 4, .int .u16 0, .slice (some ⟨zD, 0, none⟩) 1 1] 55)
            have hGG := gb_trans (gb_trans HGE.out (gb_below (q := some q) hb)) (gb_alloc wF (.cells #[.int .u8 4, .int .u16 0, .slice (some ⟨zD, 0, none⟩) 1 1] 55) (some q))
            have hX := st3_new wF 4 0 (.slice (some ⟨zD, 0, none⟩) 1 1)
            have HFZ := hide (show zD < wF.heap.size by have := hb.size; have := HZE.out; omega)
            have HTG := hide hTG
            have HT2G := hide hT2G
            have HSG := hide hSG
            have HYG := hide hYG
            have HRG := hide hRG
            have HGG := hide hGG
            have HXG := hide hX
            have HZG := hide (show (wF.alloc (.cells #[.int .u8 4, .int .u16 0, .slice (some ⟨zD, 0, none⟩) 1 1] 55)).heap.size = wF.heap.size + 1 by simp)
            obtain ⟨n0, n1, n2, -⟩ := st3_cells HYG.out
            have HTH := hide (tr_node2 (k := 2) (tr_lift n t y S HTG.out) HT2G.out (by omega))
            have HSH := hide (st3_alloc HSG.out (.cells #[.int .u8 y.k, .int .u16 y.s, .slice y.a y.l y.c, .int .u8 4, .int .u16 0, .slice (some ⟨zD, 0, none⟩) 1 1] 55))
            have HRH := hide (rd_alloc HRG.out (.cells #[.int .u8 y.k, .int .u16 y.s, .slice y.a y.l y.c, .int .u8 4, .int .u16 0, .slice (some ⟨zD, 0, none⟩) 1 1] 55))
            have HGH := hide (gb_trans HGG.out (gb_alloc (wF.alloc (.cells #[.int .u8 4, .int .u16 0, .slice (some ⟨zD, 0, none⟩) 1 1] 55)) (.cells #[.int .u8 y.k, .int .u16 y.s, .slice y.a y.l y.c, .int .u8 4, .int .u16 0, .slice (some ⟨zD, 0, none⟩) 1 1] 55) (some q)))
            rw [HZG.out] at HTH
            clear hb hTG hT2G hSG hYG hRG hGG hX HTE HSE HYE HRE HGE HT2E HTG HT2G HSG HYG HRG HGG HXG
            go_wp2_with fail
            have HTH2 := hide (show Tr ((wF.alloc (.cells #[.int .u8 4, .int .u16 0, .slice (some ⟨zD, 0, none⟩) 1 1] 55)).alloc (.cells #[.int .u8 y.k, .int .u16 y.s, .slice y.a y.l y.c, .int .u8 4, .int .u16 0, .slice (some ⟨zD, 0, none⟩) 1 1] 55)) (n + 2) ((2, 0, [liftE n t, ((4, 0, [t]) : Ex (n + 1))]) : Ex (n + 2)) ⟨2, 0, some ⟨wF.heap.size + 1, 0, none⟩, 2, 2⟩ ((wF.heap.size + 1) :: (S ++ zD :: S2)) from HTH.out)
            clear HTH
            generalize (wF.alloc (.cells #[.int .u8 4, .int .u16 0, .slice (some ⟨zD, 0, none⟩) 1 1] 55)).alloc (.cells #[.int .u8 y.k, .int .u16 y.s, .slice y.a y.l y.c, .int .u8 4, .int .u16 0, .slice (some ⟨zD, 0, none⟩) 1 1] 55) = WH at *
            refine (mknode_any 2 _ _ _ WH).mono ?_
            rintro e wI ⟨rfl, hb⟩
            obtain ⟨m0, m1, m2, m3⟩ := st3_cells (st3_below HSH.out hb (st3_lt HSH.out))
            have m4 := m3 0
            have m5 := m3 1
            have m6 := m3 2
            have HRF := hide (rd_below HRH.out hb (rd_lt HRH.out))
            have HGF := hide (gb_trans HGH.out (gb_below (q := some q) hb))
            have HTF := hide (tr_below HTH2.out hb)
            clear hb m3 HSH HRH HGH HTH2 n0 n1 n2
            go_wp2
            refine bodyPost_ret (v := .agg #[.int .u8 2, .int .u16 0, .slice (some ⟨wF.heap.size + 1, 0, none⟩) 2 2]) (by simp [results, Tryz.results137, go_sem, m0, m1, m2]) rfl ?_
            rw [HF.out]
            have hrF := HFZ.out
            have hmem : ∀ b ∈ (wF.heap.size + 1) :: (S ++ zD :: S2), r < b := fun b hb => by
              have := HRD2.out
              rcases List.mem_cons.1 hb with rfl | hb
              · omega
              · rcases List.mem_append.1 hb with hb | hb
                · exact HSS.out b hb
                · rcases List.mem_cons.1 hb with rfl | hb
                  · omega
                  · exact HS2L.out b hb
            have hnd : ((wF.heap.size + 1) :: (S ++ zD :: S2)).Nodup := by
              refine List.nodup_cons.2 ⟨fun hm => ?_, List.nodup_append.2 ⟨HN.out, List.nodup_cons.2 ⟨fun hm => Nat.lt_irrefl _ (HSD2.out _ hm), HN2.out⟩, fun b hb c hc e => ?_⟩⟩
              · rcases List.mem_append.1 hm with hm | hm
                · have := HSD1.out _ hm; omega
                · rcases List.mem_cons.1 hm with hm | hm
                  · omega
                  · have := HSD2.out _ hm; omega
              · subst e
                rcases List.mem_cons.1 hc with hc | hc
                · have := HSD1.out _ hb; omega
                · have := HS12.out _ hb _ hc; omega
            exact ⟨⟨2, 0, some ⟨wF.heap.size + 1, 0, none⟩, 2, 2⟩, _, rfl, fin_tr HTF.out hmem _ _ _, hnd, (fun b hb => by have := HQ.out; have := hmem b hb; omega), by omega, hlt, fin_rd HRF.out hqr _ _ _, fin_gb HGF.out (by have := HQ.out; omega) _ _ _⟩
end Go.Proofs.YtbbfjjjnifomgaaGreatDoor.A



/- The reader's alternative. -/
namespace Go.Proofs.YtbbfjjjnifomgaaGreatDoor.A
open Go.RowKit
set_option linter.unusedVariables false

theorem gb_row {w W w3 : World} {q : Nat} {row : Option Nat} (h : w.grownBy W (some q)) (hg : W.grownBy w3 row) (hr : ∀ k, row = some k → w.heap.size ≤ k) : w.grownBy w3 (some q) :=
  ⟨hg.os.trans h.os, hg.tape.trans h.tape, hg.output.trans h.output, Nat.le_trans h.size hg.size, fun k hk hq => (hg.block k (Nat.lt_of_lt_of_le hk h.size) (fun e => by have := hr k e.symm; omega)).trans (h.block k hk hq)⟩
theorem rd_row {w w' : World} {q j : Nat} {L : ByteArray} {row : Option Nat} (h : Rd w q L j) (hg : w.grownBy w' row) (hr : some q ≠ row) : Rd w' q L j := (hg.block q (rd_lt h) hr).trans h
/-- One more. -/
theorem mkg_more {base q : Nat} {wr w2 w3 : World} {n : Nat} {l : List (Ex n)} {v : Value} {ys : List Nd} {Ss : List (List Nat)} (h : Mkg base wr n l v ys Ss) (hg : wr.grownBy w2 (some q)) (hq : q < base) (hbw : base ≤ wr.heap.size) {t : Ex n} {y : Nd} {S : List Nat} (hT : Tr w2 n t y S) (hN : S.Nodup) (hS : ∀ b ∈ S, wr.heap.size ≤ b) (o : Obj) {g cap : Nat}
    (hown : w3.ownsRow base 55 3 (.slice (some ⟨g, 0, none⟩) (l.length + 1) cap) (l.length + 1) (cellsN ys ++ cellsO y)) (hgrow : (w2.alloc o).grownBy w3 v.ownBlock) (hat : v.ownBlock = some g ∨ g = w2.heap.size + 1) :
    Mkg base w3 n (l ++ [t]) (.slice (some ⟨g, 0, none⟩) (l.length + 1) cap) (ys ++ [y]) (Ss ++ [S]) := by
  have h2 := mkg_kept h (keep_gb hg hq)
  have h3 := mkg_kept h2 (keep_below (B := base) ((Below.refl w2.heap.size w2).alloc (Nat.le_refl _) o))
  refine mkg_app h3 (tr_alloc hT o) hN (lo := wr.heap.size) (fun b hb => ⟨hS b hb, by have := tr_lt _ _ _ _ hT b hb; simp; omega⟩) hbw (fun b hb => (h.2.2.2.2.2.1 b hb).2) (fun g hg' => (h.1.lt g hg').2) hown hgrow (by simpa using hat)

/-- Items, as many as there are. -/
def altL (L : ByteArray) {m : Nat} (I : Nat → Option (Ex m × Nat)) : Nat → List (Ex m) → Nat → Option (List (Ex m) × Nat)
  | 0, _, _ => none
  | f + 1, l, j => if (decide (j < L.size) && !decide (by8 L j = 124) && !decide (by8 L j = 41)) = true then match I j with
      | none => none
      | some (t, j2) => altL L I f (l ++ [t]) j2
    else some (l, j)
def tgO (k : Nat) {m : Nat} (R : Option (List (Ex m) × Nat)) : Option (Ex (m + 1) × Nat) := match R with
  | none => none
  | some (l, j) => some (togE k l, j)
def altF (L : ByteArray) {m : Nat} (I : Nat → Option (Ex m × Nat)) (i : Nat) : Option (Ex (m + 1) × Nat) := tgO 2 (altL L I (L.size + 1) [] i)
theorem keep_drewN (B : Nat) (w : World) (n : Nat) : Keep B w (w.drewN n) := ⟨Nat.le_refl _, fun _ _ _ => rfl⟩

set_option maxHeartbeats 12800000 in
theorem alt_any (q : Nat) (L : ByteArray) (i m : Nat) (I : Nat → Option (Ex m × Nat)) (w : World) (hi : i ≤ L.size) (hL : L.size ≤ 2000) (h : Rd w q L i)
    (hI : ∀ j, i ≤ j → j ≤ L.size → ∀ u : World, Rd u q L j → Calls Tryz.prog 137 #[.pointer (some ⟨q, 0, none⟩)] u fun e w' => OutE u q L (j + 1) m (I j) e w') :
    Calls Tryz.prog 115 #[.pointer (some ⟨q, 0, none⟩)] w fun e w' => OutE w q L i (m + 1) (altF L I i) e w' := by
  obtain ⟨i0, hi0, hz0, hz1, hz2⟩ := info_parts info55
  have hq := rd_lt h
  have HRA := hide (rd_alloc h (.cells #[.int .u8 0, .int .u16 0, .slice none 0 0] 55))
  have HGA := hide (gb_alloc w (.cells #[.int .u8 0, .int .u16 0, .slice none 0 0] 55) (some q))
  have HSA := hide (st3_new w 0 0 (.slice none 0 0))
  have HZA := hide (show (w.alloc (.cells #[.int .u8 0, .int .u16 0, .slice none 0 0] 55)).heap.size = w.heap.size + 1 by simp)
  have HII := hide hI
  obtain ⟨R, hR⟩ : ∃ R, altL L I (L.size + 1) [] i = R := ⟨_, rfl⟩
  have HF := hide (show altF L I i = tgO 2 R from by rw [← hR]; rfl)
  have HRR := hide hR
  clear h hI hR
  go_enter Tryz.func115, Tryz.ntmps115
  go_wp2_with fail
  generalize w.alloc (.cells #[.int .u8 0, .int .u16 0, .slice none 0 0] 55) = W at *
  obtain ⟨r, hr⟩ : ∃ r, w.heap.size = r := ⟨_, rfl⟩
  rw [hr] at HSA HZA ⊢
  have HQ := hide hr
  have hqr : q ≠ r := by omega
  have HQR := hide (show q < r by omega)
  clear hr hq
  go_loopw [3] (fun s wr => ∃ (l : List (Ex m)) (j f : Nat) (ys : List Nd) (Ss : List (List Nat)), Mkg (r + 1) wr m l s ys Ss ∧ l.length ≤ j ∧ i ≤ j ∧ j ≤ L.size ∧ L.size < j + f ∧ Rd wr q L j ∧ w.grownBy wr (some q) ∧ St3 wr r 0 0 (.slice none 0 0) ∧ altL L I f l j = R) (fun _ wr => L.size + 1 - posOf wr q)
  case atStart => exact ⟨[], i, L.size + 1, [], [], mkg_nil _ _ _, Nat.zero_le _, Nat.le_refl _, hi, by omega, HRA.out, HGA.out, HSA.out, HRR.out⟩
  case round =>
    obtain ⟨l, j, f, ys, Ss, hmk, hlj, hij, hj, hf, hrd, hg, hst, hal⟩ := hrel
    obtain ⟨f, rfl⟩ : ∃ f', f = f' + 1 := ⟨f - 1, by omega⟩
    have HAL := hide (show (if (decide (j < L.size) && !decide (by8 L j = 124) && !decide (by8 L j = 41)) = true then match I j with
      | none => none
      | some (t, j2) => altL L I f (l ++ [t]) j2
      else some (l, j)) = R from hal)
    obtain ⟨p0, p1, f0, f1⟩ := rd_cells hrd
    have HRD := hide hrd
    have HG := hide hg
    have HST := hide hst
    have HM := hide hmk
    have HPO := hide (pos_rd hrd)
    have hj0 : (0 : Int) ≤ (j : Int) := by omega
    clear hrd hg hst hmk hal
    by_cases hgo : (decide (j < L.size) && !decide (by8 L j = 124) && !decide (by8 L j = 41)) = true
    · rw [hgo] at HAL
      have HAL2 := hide (show (match I j with
        | none => none
        | some (t, j2) => altL L I f (l ++ [t]) j2) = R from HAL.out)
      clear HAL
      simp only [Bool.and_eq_true, decide_eq_true_eq, Bool.not_eq_true', decide_eq_false_iff_not] at hgo
      obtain ⟨⟨hlt, h124⟩, h41⟩ := hgo
      have hlt' : (j : Int) < (L.size : Int) := by omega
      have g1 : decide ((j : Int) < (L.size : Int)) = true := by simp; omega
      have e8 : by8 L j = (L[j]'hlt).toNat := by unfold by8; rw [dif_pos hlt]
      rw [e8] at h124 h41
      have z1 : (((L[j]'hlt).toNat : Int) == 124) = false := by simp; omega
      have z2 : decide (((L[j]'hlt).toNat : Int) = 124) = false := by simp; omega
      have z3 : (((L[j]'hlt).toNat : Int) != 124) = true := by simp; omega
      have y1 : (((L[j]'hlt).toNat : Int) == 41) = false := by simp; omega
      have y2 : decide (((L[j]'hlt).toNat : Int) = 41) = false := by simp; omega
      have y3 : (((L[j]'hlt).toNat : Int) != 41) = true := by simp; omega
      clear e8 h124 h41
      go_wp2
      go_quiet (fail)
      go_wp2_with fail
      have HM2 := hide (mkg_kept HM.out (keep_drewN _ _ nq))
      have HR2 := hide (rd_drewN HRD.out nq)
      have HG2 := hide (gb_trans HG.out (gb_drewN wr (some q) nq))
      have HS2 := hide (show St3 (wr.drewN nq) r 0 0 (.slice none 0 0) from HST.out)
      clear HM HRD HG HST p0 p1 f0 f1
      generalize wr.drewN nq = U at *
      refine (HII.out j hij hj U HR2.out).mono ?_
      intro e w2 hout
      cases hIj : I j with
      | none =>
        rw [hIj] at hout HAL2
        obtain ⟨rfl, h3⟩ := hout
        have HFE := hide (show altF L I i = none by rw [HF.out, ← HAL2.out]; rfl)
        have HGF := hide (gb_trans HG2.out h3)
        clear h3 hIj HAL2
        go_wp2
        refine ⟨rfl, ?_⟩
        rw [HFE.out]
        exact ⟨rfl, HGF.out⟩
      | some p =>
        obtain ⟨t, j2⟩ := p
        rw [hIj] at hout HAL2
        obtain ⟨y, S, rfl, hT, hN, hS, hij2, hj2, h3, h4⟩ := hout
        have HAL3 := hide (show altL L I f (l ++ [t]) j2 = R from HAL2.out)
        obtain ⟨ln, hln⟩ : ∃ ln, l.length = ln := ⟨_, rfl⟩
        have HLN := hide hln
        have hbU : r + 1 ≤ U.heap.size := st3_lt HS2.out
        have HOW := hide (show (w2.alloc (.cells #[.int .u8 y.k, .int .u16 y.s, .slice y.a y.l y.c] 55)).ownsRow (r + 1) 55 3 u3 ln (cellsN ys) from by
          have ho := (mkg_kept HM2.out (keep_gb h4 (by have := HQR.out; omega))).1.alloc (.cells #[.int .u8 y.k, .int .u16 y.s, .slice y.a y.l y.c] 55)
          rw [hln] at ho
          exact ho)
        have HNW := hide (one_newN w2 y 55)
        have HBW := hide (show r + 1 ≤ (w2.alloc (.cells #[.int .u8 y.k, .int .u16 y.s, .slice y.a y.l y.c] 55)).heap.size by have := h4.size; simp; omega)
        have HVB := hide (fun k (e : u3.ownBlock = some k) => (HM2.out.1.lt k e).1)
        have HMM := hide (fun (w3 : World) (g cap : Nat) (a1 : w3.ownsRow (r + 1) 55 3 (.slice (some ⟨g, 0, none⟩) (l.length + 1) cap) (l.length + 1) (cellsN ys ++ cellsO y)) a2 a3 => mkg_more (w3 := w3) (g := g) (cap := cap) HM2.out h4 (by have := HQR.out; omega) hbU hT hN hS (.cells #[.int .u8 y.k, .int .u16 y.s, .slice y.a y.l y.c] 55) a1 a2 a3)
        have HR3 := hide (rd_alloc h3 (.cells #[.int .u8 y.k, .int .u16 y.s, .slice y.a y.l y.c] 55))
        have HS3 := hide (st3_alloc (st3_grown HS2.out h4 (by simp; omega)) (.cells #[.int .u8 y.k, .int .u16 y.s, .slice y.a y.l y.c] 55))
        have HG3 := hide (gb_trans (gb_trans HG2.out h4) (gb_alloc w2 (.cells #[.int .u8 y.k, .int .u16 y.s, .slice y.a y.l y.c] 55) (some q)))
        rw [hln] at HMM hlj
        clear hT hN hS h3 h4 hIj HAL2 hln HM2 HR2 HG2 HS2
        go_wp2_with (at_builtin; refine wpList_append_lies _ rfl _ _ 50 rfl (r + 1) 55 i0 (.agg #[.int .u8 0, .int .u16 0, .slice none 0 0]) 3 32 Tryz.underlying50 hi0 hz0 hz1 hz2 rfl (by omega) u3 ln (cellsN ys) rfl HOW.out ⟨w2.heap.size, 0, none⟩ 1 1 (cellsO y) rfl rfl HNW.out (cellsO_one' y) (by omega) (by unfold maxLen; omega) (by omega) HBW.out (w2.heap.size + 1) (by simp) ?_)
        intro g cap w3 hown3 hgrow3 hat3 hlt3
        have HM3 := hide (HMM.out w3 g cap hown3 hgrow3 hat3)
        have HR4 := hide (rd_row HR3.out hgrow3 (fun e => by have := HVB.out q e.symm; have := HQR.out; omega))
        have HS4 := hide (st3_grown HS3.out hgrow3 (fun e => by have := HVB.out r e.symm; omega))
        have HG4 := hide (gb_row HG3.out hgrow3 (fun k e => by have := HVB.out k e; have := HQ.out; omega))
        have HPN := hide (pos_rd HR4.out)
        clear hown3 hgrow3 hat3 hlt3 HMM HOW HNW HBW HR3 HS3 HG3
        go_wp2
        exact ⟨⟨l ++ [t], j2, f, _, _, HM3.out, by have := HLN.out; simp; omega, by omega, hj2, by omega, HR4.out, HG4.out, HS4.out, HAL3.out⟩, by rw [HPN.out, HPO.out]; omega⟩
    · have HFE := hide (show altF L I i = some (togE 2 l, j) by
        rw [HF.out, ← HAL.out, if_neg hgo]; rfl)
      clear HAL
      have hcase : (j = L.size) ∨ (∃ hlt : j < L.size, (L[j]'hlt).toNat = 124) ∨ (∃ hlt : j < L.size, (L[j]'hlt).toNat = 41 ∧ (L[j]'hlt).toNat ≠ 124) := by
        simp only [Bool.and_eq_true, decide_eq_true_eq, Bool.not_eq_true', decide_eq_false_iff_not] at hgo
        by_cases hlt : j < L.size
        · have e8 : by8 L j = (L[j]'hlt).toNat := by unfold by8; rw [dif_pos hlt]
          rw [e8] at hgo
          by_cases h1 : (L[j]'hlt).toNat = 124
          · exact .inr (.inl ⟨hlt, h1⟩)
          · exact .inr (.inr ⟨hlt, by
              by_cases h2 : (L[j]'hlt).toNat = 41
              · exact h2
              · exact absurd ⟨⟨hlt, h1⟩, h2⟩ hgo, h1⟩)
        · exact .inl (by omega)
      clear hgo
      rcases hcase with hA | ⟨hlt, hB⟩ | ⟨hlt, hB, hB2⟩
      · subst hA
        have g1 : decide ((L.size : Int) < (L.size : Int)) = false := by simp
        go_wp2
        go_quiet (fail)
        go_wp2_with fail
        have HM2 := hide (mkg_kept HM.out (keep_drewN _ _ nq))
        have HR2 := hide (rd_drewN HRD.out nq)
        have HG2 := hide (gb_trans HG.out (gb_drewN wr (some q) nq))
        have HS2 := hide (show St3 (wr.drewN nq) r 0 0 (.slice none 0 0) from HST.out)
        clear HM HRD HG HST
        generalize wr.drewN nq = U at *
        refine (together_any (r + 1) 2 m l _ ys Ss U (by omega) (by omega) HM2.out).mono ?_
        rintro e w3 ⟨y, S, rfl, hT, hN, hS, hb⟩
        obtain ⟨m0, m1, m2, m3⟩ := st3_cells (st3_below HS2.out hb (st3_lt HS2.out))
        have m4 := m3 0
        have m5 := m3 1
        have m6 := m3 2
        have HRF := hide (rd_below HR2.out hb (rd_lt HR2.out))
        have HGF := hide (gb_trans HG2.out (gb_below (q := some q) hb))
        have HTF := hide hT
        have HNF := hide hN
        have HSF := hide hS
        clear hb m3 hT hN hS HM2 HR2 HG2 HS2
        go_wp2
        refine bodyPost_ret (v := .agg #[.int .u8 y.k, .int .u16 y.s, .slice y.a y.l y.c]) (by simp [results, Tryz.results115, go_sem, m0, m1, m2]) rfl ?_
        rw [HFE.out]
        exact ⟨y, S, rfl, fin_tr HTF.out (fun b hb => by have := HSF.out b hb; omega) _ _ _, HNF.out, (fun b hb => by have := HSF.out b hb; have := HQ.out; omega), hij, hj, fin_rd HRF.out hqr _ _ _, fin_gb HGF.out (by have := HQ.out; omega) _ _ _⟩

      · have hlt' : (j : Int) < (L.size : Int) := by omega
        have g1 : decide ((j : Int) < (L.size : Int)) = true := by simp; omega
        have z1 : (((L[j]'hlt).toNat : Int) == 124) = true := by simp; omega
        have z2 : decide (((L[j]'hlt).toNat : Int) = 124) = true := by simp; omega
        have z3 : (((L[j]'hlt).toNat : Int) != 124) = false := by simp; omega
        clear hB
        go_wp2
        go_quiet (fail)
        go_wp2_with fail
        have HM2 := hide (mkg_kept HM.out (keep_drewN _ _ nq))
        have HR2 := hide (rd_drewN HRD.out nq)
        have HG2 := hide (gb_trans HG.out (gb_drewN wr (some q) nq))
        have HS2 := hide (show St3 (wr.drewN nq) r 0 0 (.slice none 0 0) from HST.out)
        clear HM HRD HG HST
        generalize wr.drewN nq = U at *
        refine (together_any (r + 1) 2 m l _ ys Ss U (by omega) (by omega) HM2.out).mono ?_
        rintro e w3 ⟨y, S, rfl, hT, hN, hS, hb⟩
        obtain ⟨m0, m1, m2, m3⟩ := st3_cells (st3_below HS2.out hb (st3_lt HS2.out))
        have m4 := m3 0
        have m5 := m3 1
        have m6 := m3 2
        have HRF := hide (rd_below HR2.out hb (rd_lt HR2.out))
        have HGF := hide (gb_trans HG2.out (gb_below (q := some q) hb))
        have HTF := hide hT
        have HNF := hide hN
        have HSF := hide hS
        clear hb m3 hT hN hS HM2 HR2 HG2 HS2
        go_wp2
        refine bodyPost_ret (v := .agg #[.int .u8 y.k, .int .u16 y.s, .slice y.a y.l y.c]) (by simp [results, Tryz.results115, go_sem, m0, m1, m2]) rfl ?_
        rw [HFE.out]
        exact ⟨y, S, rfl, fin_tr HTF.out (fun b hb => by have := HSF.out b hb; omega) _ _ _, HNF.out, (fun b hb => by have := HSF.out b hb; have := HQ.out; omega), hij, hj, fin_rd HRF.out hqr _ _ _, fin_gb HGF.out (by have := HQ.out; omega) _ _ _⟩

      · have hlt' : (j : Int) < (L.size : Int) := by omega
        have g1 : decide ((j : Int) < (L.size : Int)) = true := by simp; omega
        have z1 : (((L[j]'hlt).toNat : Int) == 124) = false := by simp; omega
        have z2 : decide (((L[j]'hlt).toNat : Int) = 124) = false := by simp; omega
        have z3 : (((L[j]'hlt).toNat : Int) != 124) = true := by simp; omega
        have y1 : (((L[j]'hlt).toNat : Int) == 41) = true := by simp; omega
        have y2 : decide (((L[j]'hlt).toNat : Int) = 41) = true := by simp; omega
        have y3 : (((L[j]'hlt).toNat : Int) != 41) = false := by simp; omega
        clear hB hB2
        go_wp2
        go_quiet (fail)
        go_wp2_with fail
        have HM2 := hide (mkg_kept HM.out (keep_drewN _ _ nq))
        have HR2 := hide (rd_drewN HRD.out nq)
        have HG2 := hide (gb_trans HG.out (gb_drewN wr (some q) nq))
        have HS2 := hide (show St3 (wr.drewN nq) r 0 0 (.slice none 0 0) from HST.out)
        clear HM HRD HG HST
        generalize wr.drewN nq = U at *
        refine (together_any (r + 1) 2 m l _ ys Ss U (by omega) (by omega) HM2.out).mono ?_
        rintro e w3 ⟨y, S, rfl, hT, hN, hS, hb⟩
        obtain ⟨m0, m1, m2, m3⟩ := st3_cells (st3_below HS2.out hb (st3_lt HS2.out))
        have m4 := m3 0
        have m5 := m3 1
        have m6 := m3 2
        have HRF := hide (rd_below HR2.out hb (rd_lt HR2.out))
        have HGF := hide (gb_trans HG2.out (gb_below (q := some q) hb))
        have HTF := hide hT
        have HNF := hide hN
        have HSF := hide hS
        clear hb m3 hT hN hS HM2 HR2 HG2 HS2
        go_wp2
        refine bodyPost_ret (v := .agg #[.int .u8 y.k, .int .u16 y.s, .slice y.a y.l y.c]) (by simp [results, Tryz.results115, go_sem, m0, m1, m2]) rfl ?_
        rw [HFE.out]
        exact ⟨y, S, rfl, fin_tr HTF.out (fun b hb => by have := HSF.out b hb; omega) _ _ _, HNF.out, (fun b hb => by have := HSF.out b hb; have := HQ.out; omega), hij, hj, fin_rd HRF.out hqr _ _ _, fin_gb HGF.out (by have := HQ.out; omega) _ _ _⟩

end Go.Proofs.YtbbfjjjnifomgaaGreatDoor.A



/- The reader's expression, whole. -/
namespace Go.Proofs.YtbbfjjjnifomgaaGreatDoor.A
open Go.RowKit
set_option linter.unusedVariables false

/-- Alternatives. -/
def exprL (L : ByteArray) {m : Nat} (A : Nat → Option (Ex m × Nat)) : Nat → List (Ex m) → Nat → Option (List (Ex m) × Nat)
  | 0, _, _ => none
  | f + 1, l, j => if tk L j 124 = true then match A (j + 1) with
      | none => none
      | some (t, j2) => exprL L A f (l ++ [t]) j2
    else some (l, j)
def exprF (L : ByteArray) {m : Nat} (A : Nat → Option (Ex m × Nat)) (i : Nat) : Option (Ex (m + 1) × Nat) := match A i with
  | none => none
  | some (t, j) => tgO 3 (exprL L A (L.size + 1) [t] j)

set_option maxHeartbeats 12800000 in
theorem uexpr_any (q : Nat) (L : ByteArray) (i m : Nat) (A : Nat → Option (Ex m × Nat)) (w : World) (hi : i ≤ L.size) (hL : L.size ≤ 2000) (h : Rd w q L i)
    (hA : ∀ j, i ≤ j → j ≤ L.size → ∀ u : World, Rd u q L j → Calls Tryz.prog 115 #[.pointer (some ⟨q, 0, none⟩)] u fun e w' => OutE u q L j m (A j) e w') :
    Calls Tryz.prog 92 #[.pointer (some ⟨q, 0, none⟩)] w fun e w' => OutE w q L i (m + 1) (exprF L A i) e w' := by
  obtain ⟨i0, hi0, hz0, hz1, hz2⟩ := info_parts info55
  have hq := rd_lt h
  have HRA := hide (rd_alloc h (.cells #[.int .u8 0, .int .u16 0, .slice none 0 0] 55))
  have HGA := hide (gb_alloc w (.cells #[.int .u8 0, .int .u16 0, .slice none 0 0] 55) (some q))
  have HSA := hide (st3_new w 0 0 (.slice none 0 0))
  have HZA := hide (show (w.alloc (.cells #[.int .u8 0, .int .u16 0, .slice none 0 0] 55)).heap.size = w.heap.size + 1 by simp)
  have HAA := hide hA
  have HF0 := hide (show exprF L A i = match A i with
    | none => none
    | some (t, j) => tgO 3 (exprL L A (L.size + 1) [t] j) from rfl)
  clear h hA
  go_enter Tryz.func92, Tryz.ntmps92
  go_wp2_with fail
  generalize w.alloc (.cells #[.int .u8 0, .int .u16 0, .slice none 0 0] 55) = W at *
  obtain ⟨r, hr⟩ : ∃ r, w.heap.size = r := ⟨_, rfl⟩
  rw [hr] at HSA HZA ⊢
  have HQ := hide hr
  have hqr : q ≠ r := by omega
  have HQR := hide (show q < r by omega)
  clear hr hq
  refine (HAA.out i (Nat.le_refl _) hi W HRA.out).mono ?_
  intro e w1 hout
  cases hAi : A i with
  | none =>
    rw [hAi] at hout HF0
    obtain ⟨rfl, h3⟩ := hout
    have HGF := hide (gb_trans HGA.out h3)
    have HFE := hide (show exprF L A i = none from HF0.out)
    clear h3 hAi HF0
    go_wp2
    refine ⟨rfl, ?_⟩
    rw [HFE.out]
    exact ⟨rfl, HGF.out⟩
  | some p =>
    obtain ⟨t0, j0⟩ := p
    rw [hAi] at hout HF0
    obtain ⟨y, S, rfl, hT, hN, hS, hij0, hj0, h3, h4⟩ := hout
    obtain ⟨R, hR⟩ : ∃ R, exprL L A (L.size + 1) [t0] j0 = R := ⟨_, rfl⟩
    have HF := hide (show exprF L A i = tgO 3 R from by rw [← hR]; exact HF0.out)
    have HRR := hide hR
    have HM1 := hide (mkg_one (base := r + 1) hT hN (fun b hb => by have := hS b hb; have := HZA.out; omega) (by have := h4.size; have := HZA.out; omega))
    have HR1 := hide (rd_alloc h3 (.cells #[.int .u8 y.k, .int .u16 y.s, .slice y.a y.l y.c] 55))
    have HS1 := hide (st3_alloc (st3_grown HSA.out h4 (by simp; omega)) (.cells #[.int .u8 y.k, .int .u16 y.s, .slice y.a y.l y.c] 55))
    have HG1 := hide (gb_trans (gb_trans HGA.out h4) (gb_alloc w1 (.cells #[.int .u8 y.k, .int .u16 y.s, .slice y.a y.l y.c] 55) (some q)))
    clear hT hN hS h3 h4 hR hAi HF0 HRA HGA HSA HZA
    go_wp2_with fail
    generalize w1.alloc (.cells #[.int .u8 y.k, .int .u16 y.s, .slice y.a y.l y.c] 55) = W1 at *
    generalize w1.heap.size = z1 at *
    go_loopw [3] (fun s wr => ∃ (l : List (Ex m)) (j f : Nat) (ys : List Nd) (Ss : List (List Nat)), Mkg (r + 1) wr m l s ys Ss ∧ l.length ≤ j + 1 ∧ i ≤ j ∧ j ≤ L.size ∧ L.size < j + f ∧ Rd wr q L j ∧ w.grownBy wr (some q) ∧ St3 wr r 0 0 (.slice none 0 0) ∧ exprL L A f l j = R) (fun _ wr => L.size + 1 - posOf wr q)
    case atStart => exact ⟨[t0], j0, L.size + 1, _, _, HM1.out, by simp, hij0, hj0, by omega, HR1.out, HG1.out, HS1.out, HRR.out⟩
    case round =>
      obtain ⟨l, j, f, ys, Ss, hmk, hlj, hij, hj, hf, hrd, hg, hst, hal⟩ := hrel
      obtain ⟨f, rfl⟩ : ∃ f', f = f' + 1 := ⟨f - 1, by omega⟩
      have HAL := hide (show (if tk L j 124 = true then match A (j + 1) with
        | none => none
        | some (t, j2) => exprL L A f (l ++ [t]) j2
        else some (l, j)) = R from hal)
      have HRD := hide hrd
      have HG := hide hg
      have HST := hide hst
      have HM := hide hmk
      have HPO := hide (pos_rd hrd)
      clear hrd hg hst hmk hal
      go_wp2_with fail
      refine (takes_any q L j 124 wr hj hL HRD.out).mono ?_
      rintro e U ⟨rfl, h1, h2⟩
      have HM2 := hide (mkg_kept HM.out (keep_gb h2 (by have := HQR.out; omega)))
      have HG2 := hide (gb_trans HG.out h2)
      have HS2 := hide (st3_grown HST.out h2 (by simp; omega))
      clear h2 HM HRD HG HST
      cases ht : tk L j 124 with
      | false =>
        rw [nx_no ht] at h1
        have HR2 := hide h1
        rw [ht] at HAL
        have HFE := hide (show exprF L A i = some (togE 3 l, j) by rw [HF.out, ← HAL.out]; rfl)
        clear h1 ht HAL
        go_wp2_with fail
        refine (together_any (r + 1) 3 m l _ ys Ss U (by omega) (by omega) HM2.out).mono ?_
        rintro e w3 ⟨y', S', rfl, hT, hN, hS, hb⟩
        obtain ⟨m0, m1, m2, m3⟩ := st3_cells (st3_below HS2.out hb (st3_lt HS2.out))
        have m4 := m3 0
        have m5 := m3 1
        have m6 := m3 2
        have HRF := hide (rd_below HR2.out hb (rd_lt HR2.out))
        have HGF := hide (gb_trans HG2.out (gb_below (q := some q) hb))
        have HTF := hide hT
        have HNF := hide hN
        have HSF := hide hS
        clear hb m3 hT hN hS HM2 HR2 HG2 HS2
        go_wp2
        refine bodyPost_ret (v := .agg #[.int .u8 y'.k, .int .u16 y'.s, .slice y'.a y'.l y'.c]) (by simp [results, Tryz.results92, go_sem, m0, m1, m2]) rfl ?_
        rw [HFE.out]
        exact ⟨y', S', rfl, fin_tr HTF.out (fun b hb => by have := HSF.out b hb; omega) _ _ _, HNF.out, (fun b hb => by have := HSF.out b hb; have := HQ.out; omega), hij, hj, fin_rd HRF.out hqr _ _ _, fin_gb HGF.out (by have := HQ.out; omega) _ _ _⟩
      | true =>
        rw [nx_yes ht] at h1
        have hlt := tk_lt ht
        have HR2 := hide h1
        rw [ht] at HAL
        have HAL2 := hide (show (match A (j + 1) with
          | none => none
          | some (t, j2) => exprL L A f (l ++ [t]) j2) = R from HAL.out)
        clear h1 ht HAL
        go_wp2_with fail
        refine (HAA.out (j + 1) (by omega) hlt U HR2.out).mono ?_
        intro e w2 hout
        cases hIj : A (j + 1) with
        | none =>
          rw [hIj] at hout HAL2
          obtain ⟨rfl, h3⟩ := hout
          have HFE := hide (show exprF L A i = none by rw [HF.out, ← HAL2.out]; rfl)
          have HGF := hide (gb_trans HG2.out h3)
          clear h3 hIj HAL2
          go_wp2
          refine ⟨rfl, ?_⟩
          rw [HFE.out]
          exact ⟨rfl, HGF.out⟩
        | some p =>
          obtain ⟨t, j2⟩ := p
          rw [hIj] at hout HAL2
          obtain ⟨y', S', rfl, hT, hN, hS, hij2, hj2, h3, h4⟩ := hout
          have HAL3 := hide (show exprL L A f (l ++ [t]) j2 = R from HAL2.out)
          obtain ⟨ln, hln⟩ : ∃ ln, l.length = ln := ⟨_, rfl⟩
          have HLN := hide hln
          have hbU : r + 1 ≤ U.heap.size := st3_lt HS2.out
          have HOW := hide (show (w2.alloc (.cells #[.int .u8 y'.k, .int .u16 y'.s, .slice y'.a y'.l y'.c] 55)).ownsRow (r + 1) 55 3 u3 ln (cellsN ys) from by
            have ho := (mkg_kept HM2.out (keep_gb h4 (by have := HQR.out; omega))).1.alloc (.cells #[.int .u8 y'.k, .int .u16 y'.s, .slice y'.a y'.l y'.c] 55)
            rw [hln] at ho
            exact ho)
          have HNW := hide (one_newN w2 y' 55)
          have HBW := hide (show r + 1 ≤ (w2.alloc (.cells #[.int .u8 y'.k, .int .u16 y'.s, .slice y'.a y'.l y'.c] 55)).heap.size by have := h4.size; simp; omega)
          have HVB := hide (fun k (e : u3.ownBlock = some k) => (HM2.out.1.lt k e).1)
          have HMM := hide (fun (w3 : World) (g cap : Nat) (a1 : w3.ownsRow (r + 1) 55 3 (.slice (some ⟨g, 0, none⟩) (l.length + 1) cap) (l.length + 1) (cellsN ys ++ cellsO y')) a2 a3 => mkg_more (w3 := w3) (g := g) (cap := cap) HM2.out h4 (by have := HQR.out; omega) hbU hT hN hS (.cells #[.int .u8 y'.k, .int .u16 y'.s, .slice y'.a y'.l y'.c] 55) a1 a2 a3)
          have HR3 := hide (rd_alloc h3 (.cells #[.int .u8 y'.k, .int .u16 y'.s, .slice y'.a y'.l y'.c] 55))
          have HS3 := hide (st3_alloc (st3_grown HS2.out h4 (by simp; omega)) (.cells #[.int .u8 y'.k, .int .u16 y'.s, .slice y'.a y'.l y'.c] 55))
          have HG3 := hide (gb_trans (gb_trans HG2.out h4) (gb_alloc w2 (.cells #[.int .u8 y'.k, .int .u16 y'.s, .slice y'.a y'.l y'.c] 55) (some q)))
          rw [hln] at HMM hlj
          clear hT hN hS h3 h4 hIj HAL2 hln HM2 HR2 HG2 HS2
          go_wp2_with (at_builtin; refine wpList_append_lies _ rfl _ _ 50 rfl (r + 1) 55 i0 (.agg #[.int .u8 0, .int .u16 0, .slice none 0 0]) 3 32 Tryz.underlying50 hi0 hz0 hz1 hz2 rfl (by omega) u3 ln (cellsN ys) rfl HOW.out ⟨w2.heap.size, 0, none⟩ 1 1 (cellsO y') rfl rfl HNW.out (cellsO_one' y') (by omega) (by unfold maxLen; omega) (by omega) HBW.out (w2.heap.size + 1) (by simp) ?_)
          intro g cap w3 hown3 hgrow3 hat3 hlt3
          have HM3 := hide (HMM.out w3 g cap hown3 hgrow3 hat3)
          have HR4 := hide (rd_row HR3.out hgrow3 (fun e => by have := HVB.out q e.symm; have := HQR.out; omega))
          have HS4 := hide (st3_grown HS3.out hgrow3 (fun e => by have := HVB.out r e.symm; omega))
          have HG4 := hide (gb_row HG3.out hgrow3 (fun k e => by have := HVB.out k e; have := HQ.out; omega))
          have HPN := hide (pos_rd HR4.out)
          clear hown3 hgrow3 hat3 hlt3 HMM HOW HNW HBW HR3 HS3 HG3
          go_wp2
          exact ⟨⟨l ++ [t], j2, f, _, _, HM3.out, by have := HLN.out; simp; omega, by omega, hj2, by omega, HR4.out, HG4.out, HS4.out, HAL3.out⟩, by rw [HPN.out, HPO.out]; omega⟩

/-- An expression, within so many brackets. -/
def exprN (L : ByteArray) : (f : Nat) → Nat → Option (Ex (4 * f + 1) × Nat)
  | 0, _ => none
  | f + 1, i => exprF L (altF L (itemF L (onceF L (exprN L f)))) i
theorem exprN_any (q : Nat) (L : ByteArray) (hL : L.size ≤ 2000) : ∀ (f i : Nat) (w : World), i ≤ L.size → L.size < i + f → Rd w q L i →
    Calls Tryz.prog 92 #[.pointer (some ⟨q, 0, none⟩)] w fun e w' => OutE w q L i (4 * f + 1) (exprN L f i) e w'
  | 0, i, w, hi, hf, h => by omega
  | f + 1, i, w, hi, hf, h => by
    refine uexpr_any q L i (4 * f + 4) (altF L (itemF L (onceF L (exprN L f)))) w hi hL h ?_
    intro j hij hj u hu
    refine alt_any q L j (4 * f + 3) (itemF L (onceF L (exprN L f))) u hj hL hu ?_
    intro k hjk hk u2 hu2
    refine item_any q L k (4 * f + 1) (onceF L (exprN L f)) u2 hk hL hu2 ?_
    intro u3 hu3
    refine once_any q L k (4 * f) (exprN L f) u3 hk hL hu3 ?_
    intro ht u4 hu4
    exact exprN_any q L hL f (k + 1) u4 (tk_lt ht) (by omega) hu4
end Go.Proofs.YtbbfjjjnifomgaaGreatDoor.A


