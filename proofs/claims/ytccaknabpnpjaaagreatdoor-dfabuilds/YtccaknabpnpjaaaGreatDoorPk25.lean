/- What the reader makes: expressions in blocks of their own. -/
import Derived.Test.YtccaknabpnpjaaaGreatDoorPk23
import Derived.Test.YtccaknabpnpjaaaGreatDoorPk24
namespace Go.Proofs.YtccaknabpnpjaaaGreatDoor.A
open Go.RowKit
set_option linter.unusedVariables false

theorem tr_lift {w : World} : ∀ (n : Nat) (t : Ex n) (x : Nd) (S : List Nat), Tr w n t x S → Tr w (n + 1) (liftE n t) x S
  | 0, _, _, _, h => h.elim
  | n + 1, t, x, S, ⟨h1, h2, h3, h4, h5, h6, h7, h8⟩ => by
    refine ⟨h1, h2, h3, h4, h5, h6, ?_, ?_⟩
    · show ((ks t).map (fun x => liftE n x)).length = x.l
      rw [List.length_map]; exact h7
    · rcases h8 with h8 | ⟨b, cs, ys, Ss, a1, a2, a3, a4, a5, a6, a7⟩
      · exact .inl h8
      · refine .inr ⟨b, cs, ys, Ss, a1, a2, a3, a4, a5, a6, fun i e y T he hy hT => ?_⟩
        have he' : ((ks t).map (fun x => liftE n x))[i]? = some e := he
        rw [List.getElem?_map] at he'
        obtain ⟨e0, he0, rfl⟩ := Option.map_eq_some_iff.1 he'
        exact tr_lift n e0 y T (a7 i e0 y T he0 hy hT)
/-- Blocks from some place on stay. -/
def Keep (B : Nat) (w w' : World) : Prop := w.heap.size ≤ w'.heap.size ∧ ∀ b, B ≤ b → b < w.heap.size → w'.heap[b]? = w.heap[b]?
theorem keep_gb {B q : Nat} {w w' : World} (h : w.grownBy w' (some q)) (hq : q < B) : Keep B w w' := ⟨h.size, fun b hb hl => h.block b hl (by intro e; cases e; omega)⟩
theorem keep_below {B : Nat} {w w' : World} (h : Below w.heap.size w w') : Keep B w w' := ⟨h.size, fun b _ hl => h.block b hl⟩
theorem tr_kept {B : Nat} {w w' : World} {n : Nat} {t : Ex n} {x : Nd} {S : List Nat} (h : Tr w n t x S) (hS : ∀ b ∈ S, B ≤ b) (hk : Keep B w w') : Tr w' n t x S := tr_keep n t x S (fun b hb => hk.2 b (hS b hb) (tr_lt n t x S h b hb)) h
theorem mkg_kept {base : Nat} {w w' : World} {n : Nat} {l : List (Ex n)} {v : Value} {ys : List Nd} {Ss : List (List Nat)} (h : Mkg base w n l v ys Ss) (hk : Keep base w w') : Mkg base w' n l v ys Ss := by
  obtain ⟨h1, h2, h3, h4, h5, h6, h7⟩ := h
  refine ⟨⟨h1.1, ?_⟩, h2, h3, fun i e y T he hy hT => tr_keep n e y T (fun b hb => hk.2 b (h6 b (mem_flat hT hb)).1 (h6 b (mem_flat hT hb)).2) (h4 i e y T he hy hT), h5, fun b hb => ⟨(h6 b hb).1, Nat.lt_of_lt_of_le (h6 b hb).2 hk.1⟩, h7⟩
  have hlt := h1.lt
  rcases h1.2 with h0 | ⟨g, cap, cur, hv, hg, hcur, q1, q2, q3, q4⟩
  · exact .inl h0
  · exact .inr ⟨g, cap, cur, hv, hg, (hk.2 g hg (hlt g (by rw [hv]; rfl)).2).trans hcur, q1, q2, q3, q4⟩
/-- A list of one. -/
theorem mkg_one {base : Nat} {w : World} {n : Nat} {t : Ex n} {y : Nd} {S : List Nat} (h : Tr w n t y S) (hn : S.Nodup) (hS : ∀ b ∈ S, base ≤ b) (hb : base ≤ w.heap.size) :
    Mkg base (w.alloc (.cells #[.int .u8 y.k, .int .u16 y.s, .slice y.a y.l y.c] 38)) n [t] (.slice (some ⟨w.heap.size, 0, none⟩) 1 1) [y] [S] := by
  have hlt := tr_lt n t y S h
  refine ⟨⟨by simp [cellsN, cellsO], .inr ⟨w.heap.size, 1, _, rfl, hb, heap_alloc_last w _, Nat.le_refl _, by unfold maxLen; omega, by simp, by simp [cellsN, cellsO]⟩⟩, rfl, rfl, ?_, by simpa using hn, ?_, ?_⟩
  · intro i e y' T he hy hT
    match i with
    | 0 =>
      simp only [List.getElem?_cons_zero, Option.some.injEq] at he hy hT
      subst he; subst hy; subst hT
      exact tr_keep n _ _ _ (fun b hb' => Below.heap_alloc _ _ _ (hlt b hb')) h
    | i + 1 => simp at he
  · intro b hb'
    have : b ∈ S := by simpa using hb'
    exact ⟨hS b this, by have := hlt b this; simp; omega⟩
  · intro g hg hm
    have e : w.heap.size = g := by simpa [Value.ownBlock] using hg
    have : g ∈ S := by simpa using hm
    have := hlt g this
    omega
/-- Of some a node, of one that one, of none the empty word. -/
def togE (k : Nat) {n : Nat} : List (Ex n) → Ex (n + 1)
  | [] => (0, 0, [])
  | [x] => liftE n x
  | l => (k, 0, l)

theorem mknode_any (k : Nat) (a : Option Addr) (len cap : Nat) (w : World) :
    Calls Tryz.prog 99 #[.int .u8 k, .slice a len cap] w fun e w' => e = .returned (.agg #[.int .u8 k, .int .u16 0, .slice a len cap]) ∧ Below w.heap.size w w' := by
  have HB := hide ((Below.refl w.heap.size w).alloc (Nat.le_refl _) (.cells #[.int .u8 k, .int .u16 0, .slice a len cap] 38))
  go_enter Tryz.func99, Tryz.ntmps99
  go_wp2
  refine bodyPost_ret (v := .agg #[.int .u8 k, .int .u16 0, .slice a len cap]) (by simp [results, Tryz.results99, go_sem]) rfl ?_
  exact ⟨rfl, HB.out⟩

/-- What a call that makes an expression answers. -/
def Made (base : Nat) (w : World) (n : Nat) (t : Ex n) (e : Ending) (w' : World) : Prop := ∃ (y : Nd) (S : List Nat), e = .returned (.agg #[.int .u8 y.k, .int .u16 y.s, .slice y.a y.l y.c]) ∧ Tr w' n t y S ∧ S.Nodup ∧ (∀ b ∈ S, base ≤ b) ∧ Below w.heap.size w w'

set_option maxHeartbeats 1600000 in
theorem together_any (base k n : Nat) (l : List (Ex n)) (v : Value) (ys : List Nd) (Ss : List (List Nat)) (w : World) (hk : k < 256) (hl : l.length ≤ 4000) (h : Mkg base w n l v ys Ss) :
    Calls Tryz.prog 91 #[.int .u8 k, v] w fun e w' => Made base w (n + 1) (togE k l) e w' := by
  match l, hl, h with
  | [], _, h =>
    have hform : ∃ a cap, v = .slice a 0 cap := by
      rcases h.1.2 with ⟨rfl, _⟩ | ⟨g, cap, cur, rfl, _⟩
      · exact ⟨_, _, rfl⟩
      · exact ⟨_, _, rfl⟩
    obtain ⟨a, cap, rfl⟩ := hform
    have HB := hide ((Below.refl w.heap.size w).alloc (Nat.le_refl _) (.cells #[.int .u8 0, .int .u16 0, .slice none 0 0] 38))
    clear h
    go_enter Tryz.func91, Tryz.ntmps91
    go_wp2
    refine bodyPost_ret (v := .agg #[.int .u8 0, .int .u16 0, .slice none 0 0]) (by simp [results, Tryz.results91, go_sem]) rfl ?_
    exact ⟨⟨0, 0, none, 0, 0⟩, [], rfl, ⟨rfl, rfl, by show (0 : Nat) < 256; omega, by show (0 : Nat) < 65536; omega, Nat.le_refl _, by show (0 : Nat) ≤ maxLen; unfold maxLen; omega, rfl, .inl ⟨rfl, rfl⟩⟩, by simp, (fun b hb => by cases hb), HB.out⟩
  | [x], _, h =>
    obtain ⟨h1, h2, h3, h4, h5, h6, h7⟩ := h
    obtain ⟨y, rfl⟩ : ∃ y, ys = [y] := by
      match ys, h2 with
      | [y], _ => exact ⟨y, rfl⟩
    obtain ⟨S, rfl⟩ : ∃ S, Ss = [S] := by
      match Ss, h3 with
      | [S], _ => exact ⟨S, rfl⟩
    have hT := h4 0 x y S rfl rfl rfl
    have hlt := tr_lt n x y S hT
    obtain ⟨g, cap, cur, rfl, hg, hcur, q1, q2, q3, q4⟩ : ∃ g cap cur, v = .slice (some ⟨g, 0, none⟩) 1 cap ∧ base ≤ g ∧ w.heap[g]? = some (.cells cur 38 (0, 0)) ∧ 1 ≤ cap ∧ cap ≤ maxLen ∧ cur.size = cap * 3 ∧ cur.toList.take (1 * 3) = cellsN [y] := by
      rcases h1.2 with ⟨_, h0⟩ | h0
      · simp at h0
      · exact h0
    have hc : ∀ j u, (cellsN [y])[j]? = some u → w.cell? ⟨g, j, none⟩ = some u := fun j u hj => by
      rw [cell_of_row w g j cur 38 (0, 0) hcur]
      rw [← q4] at hj
      have := List.getElem?_take_of_lt (l := cur.toList) (i := j) (j := 1 * 3) (by have := (List.getElem?_eq_some_iff.1 hj).1; simp at this; omega)
      rw [this] at hj
      simpa using hj
    have c0 := hc 0 (.int .u8 y.k) (by simp [cellsN, cellsO])
    have c1 := hc 1 (.int .u16 y.s) (by simp [cellsN, cellsO])
    have c2 := hc 2 (.slice y.a y.l y.c) (by simp [cellsN, cellsO])
    have d0 := cell_allocU c0 (.cells #[.int .u8 0, .int .u16 0, .slice none 0 0] 38)
    have d1 := cell_allocU c1 (.cells #[.int .u8 0, .int .u16 0, .slice none 0 0] 38)
    have d2 := cell_allocU c2 (.cells #[.int .u8 0, .int .u16 0, .slice none 0 0] 38)
    have hb' := (Below.refl w.heap.size w).alloc (Nat.le_refl _) (.cells #[.int .u8 y.k, .int .u16 y.s, .slice y.a y.l y.c] 38)
    have HB := hide hb'
    have HT := hide (tr_lift n x y S (tr_keep n x y S (fun b hb => hb'.block b (hlt b hb)) hT))
    have HN := hide (show S.Nodup by simpa using h5)
    have HS := hide (show ∀ b ∈ S, base ≤ b from fun b hb => (h6 b (by simpa using hb)).1)
    clear h1 h2 h3 h4 h5 h6 h7 hT hlt hc hb' hcur q4
    go_enter Tryz.func91, Tryz.ntmps91
    go_wp2
    refine bodyPost_ret (v := .agg #[.int .u8 y.k, .int .u16 y.s, .slice y.a y.l y.c]) (by simp [results, Tryz.results91, go_sem]) rfl ?_
    exact ⟨y, S, rfl, HT.out, HN.out, HS.out, HB.out⟩
  | x1 :: x2 :: r, hl, h =>
    obtain ⟨len, hlen⟩ : ∃ len, (x1 :: x2 :: r).length = len := ⟨_, rfl⟩
    have hlen2 : 2 ≤ len ∧ len ≤ 4000 := by rw [← hlen]; exact ⟨by simp, hl⟩
    obtain ⟨a, len', cap, S, rfl, hT, hN, hS⟩ := mkg_end h hk (show (0 : Nat) < 65536 by omega)
    have e : len' = len := by
      have e1 := hT.2.2.2.2.2.2.1
      have e2 : (x1 :: x2 :: r).length = len' := e1
      omega
    subst e
    have hlt := tr_lt _ _ _ _ hT
    have HT := hide hT
    have HN := hide hN
    have HS := hide hS
    have HL := hide hlt
    have HB0 := hide ((Below.refl w.heap.size w).alloc (Nat.le_refl _) (.cells #[.int .u8 0, .int .u16 0, .slice none 0 0] 38))
    have HST := hide (heap_alloc_last w (.cells #[.int .u8 0, .int .u16 0, .slice none 0 0] 38))
    have y0 : ((len' : Int) == 0) = false := by simp; omega
    have y1 : ((len' : Int) == 1) = false := by simp; omega
    clear h hT hN hS hl hlt hlen
    go_enter Tryz.func91, Tryz.ntmps91
    go_wp2_with fail
    refine (mknode_any k a len' cap _).mono ?_
    rintro e w1 ⟨rfl, hb⟩
    have hst : St3 w1 w.heap.size 0 0 (.slice none 0 0) := (hb.block _ (by simp)).trans HST.out
    obtain ⟨m0, m1, m2, m3⟩ := st3_cells hst
    have m4 := m3 0
    have m5 := m3 1
    have m6 := m3 2
    have HB1 := hide (HB0.out.trans (hb.mono HB0.out.size))
    clear m3 hb hst
    go_wp2
    refine bodyPost_ret (v := .agg #[.int .u8 k, .int .u16 0, .slice a len' cap]) (by simp [results, Tryz.results91, go_sem, m0, m1, m2]) rfl ?_
    have hbf := ((HB1.out.setCell (p := ⟨w.heap.size, 0, none⟩) (by simp) (.int .u8 k)).setCell (p := ⟨w.heap.size, 1, none⟩) (by simp) (.int .u16 0)).setCell (p := ⟨w.heap.size, 2, none⟩) (by simp) (.slice a len' cap)
    refine ⟨⟨k, 0, a, len', cap⟩, S, rfl, ?_, HN.out, HS.out, hbf⟩
    exact tr_keep _ _ _ _ (fun b hb => hbf.block b (HL.out b hb)) HT.out
end Go.Proofs.YtccaknabpnpjaaaGreatDoor.A

/- The reader's once, and the copy. -/
namespace Go.Proofs.YtccaknabpnpjaaaGreatDoor.A
open Go.RowKit
set_option linter.unusedVariables false

/-- What a call of the reader's that makes an expression answers. -/
def OutE (w : World) (q : Nat) (L : ByteArray) (i0 n : Nat) (R : Option (Ex n × Nat)) (e : Ending) (w' : World) : Prop := match R with
  | none => e = .panicked gave ∧ w.grownBy w' (some q)
  | some (t, j) => ∃ (y : Nd) (S : List Nat), e = .returned (.agg #[.int .u8 y.k, .int .u16 y.s, .slice y.a y.l y.c]) ∧ Tr w' n t y S ∧ S.Nodup ∧ (∀ b ∈ S, w.heap.size ≤ b) ∧ i0 ≤ j ∧ j ≤ L.size ∧ Rd w' q L j ∧ w.grownBy w' (some q)
theorem fin_gb {w w1 : World} {q r : Nat} (h : w.grownBy w1 (some q)) (hr : w.heap.size ≤ r) (a b c : Value) : w.grownBy (((w1.setCell ⟨r, 0, none⟩ a).setCell ⟨r, 1, none⟩ b).setCell ⟨r, 2, none⟩ c) (some q) := by
  refine ⟨h.os, h.tape, h.output, by simpa using h.size, fun k hk hq => ?_⟩
  rw [Below.heap_setCell _ _ _ _ (by simp; omega), Below.heap_setCell _ _ _ _ (by simp; omega), Below.heap_setCell _ _ _ _ (by simp; omega)]
  exact h.block k hk hq
theorem fin_rd {w1 : World} {q r j : Nat} {L : ByteArray} (h : Rd w1 q L j) (hr : q ≠ r) (a b c : Value) : Rd (((w1.setCell ⟨r, 0, none⟩ a).setCell ⟨r, 1, none⟩ b).setCell ⟨r, 2, none⟩ c) q L j := by
  unfold Rd at *
  rw [Below.heap_setCell _ _ _ _ (by simpa using hr), Below.heap_setCell _ _ _ _ (by simpa using hr), Below.heap_setCell _ _ _ _ (by simpa using hr)]
  exact h
theorem fin_tr {w1 : World} {n r : Nat} {t : Ex n} {y : Nd} {S : List Nat} (h : Tr w1 n t y S) (hr : ∀ b ∈ S, r < b) (a b c : Value) : Tr (((w1.setCell ⟨r, 0, none⟩ a).setCell ⟨r, 1, none⟩ b).setCell ⟨r, 2, none⟩ c) n t y S := by
  refine tr_keep n t y S (fun k hk => ?_) h
  have := hr k hk
  rw [Below.heap_setCell _ _ _ _ (by simp; omega), Below.heap_setCell _ _ _ _ (by simp; omega), Below.heap_setCell _ _ _ _ (by simp; omega)]
theorem gb_alloc (w : World) (o : Obj) (q : Option Nat) : w.grownBy (w.alloc o) q := gb_below ((Below.refl w.heap.size w).alloc (Nat.le_refl _) o)
theorem rd_alloc {w : World} {q i : Nat} {L : ByteArray} (h : Rd w q L i) (o : Obj) : Rd (w.alloc o) q L i := (Below.heap_alloc w o q (rd_lt h)).trans h
theorem tr_alloc {w : World} {n : Nat} {t : Ex n} {y : Nd} {S : List Nat} (h : Tr w n t y S) (o : Obj) : Tr (w.alloc o) n t y S := tr_keep n t y S (fun b hb => Below.heap_alloc _ _ _ (tr_lt n t y S h b hb)) h
theorem st3_new (w : World) (k s : Nat) (v : Value) : St3 (w.alloc (.cells #[.int .u8 k, .int .u16 s, v] 38)) w.heap.size k s v := heap_alloc_last w _
theorem st3_alloc {w : World} {b k s : Nat} {v : Value} (h : St3 w b k s v) (o : Obj) : St3 (w.alloc o) b k s v := (Below.heap_alloc w o b (st3_lt h)).trans h
theorem tr_leaf (w : World) (n k m : Nat) (hk : k < 256) (hm : m < 65536) : Tr w (n + 1) ((k, m, []) : Ex (n + 1)) ⟨k, m, none, 0, 0⟩ [] :=
  ⟨rfl, rfl, hk, hm, Nat.le_refl _, by show (0 : Nat) ≤ maxLen; unfold maxLen; omega, rfl, .inl ⟨rfl, rfl⟩⟩

theorem setL_lt {L : ByteArray} : ∀ (f s i s' j : Nat), setL L f s i = some (s', j) → i < j
  | 0, _, _, _, _, h => by cases h
  | f + 1, s, i, s', j, h => by
    have h' : (if tk L i 93 = true then some (s, i + 1) else match letF L i with
      | none => none
      | some m => if s &&& m = 0 then setL L f (s ||| m) (i + 1) else none) = some (s', j) := h
    by_cases ht : tk L i 93 = true
    · rw [if_pos ht] at h'
      cases h'
      omega
    · rw [if_neg ht] at h'
      cases hl : letF L i with
      | none => rw [hl] at h'; cases h'
      | some m =>
        rw [hl] at h'
        have h2 : (if s &&& m = 0 then setL L f (s ||| m) (i + 1) else none) = some (s', j) := h'
        by_cases h0 : s &&& m = 0
        · rw [if_pos h0] at h2
          have := setL_lt f _ _ _ _ h2
          omega
        · rw [if_neg h0] at h2; cases h2
theorem setF_lt {L : ByteArray} {i s' j : Nat} (h : setF L i = some (s', j)) : i < j := by
  unfold setF at h
  cases hl : letF L i with
  | none => rw [hl] at h; cases h
  | some m =>
    rw [hl] at h
    have := setL_lt _ _ _ _ _ h
    omega
/-- An item without what stands behind it. -/
def onceF (L : ByteArray) {n : Nat} (E : Nat → Option (Ex (n + 1) × Nat)) (i : Nat) : Option (Ex (n + 1) × Nat) :=
  if tk L i 40 = true then match E (i + 1) with
    | none => none
    | some (t, j) => if tk L j 41 = true then some (t, j + 1) else none
  else if tk L i 91 = true then match setF L (i + 1) with
    | none => none
    | some (s, j) => some ((1, s, []), j)
  else match letF L i with
    | none => none
    | some m => some ((1, m, []), i + 1)

set_option maxHeartbeats 6400000 in
theorem once_any (q : Nat) (L : ByteArray) (i n : Nat) (E : Nat → Option (Ex (n + 1) × Nat)) (w : World) (hi : i ≤ L.size) (hL : L.size ≤ 2000) (h : Rd w q L i)
    (hE : tk L i 40 = true → ∀ u : World, Rd u q L (i + 1) → Calls Tryz.prog 75 #[.pointer (some ⟨q, 0, none⟩)] u fun e w' => OutE u q L (i + 1) (n + 1) (E (i + 1)) e w') :
    Calls Tryz.prog 104 #[.pointer (some ⟨q, 0, none⟩)] w fun e w' => OutE w q L (i + 1) (n + 1) (onceF L E i) e w' := by
  have hq := rd_lt h
  have HRA := hide (rd_alloc h (.cells #[.int .u8 0, .int .u16 0, .slice none 0 0] 38))
  have HGA := hide (gb_alloc w (.cells #[.int .u8 0, .int .u16 0, .slice none 0 0] 38) (some q))
  have HSA := hide (st3_new w 0 0 (.slice none 0 0))
  have HO := hide (show onceF L E i = if tk L i 40 = true then (match E (i + 1) with
    | none => none
    | some (t, j) => if tk L j 41 = true then some (t, j + 1) else none)
    else if tk L i 91 = true then (match setF L (i + 1) with
    | none => none
    | some (s, j) => some ((1, s, []), j))
    else match letF L i with
    | none => none
    | some m => some ((1, m, []), i + 1) from rfl)
  have HE := hide hE
  clear h hE
  go_enter Tryz.func104, Tryz.ntmps104
  go_wp2_with fail
  generalize w.alloc (.cells #[.int .u8 0, .int .u16 0, .slice none 0 0] 38) = W at *
  obtain ⟨r, hr⟩ : ∃ r, w.heap.size = r := ⟨_, rfl⟩
  rw [hr] at HSA ⊢
  have HQ := hide hr
  have hqr : q ≠ r := by omega
  have HQR := hide (show q < r by omega)
  clear hr hq
  refine (takes_any q L i 40 W hi hL HRA.out).mono ?_
  rintro e w1 ⟨rfl, h1, h2⟩
  have HG1 := hide (gb_trans HGA.out h2)
  have HS1 := hide (st3_grown HSA.out h2 (by simp; omega))
  clear h2 HRA HGA HSA
  cases ht : tk L i 40 with
  | true =>
    rw [nx_yes ht] at h1
    have hlt := tk_lt ht
    have HC := hide (HE.out ht w1 h1)
    rw [ht] at HO
    have HR1 := hide h1
    clear h1 HE ht
    go_wp2_with fail
    refine HC.out.mono ?_
    intro e w2 hout
    cases hR : E (i + 1) with
    | none =>
      rw [hR] at hout HO
      obtain ⟨rfl, h3⟩ := hout
      have HG2 := hide (gb_trans HG1.out h3)
      have HF := hide (show onceF L E i = none from HO.out)
      clear h3 hR HO HC
      go_wp2
      refine ⟨rfl, ?_⟩
      rw [HF.out]
      exact ⟨rfl, HG2.out⟩
    | some p =>
      obtain ⟨t, j⟩ := p
      rw [hR] at hout HO
      obtain ⟨y, S, rfl, hT, hN, hS, hij, hj, h3, h4⟩ := hout
      have HG2 := hide (gb_trans (gb_trans HG1.out h4) (gb_alloc w2 (.cells #[.int .u8 y.k, .int .u16 y.s, .slice y.a y.l y.c] 38) (some q)))
      have HR2 := hide (rd_alloc h3 (.cells #[.int .u8 y.k, .int .u16 y.s, .slice y.a y.l y.c] 38))
      have HS2 := hide (st3_alloc (st3_grown HS1.out h4 (by simp; omega)) (.cells #[.int .u8 y.k, .int .u16 y.s, .slice y.a y.l y.c] 38))
      have HY := hide (st3_new w2 y.k y.s (.slice y.a y.l y.c))
      have HT := hide (tr_alloc hT (.cells #[.int .u8 y.k, .int .u16 y.s, .slice y.a y.l y.c] 38))
      have HN := hide hN
      have HSS := hide (show ∀ b ∈ S, r < b from fun b hb => by have := hS b hb; have := st3_lt HS1.out; omega)
      have hne : q ≠ w2.heap.size := by have := rd_lt h3; omega
      clear hT hN hS h3 h4 hR HC HR1 HG1 HS1
      go_wp2_with fail
      generalize w2.alloc (.cells #[.int .u8 y.k, .int .u16 y.s, .slice y.a y.l y.c] 38) = W2 at *
      generalize w2.heap.size = z at *
      cases ht2 : tk L j 41 with
      | false =>
        refine (need_no q L j 41 W2 hj hL HR2.out ht2).mono ?_
        rintro e w3 ⟨rfl, h5⟩
        rw [ht2] at HO
        have HF := hide (show onceF L E i = none from HO.out)
        have HG3 := hide (gb_trans HG2.out h5)
        clear h5 ht2 HO
        go_wp2
        refine ⟨rfl, ?_⟩
        rw [HF.out]
        exact ⟨rfl, HG3.out⟩
      | true =>
        refine (need_yes q L j 41 W2 hj hL HR2.out ht2).mono ?_
        rintro e w3 ⟨rfl, h5, h6⟩
        rw [ht2] at HO
        have HF := hide (show onceF L E i = some (t, j + 1) from HO.out)
        have HG3 := hide (gb_trans HG2.out h6)
        have HR3 := hide h5
        have hj2 := tk_lt ht2
        obtain ⟨m0, m1, m2, m3⟩ := st3_cells (st3_grown HS2.out h6 (by simp; omega))
        have m4 := m3 0
        have m5 := m3 1
        have m6 := m3 2
        obtain ⟨n0, n1, n2, -⟩ := st3_cells (st3_grown HY.out h6 (by simp; omega))
        have HT3 := hide (tr_keep _ _ _ _ (fun b hb => h6.block b (tr_lt _ _ _ _ HT.out b hb) (by
          intro e
          cases e
          have := HSS.out q hb
          have := HQR.out
          omega)) HT.out)
        clear h5 h6 m3 ht2 HO
        go_wp2
        refine bodyPost_ret (v := .agg #[.int .u8 y.k, .int .u16 y.s, .slice y.a y.l y.c]) (by simp [results, Tryz.results104, go_sem, m0, m1, m2]) rfl ?_
        rw [HF.out]
        exact ⟨y, S, rfl, fin_tr HT3.out HSS.out _ _ _, HN.out, (fun b hb => by have := HSS.out b hb; have := HQ.out; omega), by omega, hj2, fin_rd HR3.out hqr _ _ _, fin_gb HG3.out (by have := HQ.out; omega) _ _ _⟩
  | false =>
    rw [nx_no ht] at h1
    have HR1 := hide h1
    rw [ht] at HO
    clear h1 HE ht
    go_wp2_with fail
    refine (takes_any q L i 91 w1 hi hL HR1.out).mono ?_
    rintro e w2 ⟨rfl, h1, h2⟩
    have HG2 := hide (gb_trans HG1.out h2)
    have HS2 := hide (st3_grown HS1.out h2 (by simp; omega))
    clear h2 HR1 HG1 HS1
    cases ht : tk L i 91 with
    | true =>
      rw [nx_yes ht] at h1
      have hlt := tk_lt ht
      have HR2 := hide h1
      rw [ht] at HO
      clear h1 ht
      go_wp2_with fail
      refine (set_any q L (i + 1) w2 hlt hL HR2.out).mono ?_
      intro e w3 hout
      cases hR : setF L (i + 1) with
      | none =>
        rw [hR] at hout HO
        obtain ⟨rfl, h3⟩ := hout
        have HG3 := hide (gb_trans HG2.out h3)
        have HF := hide (show onceF L E i = none from HO.out)
        clear h3 hR HO
        go_wp2
        refine ⟨rfl, ?_⟩
        rw [HF.out]
        exact ⟨rfl, HG3.out⟩
      | some p =>
        obtain ⟨m, j⟩ := p
        rw [hR] at hout HO
        obtain ⟨rfl, hm, hj, h3, h4⟩ := hout
        have HF := hide (show onceF L E i = some ((1, m, []), j) from HO.out)
        have HG3 := hide (gb_trans HG2.out h4)
        have HR3 := hide h3
        obtain ⟨m0, m1, m2, m3⟩ := st3_cells (st3_grown HS2.out h4 (by simp; omega))
        have m4 := m3 0
        have m5 := m3 1
        have m6 := m3 2
        have hij := setF_lt hR
        clear h3 h4 m3 hR HO
        go_wp2
        refine bodyPost_ret (v := .agg #[.int .u8 1, .int .u16 m, .slice none 0 0]) (by simp [results, Tryz.results104, go_sem, m0, m1, m2]) rfl ?_
        rw [HF.out]
        exact ⟨⟨1, m, none, 0, 0⟩, [], rfl, tr_leaf _ n 1 m (by omega) hm, by simp, (fun b hb => by cases hb), by omega, hj, fin_rd HR3.out hqr _ _ _, fin_gb HG3.out (by have := HQ.out; omega) _ _ _⟩
    | false =>
      rw [nx_no ht] at h1
      have HR2 := hide h1
      rw [ht] at HO
      clear h1 ht
      cases hR : letF L i with
      | none =>
        rw [hR] at HO
        have HF := hide (show onceF L E i = none from HO.out)
        have HL := hide hR
        clear hR HO
        go_wp2_with fail
        refine (letter_no q L i w2 hi hL HR2.out HL.out).mono ?_
        rintro e w3 ⟨rfl, h3⟩
        have HG3 := hide (gb_trans HG2.out h3)
        clear h3
        go_wp2
        refine ⟨rfl, ?_⟩
        rw [HF.out]
        exact ⟨rfl, HG3.out⟩
      | some m =>
        obtain ⟨hlt, k, hk, hc, rfl⟩ := letF_some hR
        have hm := letF_lt hR
        rw [hR] at HO
        have HF := hide (show onceF L E i = some ((1, 2 ^ k, []), i + 1) from HO.out)
        have HC := hide hc
        clear hR HO hc
        go_wp2_with fail
        refine (letter_yes q L i w2 hlt hL HR2.out k HC.out hk).mono ?_
        rintro e w3 ⟨rfl, h3, h4⟩
        have HG3 := hide (gb_trans HG2.out h4)
        have HR3 := hide h3
        obtain ⟨m0, m1, m2, m3⟩ := st3_cells (st3_grown HS2.out h4 (by simp; omega))
        have m4 := m3 0
        have m5 := m3 1
        have m6 := m3 2
        clear h3 h4 m3
        generalize 2 ^ k = m at *
        go_wp2
        refine bodyPost_ret (v := .agg #[.int .u8 1, .int .u16 m, .slice none 0 0]) (by simp [results, Tryz.results104, go_sem, m0, m1, m2]) rfl ?_
        rw [HF.out]
        exact ⟨⟨1, m, none, 0, 0⟩, [], rfl, tr_leaf _ n 1 m (by omega) hm, by simp, (fun b hb => by cases hb), by omega, hlt, fin_rd HR3.out hqr _ _ _, fin_gb HG3.out (by have := HQ.out; omega) _ _ _⟩

set_option maxHeartbeats 1600000 in
theorem copied_no (n : Nat) (t : Ex n) (v : Value) (w : World) (h : Rx w n t v) (hr : rightE n t = false) :
    Calls Tryz.prog 105 #[v] w fun e w' => e = .panicked gave ∧ Below w.heap.size w w' := by
  obtain ⟨c0, c1, c2, rfl⟩ := rx_form h
  obtain ⟨kx, sx, ax, lx, cx, rfl, rfl, rfl⟩ := rx_cells h
  have HX := hide h
  have HR := hide hr
  have HB0 := hide (((Below.refl w.heap.size w).alloc (Nat.le_refl _) (.cells #[.int .u8 kx, .int .u16 sx, .slice ax lx cx] 38)).alloc (by simp) (.cells #[.int .u8 0, .int .u16 0, .slice none 0 0] 38))
  clear h hr
  go_enter Tryz.func105, Tryz.ntmps105
  go_wp2_with fail
  refine (right_any n t _ _ (rx_below HB0.out n t _ HX.out)).mono ?_
  rintro e w1 ⟨rfl, hb1⟩
  rw [HR.out]
  have HB1 := hide (HB0.out.trans (hb1.mono HB0.out.size))
  clear hb1
  go_wp2
  exact ⟨rfl, rfl, HB1.out⟩
set_option maxHeartbeats 1600000 in
theorem copied_yes (n : Nat) (t : Ex n) (v : Value) (w : World) (h : Rx w n t v) (hr : rightE n t = true) :
    Calls Tryz.prog 105 #[v] w fun e w' => Makes w n t e w' := by
  have hri := (right_iff (rx_full n t _ h)).1 hr
  obtain ⟨c0, c1, c2, rfl⟩ := rx_form h
  obtain ⟨kx, sx, ax, lx, cx, rfl, rfl, rfl⟩ := rx_cells h
  have HX := hide h
  have HR := hide hr
  have HRI := hide hri
  have HB0 := hide (((Below.refl w.heap.size w).alloc (Nat.le_refl _) (.cells #[.int .u8 kx, .int .u16 sx, .slice ax lx cx] 38)).alloc (by simp) (.cells #[.int .u8 0, .int .u16 0, .slice none 0 0] 38))
  have HA := hide (st3_alloc (st3_new w kx sx (.slice ax lx cx)) (.cells #[.int .u8 0, .int .u16 0, .slice none 0 0] 38))
  have HST := hide (st3_new (w.alloc (.cells #[.int .u8 kx, .int .u16 sx, .slice ax lx cx] 38)) 0 0 (.slice none 0 0))
  have HZ := hide (show (w.alloc (.cells #[.int .u8 kx, .int .u16 sx, .slice ax lx cx] 38)).heap.size = w.heap.size + 1 by simp)
  clear h hr hri
  go_enter Tryz.func105, Tryz.ntmps105
  go_wp2_with fail
  rw [HZ.out] at HST
  generalize (w.alloc (.cells #[.int .u8 kx, .int .u16 sx, .slice ax lx cx] 38)).alloc (.cells #[.int .u8 0, .int .u16 0, .slice none 0 0] 38) = W at *
  refine (right_any n t _ W (rx_below HB0.out n t _ HX.out)).mono ?_
  rintro e w1 ⟨rfl, hb1⟩
  rw [HR.out]
  have hA := st3_below HA.out hb1 (st3_lt HA.out)
  have hST := st3_below HST.out hb1 (st3_lt HST.out)
  obtain ⟨r0, r1, r2, -⟩ := st3_cells hA
  have HST1 := hide hST
  have HB1 := hide (HB0.out.trans (hb1.mono HB0.out.size))
  clear hb1 hA hST HA HST HB0
  go_wp2_with fail
  refine (dup_any n t _ w1 (rx_below HB1.out n t _ HX.out) HRI.out.2.2 (by have := HRI.out.1; omega)).mono ?_
  rintro e w2 ⟨y, S, rfl, hT, hN, hS, hb⟩
  have hst := st3_below HST1.out hb (st3_lt HST1.out)
  obtain ⟨m0, m1, m2, m3⟩ := st3_cells hst
  have m4 := m3 0
  have m5 := m3 1
  have m6 := m3 2
  have HT := hide hT
  have HN := hide hN
  have HS := hide hS
  have HB2 := hide (HB1.out.trans (hb.mono HB1.out.size))
  have HL := hide (st3_lt HST1.out)
  clear hT hN hS hb hst m3 HST1
  go_wp2
  refine bodyPost_ret (v := .agg #[.int .u8 y.k, .int .u16 y.s, .slice y.a y.l y.c]) (by simp [results, Tryz.results105, go_sem, m0, m1, m2]) rfl ?_
  refine ⟨y, S, rfl, fin_tr HT.out (fun b hb => by have := HS.out b hb; have := HL.out; omega) _ _ _, HN.out, (fun b hb => by have := HS.out b hb; have := HB1.out.size; omega), ((HB2.out.setCell (by simp) _).setCell (by simp) _).setCell (by simp) _⟩
end Go.Proofs.YtccaknabpnpjaaaGreatDoor.A

/- The reader's item. -/
namespace Go.Proofs.YtccaknabpnpjaaaGreatDoor.A
open Go.RowKit
set_option linter.unusedVariables false

theorem tr_node1 {w : World} {n k : Nat} {t : Ex n} {y : Nd} {S : List Nat} (h : Tr w n t y S) (hk : k < 256) :
    Tr (w.alloc (.cells #[.int .u8 y.k, .int .u16 y.s, .slice y.a y.l y.c] 38)) (n + 1) ((k, 0, [t]) : Ex (n + 1)) ⟨k, 0, some ⟨w.heap.size, 0, none⟩, 1, 1⟩ (w.heap.size :: S) := by
  refine ⟨rfl, rfl, hk, by show (0 : Nat) < 65536; omega, Nat.le_refl _, by show (1 : Nat) ≤ maxLen; unfold maxLen; omega, rfl, .inr ⟨w.heap.size, _, [y], [S], rfl, heap_alloc_last w _, by simp [cellsN, cellsO], rfl, rfl, by simp, fun i e y' T he hy hT => ?_⟩⟩
  match i with
  | 0 =>
    have he' : [t][0]? = some e := he
    simp only [List.getElem?_cons_zero, Option.some.injEq] at he' hy hT
    subst he'; subst hy; subst hT
    exact tr_alloc h _
  | i + 1 => simp at hy
theorem tr_node2 {w : World} {n k : Nat} {t1 t2 : Ex n} {y1 y2 : Nd} {S1 S2 : List Nat} (h1 : Tr w n t1 y1 S1) (h2 : Tr w n t2 y2 S2) (hk : k < 256) :
    Tr (w.alloc (.cells #[.int .u8 y1.k, .int .u16 y1.s, .slice y1.a y1.l y1.c, .int .u8 y2.k, .int .u16 y2.s, .slice y2.a y2.l y2.c] 38)) (n + 1) ((k, 0, [t1, t2]) : Ex (n + 1)) ⟨k, 0, some ⟨w.heap.size, 0, none⟩, 2, 2⟩ (w.heap.size :: (S1 ++ S2)) := by
  refine ⟨rfl, rfl, hk, by show (0 : Nat) < 65536; omega, Nat.le_refl _, by show (2 : Nat) ≤ maxLen; unfold maxLen; omega, rfl, .inr ⟨w.heap.size, _, [y1, y2], [S1, S2], rfl, heap_alloc_last w _, by simp [cellsN, cellsO], rfl, rfl, by simp, fun i e y' T he hy hT => ?_⟩⟩
  match i with
  | 0 =>
    have he' : [t1, t2][0]? = some e := he
    simp only [List.getElem?_cons_zero, Option.some.injEq] at he' hy hT
    subst he'; subst hy; subst hT
    exact tr_alloc h1 _
  | 1 =>
    have he' : [t1, t2][1]? = some e := he
    simp only [List.getElem?_cons_zero, List.getElem?_cons_succ, Option.some.injEq] at he' hy hT
    subst he'; subst hy; subst hT
    exact tr_alloc h2 _
  | i + 2 => simp at hy
theorem tr_gb {w w' : World} {q n : Nat} {t : Ex n} {y : Nd} {S : List Nat} (h : Tr w n t y S) (hg : w.grownBy w' (some q)) (hS : ∀ b ∈ S, q < b) : Tr w' n t y S :=
  tr_keep n t y S (fun b hb => hg.block b (tr_lt n t y S h b hb) (by intro e; cases e; have := hS q hb; omega)) h
theorem tr_below {w w' : World} {n : Nat} {t : Ex n} {y : Nd} {S : List Nat} (h : Tr w n t y S) (hg : Below w.heap.size w w') : Tr w' n t y S :=
  tr_keep n t y S (fun b hb => hg.block b (tr_lt n t y S h b hb)) h

/-- An item, and how often. -/
def itemF (L : ByteArray) {n : Nat} (O : Nat → Option (Ex n × Nat)) (i : Nat) : Option (Ex (n + 2) × Nat) := match O i with
  | none => none
  | some (t, j) => if tk L j 42 = true then some ((4, 0, [liftE n t]), j + 1)
    else if tk L j 63 = true then some ((5, 0, [liftE n t]), j + 1)
    else if tk L j 43 = true then (if rightE n t = true then some ((2, 0, [liftE n t, ((4, 0, [t]) : Ex (n + 1))]), j + 1) else none)
    else some (liftE (n + 1) (liftE n t), j)

set_option maxHeartbeats 12800000 in
theorem item_any (q : Nat) (L : ByteArray) (i n : Nat) (O : Nat → Option (Ex n × Nat)) (w : World) (hi : i ≤ L.size) (hL : L.size ≤ 2000) (h : Rd w q L i)
    (hO : ∀ u : World, Rd u q L i → Calls Tryz.prog 104 #[.pointer (some ⟨q, 0, none⟩)] u fun e w' => OutE u q L (i + 1) n (O i) e w') :
    Calls Tryz.prog 98 #[.pointer (some ⟨q, 0, none⟩)] w fun e w' => OutE w q L (i + 1) (n + 2) (itemF L O i) e w' := by
  have hq := rd_lt h
  have HRA := hide (rd_alloc h (.cells #[.int .u8 0, .int .u16 0, .slice none 0 0] 38))
  have HGA := hide (gb_alloc w (.cells #[.int .u8 0, .int .u16 0, .slice none 0 0] 38) (some q))
  have HSA := hide (st3_new w 0 0 (.slice none 0 0))
  have HIF := hide (show itemF L O i = match O i with
    | none => none
    | some (t, j) => if tk L j 42 = true then some ((4, 0, [liftE n t]), j + 1)
      else if tk L j 63 = true then some ((5, 0, [liftE n t]), j + 1)
      else if tk L j 43 = true then (if rightE n t = true then some ((2, 0, [liftE n t, ((4, 0, [t]) : Ex (n + 1))]), j + 1) else none)
      else some (liftE (n + 1) (liftE n t), j) from rfl)
  have HO := hide hO
  clear h hO
  go_enter Tryz.func98, Tryz.ntmps98
  go_wp2_with fail
  generalize w.alloc (.cells #[.int .u8 0, .int .u16 0, .slice none 0 0] 38) = W at *
  obtain ⟨r, hr⟩ : ∃ r, w.heap.size = r := ⟨_, rfl⟩
  rw [hr] at HSA ⊢
  have HQ := hide hr
  have hqr : q ≠ r := by omega
  have HQR := hide (show q < r by omega)
  clear hr hq
  refine (HO.out W HRA.out).mono ?_
  intro e w1 hout
  cases hR : O i with
  | none =>
    rw [hR] at hout HIF
    obtain ⟨rfl, h3⟩ := hout
    have HG2 := hide (gb_trans HGA.out h3)
    have HF := hide (show itemF L O i = none from HIF.out)
    clear h3 hR HIF HO
    go_wp2
    refine ⟨rfl, ?_⟩
    rw [HF.out]
    exact ⟨rfl, HG2.out⟩
  | some p =>
    obtain ⟨t, j⟩ := p
    rw [hR] at hout HIF
    obtain ⟨y, S, rfl, hT, hN, hS, hij, hj, h3, h4⟩ := hout
    have HIF2 := hide (show itemF L O i = if tk L j 42 = true then some ((4, 0, [liftE n t]), j + 1)
      else if tk L j 63 = true then some ((5, 0, [liftE n t]), j + 1)
      else if tk L j 43 = true then (if rightE n t = true then some ((2, 0, [liftE n t, ((4, 0, [t]) : Ex (n + 1))]), j + 1) else none)
      else some (liftE (n + 1) (liftE n t), j) from HIF.out)
    have HG2 := hide (gb_trans (gb_trans HGA.out h4) (gb_alloc w1 (.cells #[.int .u8 y.k, .int .u16 y.s, .slice y.a y.l y.c] 38) (some q)))
    have HR2 := hide (rd_alloc h3 (.cells #[.int .u8 y.k, .int .u16 y.s, .slice y.a y.l y.c] 38))
    have HS2 := hide (st3_alloc (st3_grown HSA.out h4 (by simp; omega)) (.cells #[.int .u8 y.k, .int .u16 y.s, .slice y.a y.l y.c] 38))
    have HY := hide (st3_new w1 y.k y.s (.slice y.a y.l y.c))
    have HT := hide (tr_alloc hT (.cells #[.int .u8 y.k, .int .u16 y.s, .slice y.a y.l y.c] 38))
    have HN := hide hN
    have HSS := hide (show ∀ b ∈ S, r < b from fun b hb => by have := hS b hb; have := st3_lt HSA.out; omega)
    have HSQ := hide (show ∀ b ∈ S, q < b from fun b hb => by have := HSS.out b hb; have := HQR.out; omega)
    have HRZ := hide (show r < w1.heap.size by have := st3_lt HSA.out; have := h4.size; omega)
    have hne : q ≠ w1.heap.size := by have := rd_lt h3; omega
    clear hT hN hS h3 h4 hR HO HIF HGA HRA HSA
    go_wp2_with fail
    generalize w1.alloc (.cells #[.int .u8 y.k, .int .u16 y.s, .slice y.a y.l y.c] 38) = W2 at *
    generalize w1.heap.size = z at *
    refine (takes_any q L j 42 W2 hj hL HR2.out).mono ?_
    rintro e w2 ⟨rfl, h1, h2⟩
    have HG3 := hide (gb_trans HG2.out h2)
    have HS3 := hide (st3_grown HS2.out h2 (by simp; omega))
    have HY3 := hide (st3_grown HY.out h2 (by simp; omega))
    have HT3 := hide (tr_gb HT.out h2 HSQ.out)
    clear h2 HR2 HG2 HS2 HY HT
    cases ht : tk L j 42 with
    | true =>
      rw [nx_yes ht] at h1
      have hlt := tk_lt ht
      have HR3 := hide h1
      rw [ht] at HIF2
      have HF := hide (show itemF L O i = some ((4, 0, [liftE n t]), j + 1) from HIF2.out)
      obtain ⟨n0, n1, n2, -⟩ := st3_cells HY3.out
      have HTN := hide (tr_node1 (k := 4) (tr_lift n t y S HT3.out) (by omega))
      have HGN := hide (gb_trans HG3.out (gb_alloc w2 (.cells #[.int .u8 y.k, .int .u16 y.s, .slice y.a y.l y.c] 38) (some q)))
      have HSN := hide (st3_alloc HS3.out (.cells #[.int .u8 y.k, .int .u16 y.s, .slice y.a y.l y.c] 38))
      have HRN := hide (rd_alloc HR3.out (.cells #[.int .u8 y.k, .int .u16 y.s, .slice y.a y.l y.c] 38))
      have HZ2 := hide (show r < w2.heap.size from st3_lt HS3.out)
      have HND := hide (List.nodup_cons.2 ⟨fun hm => Nat.lt_irrefl _ (tr_lt n t y S HT3.out _ hm), HN.out⟩)
      clear h1 ht HIF2 HS3 HT3 HR3 HG3
      go_wp2_with fail
      generalize w2.alloc (.cells #[.int .u8 y.k, .int .u16 y.s, .slice y.a y.l y.c] 38) = W3 at *
      generalize w2.heap.size = z2 at *
      refine (mknode_any 4 _ _ _ W3).mono ?_
      rintro e w3 ⟨rfl, hb⟩
      obtain ⟨m0, m1, m2, m3⟩ := st3_cells (st3_below HSN.out hb (st3_lt HSN.out))
      have m4 := m3 0
      have m5 := m3 1
      have m6 := m3 2
      have HRF := hide (rd_below HRN.out hb (rd_lt HRN.out))
      have HGF := hide (gb_trans HGN.out (gb_below (q := some q) hb))
      have HTF := hide (tr_below HTN.out hb)
      clear hb m3 HSN HRN HGN HTN n0 n1 n2
      go_wp2
      refine bodyPost_ret (v := .agg #[.int .u8 4, .int .u16 0, .slice (some ⟨z2, 0, none⟩) 1 1]) (by simp [results, Tryz.results98, go_sem, m0, m1, m2]) rfl ?_
      rw [HF.out]
      exact ⟨⟨4, 0, some ⟨z2, 0, none⟩, 1, 1⟩, _, rfl, fin_tr HTF.out (fun b hb => by rcases List.mem_cons.1 hb with rfl | hb; exact HZ2.out; exact HSS.out b hb) _ _ _, HND.out, (fun b hb => by have := HQ.out; rcases List.mem_cons.1 hb with rfl | hb; (have := HZ2.out; omega); (have := HSS.out b hb; omega)), by omega, hlt, fin_rd HRF.out hqr _ _ _, fin_gb HGF.out (by have := HQ.out; omega) _ _ _⟩
    | false =>
      rw [nx_no ht] at h1
      have HR3 := hide h1
      rw [ht] at HIF2
      clear h1 ht
      go_wp2_with fail
      refine (takes_any q L j 63 w2 hj hL HR3.out).mono ?_
      rintro e wB ⟨rfl, h1, h2⟩
      have HG4 := hide (gb_trans HG3.out h2)
      have HS4 := hide (st3_grown HS3.out h2 (by simp; omega))
      have HY4 := hide (st3_grown HY3.out h2 (by simp; omega))
      have HT4 := hide (tr_gb HT3.out h2 HSQ.out)
      clear h2 HR3 HG3 HS3 HY3 HT3
      have HG3 := HG4
      have HS3 := HS4
      have HY3 := HY4
      have HT3 := HT4
      clear HG4 HS4 HY4 HT4
      cases ht : tk L j 63 with
      | true =>
        rw [nx_yes ht] at h1
        have hlt := tk_lt ht
        have HR3 := hide h1
        rw [ht] at HIF2
        have HF := hide (show itemF L O i = some ((5, 0, [liftE n t]), j + 1) from HIF2.out)
        obtain ⟨n0, n1, n2, -⟩ := st3_cells HY3.out
        have HTN := hide (tr_node1 (k := 5) (tr_lift n t y S HT3.out) (by omega))
        have HGN := hide (gb_trans HG3.out (gb_alloc wB (.cells #[.int .u8 y.k, .int .u16 y.s, .slice y.a y.l y.c] 38) (some q)))
        have HSN := hide (st3_alloc HS3.out (.cells #[.int .u8 y.k, .int .u16 y.s, .slice y.a y.l y.c] 38))
        have HRN := hide (rd_alloc HR3.out (.cells #[.int .u8 y.k, .int .u16 y.s, .slice y.a y.l y.c] 38))
        have HZ2 := hide (show r < wB.heap.size from st3_lt HS3.out)
        have HND := hide (List.nodup_cons.2 ⟨fun hm => Nat.lt_irrefl _ (tr_lt n t y S HT3.out _ hm), HN.out⟩)
        clear h1 ht HIF2 HS3 HT3 HR3 HG3
        go_wp2_with fail
        generalize wB.alloc (.cells #[.int .u8 y.k, .int .u16 y.s, .slice y.a y.l y.c] 38) = WC at *
        generalize wB.heap.size = zB at *
        refine (mknode_any 5 _ _ _ WC).mono ?_
        rintro e wC ⟨rfl, hb⟩
        obtain ⟨m0, m1, m2, m3⟩ := st3_cells (st3_below HSN.out hb (st3_lt HSN.out))
        have m4 := m3 0
        have m5 := m3 1
        have m6 := m3 2
        have HRF := hide (rd_below HRN.out hb (rd_lt HRN.out))
        have HGF := hide (gb_trans HGN.out (gb_below (q := some q) hb))
        have HTF := hide (tr_below HTN.out hb)
        clear hb m3 HSN HRN HGN HTN n0 n1 n2
        go_wp2
        refine bodyPost_ret (v := .agg #[.int .u8 5, .int .u16 0, .slice (some ⟨zB, 0, none⟩) 1 1]) (by simp [results, Tryz.results98, go_sem, m0, m1, m2]) rfl ?_
        rw [HF.out]
        exact ⟨⟨5, 0, some ⟨zB, 0, none⟩, 1, 1⟩, _, rfl, fin_tr HTF.out (fun b hb => by rcases List.mem_cons.1 hb with rfl | hb; exact HZ2.out; exact HSS.out b hb) _ _ _, HND.out, (fun b hb => by have := HQ.out; rcases List.mem_cons.1 hb with rfl | hb; (have := HZ2.out; omega); (have := HSS.out b hb; omega)), by omega, hlt, fin_rd HRF.out hqr _ _ _, fin_gb HGF.out (by have := HQ.out; omega) _ _ _⟩

      | false =>
        rw [nx_no ht] at h1
        have HR3 := hide h1
        rw [ht] at HIF2
        clear h1 ht
        go_wp2_with fail
        refine (takes_any q L j 43 wB hj hL HR3.out).mono ?_
        rintro e wC ⟨rfl, h1, h2⟩
        have HG4 := hide (gb_trans HG3.out h2)
        have HS4 := hide (st3_grown HS3.out h2 (by simp; omega))
        have HY4 := hide (st3_grown HY3.out h2 (by simp; omega))
        have HT4 := hide (tr_gb HT3.out h2 HSQ.out)
        clear h2 HR3 HG3 HS3 HY3 HT3
        have HG3 := HG4
        have HS3 := HS4
        have HY3 := HY4
        have HT3 := HT4
        clear HG4 HS4 HY4 HT4
        cases ht : tk L j 43 with
        | false =>
          rw [nx_no ht] at h1
          rw [ht] at HIF2
          have HF := hide (show itemF L O i = some (liftE (n + 1) (liftE n t), j) from HIF2.out)
          have HRF := hide h1
          obtain ⟨n0, n1, n2, -⟩ := st3_cells HY3.out
          obtain ⟨m0, m1, m2, m3⟩ := st3_cells HS3.out
          have m4 := m3 0
          have m5 := m3 1
          have m6 := m3 2
          clear h1 ht HIF2 m3 HY3 HS3
          go_wp2
          refine bodyPost_ret (v := .agg #[.int .u8 y.k, .int .u16 y.s, .slice y.a y.l y.c]) (by simp [results, Tryz.results98, go_sem, m0, m1, m2]) rfl ?_
          rw [HF.out]
          exact ⟨y, S, rfl, fin_tr (tr_lift _ _ _ _ (tr_lift n t y S HT3.out)) HSS.out _ _ _, HN.out, (fun b hb => by have := HSS.out b hb; have := HQ.out; omega), hij, hj, fin_rd HRF.out hqr _ _ _, fin_gb HG3.out (by have := HQ.out; omega) _ _ _⟩
        | true =>
          rw [nx_yes ht] at h1
          have hlt := tk_lt ht
          have HR3 := hide h1
          rw [ht] at HIF2
          obtain ⟨n0, n1, n2, -⟩ := st3_cells HY3.out
          clear h1 ht
          cases hri : rightE n t with
          | false =>
            rw [hri] at HIF2
            have HF := hide (show itemF L O i = none from HIF2.out)
            have HRI := hide hri
            clear HIF2 hri
            go_wp2_with fail
            refine (copied_no n t _ wC (tr_rx n t y S HT3.out) HRI.out).mono ?_
            rintro e wD ⟨rfl, hb⟩
            have HGF := hide (gb_trans HG3.out (gb_below (q := some q) hb))
            clear hb
            go_wp2
            refine ⟨rfl, ?_⟩
            rw [HF.out]
            exact ⟨rfl, HGF.out⟩
          | true =>
            rw [hri] at HIF2
            have HF := hide (show itemF L O i = some ((2, 0, [liftE n t, ((4, 0, [t]) : Ex (n + 1))]), j + 1) from HIF2.out)
            have HRI := hide hri
            clear HIF2 hri
            go_wp2_with fail
            refine (copied_yes n t _ wC (tr_rx n t y S HT3.out) HRI.out).mono ?_
            rintro e wD ⟨y2, S2, rfl, hT2, hN2, hS2, hb⟩
            have hTD := tr_below HT3.out hb
            have hSD := st3_below HS3.out hb (st3_lt HS3.out)
            have hYD := st3_below HY3.out hb (st3_lt HY3.out)
            have hRD := rd_below HR3.out hb (rd_lt HR3.out)
            have hGD := gb_trans HG3.out (gb_below (q := some q) hb)
            have HS12 := hide (show ∀ b ∈ S, ∀ c ∈ S2, b < c from fun b hb1 c hc => by have := tr_lt n t y S HT3.out b hb1; have := hS2 c hc; omega)
            have HS2L := hide (show ∀ c ∈ S2, r < c from fun c hc => by have := hS2 c hc; have := st3_lt HS3.out; omega)
            have HSD1 := hide (show ∀ b ∈ S, b < wD.heap.size from tr_lt n t y S hTD)
            have HSD2 := hide (show ∀ b ∈ S2, b < wD.heap.size from tr_lt n t y2 S2 hT2)
            have HN2 := hide hN2
            have HRD2 := hide (show r < wD.heap.size from st3_lt hSD)
            have HTE := hide (tr_alloc hTD (.cells #[.int .u8 y2.k, .int .u16 y2.s, .slice y2.a y2.l y2.c] 38))
            have HSE := hide (st3_alloc hSD (.cells #[.int .u8 y2.k, .int .u16 y2.s, .slice y2.a y2.l y2.c] 38))
            have HYE := hide (st3_alloc hYD (.cells #[.int .u8 y2.k, .int .u16 y2.s, .slice y2.a y2.l y2.c] 38))
            have HRE := hide (rd_alloc hRD (.cells #[.int .u8 y2.k, .int .u16 y2.s, .slice y2.a y2.l y2.c] 38))
            have HGE := hide (gb_trans hGD (gb_alloc wD (.cells #[.int .u8 y2.k, .int .u16 y2.s, .slice y2.a y2.l y2.c] 38) (some q)))
            have HT2E := hide (tr_node1 (k := 4) hT2 (by omega))
            clear hT2 hN2 hS2 hb hTD hSD hYD hRD hGD HT3 HS3 HY3 HR3 HG3 n0 n1 n2
            go_wp2_with fail
            have HZE := hide (show (wD.alloc (.cells #[.int .u8 y2.k, .int .u16 y2.s, .slice y2.a y2.l y2.c] 38)).heap.size = wD.heap.size + 1 by simp)
            generalize wD.alloc (.cells #[.int .u8 y2.k, .int .u16 y2.s, .slice y2.a y2.l y2.c] 38) = WE at *
            generalize wD.heap.size = zD at *
            refine (mknode_any 4 _ _ _ WE).mono ?_
            rintro e wF ⟨rfl, hb⟩
            have hTG := tr_alloc (tr_below HTE.out hb) (.cells #[.int .u8 4, .int .u16 0, .slice (some ⟨zD, 0, none⟩) 1 1] 38)
            have hT2G := tr_alloc (tr_below HT2E.out hb) (.cells #[.int .u8 4, .int .u16 0, .slice (some ⟨zD, 0, none⟩) 1 1] 38)
            have hSG := st3_alloc (st3_below HSE.out hb (st3_lt HSE.out)) (.cells #[.int .u8 4, .int .u16 0, .slice (some ⟨zD, 0, none⟩) 1 1] 38)
            have hYG := st3_alloc (st3_below HYE.out hb (st3_lt HYE.out)) (.cells #[.int .u8 4, .int .u16 0, .slice (some ⟨zD, 0, none⟩) 1 1] 38)
            have hRG := rd_alloc (rd_below HRE.out hb (rd_lt HRE.out)) (.cells #[.int .u8 4, .int .u16 0, .slice (some ⟨zD, 0, none⟩) 1 1] 38)
            have hGG := gb_trans (gb_trans HGE.out (gb_below (q := some q) hb)) (gb_alloc wF (.cells #[.int .u8 4, .int .u16 0, .slice (some ⟨zD, 0, none⟩) 1 1] 38) (some q))
            have hX := st3_new wF 4 0 (.slice (some ⟨zD, 0, none⟩) 1 1)
            have HFZ := hide (show zD < wF.heap.size by have := hb.size; have := HZE.out; omega)
            have HTG := hide hTG
            have HT2G := hide hT2G
            have HSG := hide hSG
            have HYG := hide hYG
            have HRG := hide hRG
            have HGG := hide hGG
            have HXG := hide hX
            have HZG := hide (show (wF.alloc (.cells #[.int .u8 4, .int .u16 0, .slice (some ⟨zD, 0, none⟩) 1 1] 38)).heap.size = wF.heap.size + 1 by simp)
            obtain ⟨n0, n1, n2, -⟩ := st3_cells HYG.out
            have HTH := hide (tr_node2 (k := 2) (tr_lift n t y S HTG.out) HT2G.out (by omega))
            have HSH := hide (st3_alloc HSG.out (.cells #[.int .u8 y.k, .int .u16 y.s, .slice y.a y.l y.c, .int .u8 4, .int .u16 0, .slice (some ⟨zD, 0, none⟩) 1 1] 38))
            have HRH := hide (rd_alloc HRG.out (.cells #[.int .u8 y.k, .int .u16 y.s, .slice y.a y.l y.c, .int .u8 4, .int .u16 0, .slice (some ⟨zD, 0, none⟩) 1 1] 38))
            have HGH := hide (gb_trans HGG.out (gb_alloc (wF.alloc (.cells #[.int .u8 4, .int .u16 0, .slice (some ⟨zD, 0, none⟩) 1 1] 38)) (.cells #[.int .u8 y.k, .int .u16 y.s, .slice y.a y.l y.c, .int .u8 4, .int .u16 0, .slice (some ⟨zD, 0, none⟩) 1 1] 38) (some q)))
            rw [HZG.out] at HTH
            clear hb hTG hT2G hSG hYG hRG hGG hX HTE HSE HYE HRE HGE HT2E HTG HT2G HSG HYG HRG HGG HXG
            go_wp2_with fail
            have HTH2 := hide (show Tr ((wF.alloc (.cells #[.int .u8 4, .int .u16 0, .slice (some ⟨zD, 0, none⟩) 1 1] 38)).alloc (.cells #[.int .u8 y.k, .int .u16 y.s, .slice y.a y.l y.c, .int .u8 4, .int .u16 0, .slice (some ⟨zD, 0, none⟩) 1 1] 38)) (n + 2) ((2, 0, [liftE n t, ((4, 0, [t]) : Ex (n + 1))]) : Ex (n + 2)) ⟨2, 0, some ⟨wF.heap.size + 1, 0, none⟩, 2, 2⟩ ((wF.heap.size + 1) :: (S ++ zD :: S2)) from HTH.out)
            clear HTH
            generalize (wF.alloc (.cells #[.int .u8 4, .int .u16 0, .slice (some ⟨zD, 0, none⟩) 1 1] 38)).alloc (.cells #[.int .u8 y.k, .int .u16 y.s, .slice y.a y.l y.c, .int .u8 4, .int .u16 0, .slice (some ⟨zD, 0, none⟩) 1 1] 38) = WH at *
            refine (mknode_any 2 _ _ _ WH).mono ?_
            rintro e wI ⟨rfl, hb⟩
            obtain ⟨m0, m1, m2, m3⟩ := st3_cells (st3_below HSH.out hb (st3_lt HSH.out))
            have m4 := m3 0
            have m5 := m3 1
            have m6 := m3 2
            have HRF := hide (rd_below HRH.out hb (rd_lt HRH.out))
            have HGF := hide (gb_trans HGH.out (gb_below (q := some q) hb))
            have HTF := hide (tr_below HTH2.out hb)
            clear hb m3 HSH HRH HGH HTH2 n0 n1 n2
            go_wp2
            refine bodyPost_ret (v := .agg #[.int .u8 2, .int .u16 0, .slice (some ⟨wF.heap.size + 1, 0, none⟩) 2 2]) (by simp [results, Tryz.results98, go_sem, m0, m1, m2]) rfl ?_
            rw [HF.out]
            have hrF := HFZ.out
            have hmem : ∀ b ∈ (wF.heap.size + 1) :: (S ++ zD :: S2), r < b := fun b hb => by
              have := HRD2.out
              rcases List.mem_cons.1 hb with rfl | hb
              · omega
              · rcases List.mem_append.1 hb with hb | hb
                · exact HSS.out b hb
                · rcases List.mem_cons.1 hb with rfl | hb
                  · omega
                  · exact HS2L.out b hb
            have hnd : ((wF.heap.size + 1) :: (S ++ zD :: S2)).Nodup := by
              refine List.nodup_cons.2 ⟨fun hm => ?_, List.nodup_append.2 ⟨HN.out, List.nodup_cons.2 ⟨fun hm => Nat.lt_irrefl _ (HSD2.out _ hm), HN2.out⟩, fun b hb c hc e => ?_⟩⟩
              · rcases List.mem_append.1 hm with hm | hm
                · have := HSD1.out _ hm; omega
                · rcases List.mem_cons.1 hm with hm | hm
                  · omega
                  · have := HSD2.out _ hm; omega
              · subst e
                rcases List.mem_cons.1 hc with hc | hc
                · have := HSD1.out _ hb; omega
                · have := HS12.out _ hb _ hc; omega
            exact ⟨⟨2, 0, some ⟨wF.heap.size + 1, 0, none⟩, 2, 2⟩, _, rfl, fin_tr HTF.out hmem _ _ _, hnd, (fun b hb => by have := HQ.out; have := hmem b hb; omega), by omega, hlt, fin_rd HRF.out hqr _ _ _, fin_gb HGF.out (by have := HQ.out; omega) _ _ _⟩
end Go.Proofs.YtccaknabpnpjaaaGreatDoor.A
