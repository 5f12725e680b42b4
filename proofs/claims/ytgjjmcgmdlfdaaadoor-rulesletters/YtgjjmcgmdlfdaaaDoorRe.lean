/- What the reader makes: expressions in blocks of their own. -/
import Derived.Test.YtgjjmcgmdlfdaaaDoorRd
import Derived.Test.YtgjjmcgmdlfdaaaDoorY
namespace Go.Proofs.YtgjjmcgmdlfdaaaDoor.A
open Go.RowKit
set_option linter.unusedVariables false

theorem tr_lift {w : World} : ∀ (n : Nat) (t : Ex n) (x : Nd) (S : List Nat), Tr w n t x S → Tr w (n + 1) (liftE n t) x S
  | 0, _, _, _, h => h.elim
  | n + 1, t, x, S, ⟨h1, h2, h3, h4, h5, h6, h7, h8⟩ => by
    refine ⟨h1, h2, h3, h4, h5, h6, ?_, ?_⟩
    · show ((ks t).map (fun x => liftE n x)).length = x.l
      rw [List.length_map]; exact h7
    · rcases h8 with h8 | ⟨b, cs, ys, Ss, a1, a2, a3, a4, a5, a6, a7⟩
      · exact .inl h8
      · refine .inr ⟨b, cs, ys, Ss, a1, a2, a3, a4, a5, a6, fun i e y T he hy hT => ?_⟩
        have he' : ((ks t).map (fun x => liftE n x))[i]? = some e := he
        rw [List.getElem?_map] at he'
        obtain ⟨e0, he0, rfl⟩ := Option.map_eq_some_iff.1 he'
        exact tr_lift n e0 y T (a7 i e0 y T he0 hy hT)
/-- Blocks from some place on stay. -/
def Keep (B : Nat) (w w' : World) : Prop := w.heap.size ≤ w'.heap.size ∧ ∀ b, B ≤ b → b < w.heap.size → w'.heap[b]? = w.heap[b]?
theorem keep_gb {B q : Nat} {w w' : World} (h : w.grownBy w' (some q)) (hq : q < B) : Keep B w w' := ⟨h.size, fun b hb hl => h.block b hl (by intro e; cases e; omega)⟩
theorem keep_below {B : Nat} {w w' : World} (h : Below w.heap.size w w') : Keep B w w' := ⟨h.size, fun b _ hl => h.block b hl⟩
theorem tr_kept {B : Nat} {w w' : World} {n : Nat} {t : Ex n} {x : Nd} {S : List Nat} (h : Tr w n t x S) (hS : ∀ b ∈ S, B ≤ b) (hk : Keep B w w') : Tr w' n t x S := tr_keep n t x S (fun b hb => hk.2 b (hS b hb) (tr_lt n t x S h b hb)) h
theorem mkg_kept {base : Nat} {w w' : World} {n : Nat} {l : List (Ex n)} {v : Value} {ys : List Nd} {Ss : List (List Nat)} (h : Mkg base w n l v ys Ss) (hk : Keep base w w') : Mkg base w' n l v ys Ss := by
  obtain ⟨h1, h2, h3, h4, h5, h6, h7⟩ := h
  refine ⟨⟨h1.1, ?_⟩, h2, h3, fun i e y T he hy hT => tr_keep n e y T (fun b hb => hk.2 b (h6 b (mem_flat hT hb)).1 (h6 b (mem_flat hT hb)).2) (h4 i e y T he hy hT), h5, fun b hb => ⟨(h6 b hb).1, Nat.lt_of_lt_of_le (h6 b hb).2 hk.1⟩, h7⟩
  have hlt := h1.lt
  rcases h1.2 with h0 | ⟨g, cap, cur, hv, hg, hcur, q1, q2, q3, q4⟩
  · exact .inl h0
  · exact .inr ⟨g, cap, cur, hv, hg, (hk.2 g hg (hlt g (by rw [hv]; rfl)).2).trans hcur, q1, q2, q3, q4⟩
/-- A list of one. -/
theorem mkg_one {base : Nat} {w : World} {n : Nat} {t : Ex n} {y : Nd} {S : List Nat} (h : Tr w n t y S) (hn : S.Nodup) (hS : ∀ b ∈ S, base ≤ b) (hb : base ≤ w.heap.size) :
    Mkg base (w.alloc (.cells #[.int .u8 y.k, .int .u16 y.s, .slice y.a y.l y.c] 40)) n [t] (.slice (some ⟨w.heap.size, 0, none⟩) 1 1) [y] [S] := by
  have hlt := tr_lt n t y S h
  refine ⟨⟨by simp [cellsN, cellsO], .inr ⟨w.heap.size, 1, _, rfl, hb, heap_alloc_last w _, Nat.le_refl _, by unfold maxLen; omega, by simp, by simp [cellsN, cellsO]⟩⟩, rfl, rfl, ?_, by simpa using hn, ?_, ?_⟩
  · intro i e y' T he hy hT
    match i with
    | 0 =>
      simp only [List.getElem?_cons_zero, Option.some.injEq] at he hy hT
      subst he; subst hy; subst hT
      exact tr_keep n _ _ _ (fun b hb' => Below.heap_alloc _ _ _ (hlt b hb')) h
    | i + 1 => simp at he
  · intro b hb'
    have : b ∈ S := by simpa using hb'
    exact ⟨hS b this, by have := hlt b this; simp; omega⟩
  · intro g hg hm
    have e : w.heap.size = g := by simpa [Value.ownBlock] using hg
    have : g ∈ S := by simpa using hm
    have := hlt g this
    omega
/-- Of some a node, of one that one, of none the empty word. -/
def togE (k : Nat) {n : Nat} : List (Ex n) → Ex (n + 1)
  | [] => (0, 0, [])
  | [x] => liftE n x
  | l => (k, 0, l)

theorem mknode_any (k : Nat) (a : Option Addr) (len cap : Nat) (w : World) :
    Calls Tryd.prog 76 #[.int .u8 k, .slice a len cap] w fun e w' => e = .returned (.agg #[.int .u8 k, .int .u16 0, .slice a len cap]) ∧ Below w.heap.size w w' := by
  have HB := hide ((Below.refl w.heap.size w).alloc (Nat.le_refl _) (.cells #[.int .u8 k, .int .u16 0, .slice a len cap] 40))
  go_enter Tryd.func76, Tryd.ntmps76
  go_wp2
  refine bodyPost_ret (v := .agg #[.int .u8 k, .int .u16 0, .slice a len cap]) (by simp [results, Tryd.results76, go_sem]) rfl ?_
  exact ⟨rfl, HB.out⟩

/-- What a call that makes an expression answers. -/
def Made (base : Nat) (w : World) (n : Nat) (t : Ex n) (e : Ending) (w' : World) : Prop := ∃ (y : Nd) (S : List Nat), e = .returned (.agg #[.int .u8 y.k, .int .u16 y.s, .slice y.a y.l y.c]) ∧ Tr w' n t y S ∧ S.Nodup ∧ (∀ b ∈ S, base ≤ b) ∧ Below w.heap.size w w'

set_option maxHeartbeats 1600000 in
theorem together_any (base k n : Nat) (l : List (Ex n)) (v : Value) (ys : List Nd) (Ss : List (List Nat)) (w : World) (hk : k < 256) (hl : l.length ≤ 4000) (h : Mkg base w n l v ys Ss) :
    Calls Tryd.prog 70 #[.int .u8 k, v] w fun e w' => Made base w (n + 1) (togE k l) e w' := by
  match l, hl, h with
  | [], _, h =>
    have hform : ∃ a cap, v = .slice a 0 cap := by
      rcases h.1.2 with ⟨rfl, _⟩ | ⟨g, cap, cur, rfl, _⟩
      · exact ⟨_, _, rfl⟩
      · exact ⟨_, _, rfl⟩
    obtain ⟨a, cap, rfl⟩ := hform
    have HB := hide ((Below.refl w.heap.size w).alloc (Nat.le_refl _) (.cells #[.int .u8 0, .int .u16 0, .slice none 0 0] 40))
    clear h
    go_enter Tryd.func70, Tryd.ntmps70
    go_wp2
    refine bodyPost_ret (v := .agg #[.int .u8 0, .int .u16 0, .slice none 0 0]) (by simp [results, Tryd.results70, go_sem]) rfl ?_
    exact ⟨⟨0, 0, none, 0, 0⟩, [], rfl, ⟨rfl, rfl, by show (0 : Nat) < 256; omega, by show (0 : Nat) < 65536; omega, Nat.le_refl _, by show (0 : Nat) ≤ maxLen; unfold maxLen; omega, rfl, .inl ⟨rfl, rfl⟩⟩, by simp, (fun b hb => by cases hb), HB.out⟩
  | [x], _, h =>
    obtain ⟨h1, h2, h3, h4, h5, h6, h7⟩ := h
    obtain ⟨y, rfl⟩ : ∃ y, ys = [y] := by
      match ys, h2 with
      | [y], _ => exact ⟨y, rfl⟩
    obtain ⟨S, rfl⟩ : ∃ S, Ss = [S] := by
      match Ss, h3 with
      | [S], _ => exact ⟨S, rfl⟩
    have hT := h4 0 x y S rfl rfl rfl
    have hlt := tr_lt n x y S hT
    obtain ⟨g, cap, cur, rfl, hg, hcur, q1, q2, q3, q4⟩ : ∃ g cap cur, v = .slice (some ⟨g, 0, none⟩) 1 cap ∧ base ≤ g ∧ w.heap[g]? = some (.cells cur 40 (0, 0)) ∧ 1 ≤ cap ∧ cap ≤ maxLen ∧ cur.size = cap * 3 ∧ cur.toList.take (1 * 3) = cellsN [y] := by
      rcases h1.2 with ⟨_, h0⟩ | h0
      · simp at h0
      · exact h0
    have hc : ∀ j u, (cellsN [y])[j]? = some u → w.cell? ⟨g, j, none⟩ = some u := fun j u hj => by
      rw [cell_of_row w g j cur 40 (0, 0) hcur]
      rw [← q4] at hj
      have := List.getElem?_take_of_lt (l := cur.toList) (i := j) (j := 1 * 3) (by have := (List.getElem?_eq_some_iff.1 hj).1; simp at this; omega)
      rw [this] at hj
      simpa using hj
    have c0 := hc 0 (.int .u8 y.k) (by simp [cellsN, cellsO])
    have c1 := hc 1 (.int .u16 y.s) (by simp [cellsN, cellsO])
    have c2 := hc 2 (.slice y.a y.l y.c) (by simp [cellsN, cellsO])
    have d0 := cell_alloc c0 (.cells #[.int .u8 0, .int .u16 0, .slice none 0 0] 40)
    have d1 := cell_alloc c1 (.cells #[.int .u8 0, .int .u16 0, .slice none 0 0] 40)
    have d2 := cell_alloc c2 (.cells #[.int .u8 0, .int .u16 0, .slice none 0 0] 40)
    have hb' := (Below.refl w.heap.size w).alloc (Nat.le_refl _) (.cells #[.int .u8 y.k, .int .u16 y.s, .slice y.a y.l y.c] 40)
    have HB := hide hb'
    have HT := hide (tr_lift n x y S (tr_keep n x y S (fun b hb => hb'.block b (hlt b hb)) hT))
    have HN := hide (show S.Nodup by simpa using h5)
    have HS := hide (show ∀ b ∈ S, base ≤ b from fun b hb => (h6 b (by simpa using hb)).1)
    clear h1 h2 h3 h4 h5 h6 h7 hT hlt hc hb' hcur q4
    go_enter Tryd.func70, Tryd.ntmps70
    go_wp2
    refine bodyPost_ret (v := .agg #[.int .u8 y.k, .int .u16 y.s, .slice y.a y.l y.c]) (by simp [results, Tryd.results70, go_sem]) rfl ?_
    exact ⟨y, S, rfl, HT.out, HN.out, HS.out, HB.out⟩
  | x1 :: x2 :: r, hl, h =>
    obtain ⟨len, hlen⟩ : ∃ len, (x1 :: x2 :: r).length = len := ⟨_, rfl⟩
    have hlen2 : 2 ≤ len ∧ len ≤ 4000 := by rw [← hlen]; exact ⟨by simp, hl⟩
    obtain ⟨a, len', cap, S, rfl, hT, hN, hS⟩ := mkg_end h hk (show (0 : Nat) < 65536 by omega)
    have e : len' = len := by
      have e1 := hT.2.2.2.2.2.2.1
      have e2 : (x1 :: x2 :: r).length = len' := e1
      omega
    subst e
    have hlt := tr_lt _ _ _ _ hT
    have HT := hide hT
    have HN := hide hN
    have HS := hide hS
    have HL := hide hlt
    have HB0 := hide ((Below.refl w.heap.size w).alloc (Nat.le_refl _) (.cells #[.int .u8 0, .int .u16 0, .slice none 0 0] 40))
    have HST := hide (heap_alloc_last w (.cells #[.int .u8 0, .int .u16 0, .slice none 0 0] 40))
    have y0 : ((len' : Int) == 0) = false := by simp; omega
    have y1 : ((len' : Int) == 1) = false := by simp; omega
    clear h hT hN hS hl hlt hlen
    go_enter Tryd.func70, Tryd.ntmps70
    go_wp2_with fail
    refine (mknode_any k a len' cap _).mono ?_
    rintro e w1 ⟨rfl, hb⟩
    have hst : St3 w1 w.heap.size 0 0 (.slice none 0 0) := (hb.block _ (by simp)).trans HST.out
    obtain ⟨m0, m1, m2, m3⟩ := st3_cells hst
    have m4 := m3 0
    have m5 := m3 1
    have m6 := m3 2
    have HB1 := hide (HB0.out.trans (hb.mono HB0.out.size))
    clear m3 hb hst
    go_wp2
    refine bodyPost_ret (v := .agg #[.int .u8 k, .int .u16 0, .slice a len' cap]) (by simp [results, Tryd.results70, go_sem, m0, m1, m2]) rfl ?_
    have hbf := ((HB1.out.setCell (p := ⟨w.heap.size, 0, none⟩) (by simp) (.int .u8 k)).setCell (p := ⟨w.heap.size, 1, none⟩) (by simp) (.int .u16 0)).setCell (p := ⟨w.heap.size, 2, none⟩) (by simp) (.slice a len' cap)
    refine ⟨⟨k, 0, a, len', cap⟩, S, rfl, ?_, HN.out, HS.out, hbf⟩
    exact tr_keep _ _ _ _ (fun b hb => hbf.block b (HL.out b hb)) HT.out
end Go.Proofs.YtgjjmcgmdlfdaaaDoor.A
