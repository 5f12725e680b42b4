/- What Build tells, of any expressions. -/
import Derived.Test.YtccaknabpnpjaaaGreatDoorPk20
import Derived.Test.YtccaknabpnpjaaaGreatDoorPk21
import Derived.Test.YtccaknabpnpjaaaGreatDoorPk18
import Derived.Test.YtccaknabpnpjaaaGreatDoorPk1
import Derived.WalkLawsBesides
import Derived.Laws.AppendOwn
import Derived.Test.YtccaknabpnpjaaaGreatDoorPk16
namespace Go.Proofs.YtccaknabpnpjaaaGreatDoor.A
open Go.RowKit
set_option linter.unusedVariables false

theorem tb_of' {tr : List Int → Nat → List Int} {ls : List Int → Int} {start : List Int} : ∀ m, m = 201 → (stF tr ls start m).1.length ≤ 200 → Tb tr ls start (stF tr ls start m).1 (stF tr ls start m).2.1 (stF tr ls start m).2.2 := by
  intro m hm
  subst hm
  exact tb_of

theorem outD_open {tr : List Int → Nat → List Int} {ls : List Int → Int} {start : List Int} {m : Nat} {w w' : World} {e : Ending} (hm : m = 201) (h : OutD w (stF tr ls start m) e w') :
    (e = .returned (noDf 7) ∧ Below w.heap.size w w') ∨ ∃ (S nx : List (List Int)) (ru : List Int) (b0 b1 : Option Addr) (c0 c1 : Nat), Tb tr ls start S nx ru ∧ e = .returned (.tuple #[.agg #[.slice b0 nx.length c0, .slice b1 ru.length c1], .int .i64 0]) ∧ Dm w' b0 b1 nx.length ru.length nx ru ∧ Below w.heap.size w w' := by
  have T' := tb_of' (tr := tr) (ls := ls) (start := start) m hm
  generalize stF tr ls start m = σ at h T'
  unfold OutD at h
  by_cases c : 200 < σ.1.length
  · rw [if_pos c] at h; exact .inl h
  · rw [if_neg c] at h
    obtain ⟨b0, b1, c0, c1, h1, h2, h3, h4⟩ := h
    have T := T' (by omega)
    have e1 := T.ln
    have e2 := T.lr
    have e3 := T.most
    exact .inr ⟨_, _, _, b0, b1, c0, c1, T, h1, ⟨rfl, rfl, h2, h3, by unfold maxLen; omega, by unfold maxLen; omega⟩, h4⟩

theorem pos_most {w : World} {n : Nat} {a : Option Addr} {len : Nat} {l : List (Ex n)} (h : mayB l = true) (hk : Kids w n a len l) (h6 : l.length = len) : posE 1 l len ≤ 3300 := by
  obtain ⟨h1, h2, h3, h4⟩ := may_open h hk h6
  have hall : ∀ x ∈ l, rightE n x = true := by
    unfold mayB at h
    simp only [Bool.and_eq_true, decide_eq_true_eq, List.all_eq_true] at h
    exact h.2.2
  have hri : ∀ x ∈ l, realN n x ≤ 100 := fun x hx => by
    obtain ⟨r1, _, _⟩ := (right_iff (h3 x hx)).1 (hall x hx)
    omega
  have hsum := sum_le l hri
  have hpall := pos_all l 1
  rw [h6] at hpall hsum
  omega

theorem post_open {n : Nat} {l : List (Ex n)} {len : Nat} {fs : List (List Int)} {ss : List Nat} {ts rs : List Int} {N m : Nat} {tr : List Int → Nat → List Int} {g0 : Nat → Bool} (hm : m = 201) (hful : ∀ x ∈ l, full n x) (hsh : ∀ x ∈ l, shapesE n x = true) (h6 : l.length = len) (hl2 : len ≤ 16)
    (hi : Is (FrA l) (SpA l) N fs ss ts) (hr : RsI l len rs) (hrl : rs.length = N) (hN : N = posE 1 l len) (hN3 : N ≤ 3300) (htr : TrS fs ss ts N tr) (hg0 : IsCl fs N (tblB [0] 1) g0) {w w' : World} {e : Ending} (h : OutD w (stF tr (lstR rs) (lstL g0 N) m) e w') :
    (e = .returned (noDf 7) ∧ Below w.heap.size w w') ∨ ∃ (nx : List (List Int)) (ru : List Int) (b0 b1 : Option Addr) (c0 c1 : Nat), rightD nx ru = true ∧ (∀ word, matR nx ru word = leastR (hasN l word) len 0) ∧ e = .returned (.tuple #[.agg #[.slice b0 nx.length c0, .slice b1 ru.length c1], .int .i64 0]) ∧ Dm w' b0 b1 nx.length ru.length nx ru ∧ Below w.heap.size w w' := by
  have hM := build_mach hful h6 hl2 hi hr hrl hN hN3
  rcases outD_open hm h with h | ⟨S, nx, ru, b0, b1, c0, c1, T, h1, h2, h3⟩
  · exact .inl h
  · refine .inr ⟨nx, ru, b0, b1, c0, c1, tb_right T (fun s => lst_rng hM.rule s (-1) (by omega)), fun word => ?_, h1, h2, h3⟩
    obtain ⟨g, hg, _⟩ := set_run htr hg0 T word word.length
    rw [set_mat htr hg0 T hrl hM.rule word g hg]
    exact match_rule word hful hsh h6 hl2 hi hr hrl hN hN3 g hg

theorem build7_any (n : Nat) (a : Option Addr) (len cap : Nat) (l : List (Ex n)) (w : World) (hl : len ≤ maxLen) (h6 : l.length = len) (hk : Kids w n a len l) (hyes : mayB l = true) (ht : Tab w.heap.size w) :
    Calls Tryz.prog 7 #[.slice a len cap] w fun e w' => (e = .returned (noDf 7) ∧ Below w.heap.size w w') ∨ ∃ (nx : List (List Int)) (ru : List Int) (b0 b1 : Option Addr) (c0 c1 : Nat), rightD nx ru = true ∧ (∀ word, matR nx ru word = leastR (hasN l word) len 0) ∧ e = .returned (.tuple #[.agg #[.slice b0 nx.length c0, .slice b1 ru.length c1], .int .i64 0]) ∧ Dm w' b0 b1 nx.length ru.length nx ru ∧ Below w.heap.size w w' := by
  obtain ⟨hl1, hl2, hful, hsh⟩ := may_open hyes hk h6
  obtain ⟨N, hN⟩ : ∃ N, N = posE 1 l len := ⟨_, rfl⟩
  have hN3 : N ≤ 3300 := by rw [hN]; exact pos_most hyes hk h6
  obtain ⟨rs, hrl, hr⟩ := rules_are l len N
  have hi := lists_is (fun x hx => ⟨hful x hx, hsh x hx⟩) N
  generalize (List.range N).map (layA l 1 mc0).fr = fs at hi
  generalize (List.range N).map (layA l 1 mc0).st = ss at hi
  generalize (List.range N).map (layA l 1 mc0).to = ts at hi
  obtain ⟨tr, htr⟩ := tr_is fs ss ts N
  obtain ⟨g0, hg0⟩ := close_is fs N (tblB [0] 1)
  exact (dbuild_yes7 n a len cap l w hl h6 hk hyes fs ss ts rs N tr g0 hi hr hrl hN htr hg0 ht).mono fun _ _ => post_open rfl hful hsh h6 hl2 hi hr hrl hN hN3 htr hg0
end Go.Proofs.YtccaknabpnpjaaaGreatDoor.A

/- The law's own bound on lists. -/
namespace Go.Proofs.YtccaknabpnpjaaaGreatDoor.A
open Go.RowKit
set_option linter.unusedVariables false

set_option maxRecDepth 100000 in
set_option maxHeartbeats 3200000 in
theorem lgreat_any (n : Nat) (a : Option Addr) (len cap : Nat) (l : List (Ex n)) (w : World) (hl : len ≤ maxLen) (h6 : l.length = len) (hkids : Kids w n a len l) :
    Calls Tryz.prog 6 #[.slice a len cap] w fun e w' => (∃ g : Bool, e = .returned (.bool g) ∧ (g = false → len ≤ 20 ∧ ∀ (i : Nat) (x : Ex n), i < 17 → l[i]? = some x → greatE n x 20 = false)) ∧ Below w.heap.size w w' := by
  unfold maxLen at hl
  have HK := hide hkids
  have HL := hide h6
  clear hkids h6
  go_enter Tryz.func6, Tryz.ntmps6
  go_wp2_with fail
  go_loopw [3, 4] (fun s u wr => ∃ i d : Nat, i ≤ len ∧ i ≤ 17 ∧ d ≤ 2000 * i ∧ s = .int .i64 d ∧ u = .int .i64 i ∧ (∀ (j : Nat) (x : Ex n), j < i → l[j]? = some x → greatE n x 20 = false) ∧ Below w.heap.size w wr) (fun _ u _ => len - (intOf u).toNat)
  case atStart => exact ⟨0, 0, Nat.zero_le _, by omega, by omega, rfl, rfl, fun j x hj => by omega, Below.refl _ _⟩
  case round =>
    obtain ⟨i, d, hi, hi2, hd, rfl, rfl, hg, hb⟩ := hrel
    have HG := hide hg
    have HBW := hide hb
    clear hg
    by_cases hlt : i < len ∧ i < 17
    · obtain ⟨h1, h2⟩ := hlt
      have d0 : decide ((i : Int) < (len : Int)) = true := by simp; omega
      have d1 : decide ((i : Int) < 17) = true := by simp; omega
      obtain ⟨x, b, off, c0, c1, c2, rfl, hx, k0, k1, k2, k3⟩ := HK.out wr hb i h1
      have HXX := hide hx
      have HK3 := hide k3
      have i3 : (0 : Int) ≤ (i : Int) := by omega
      have i4 : (i : Int) < (len : Int) := by omega
      clear hx k3 hb
      go_wp2_with fail
      refine (rgreat_any n x _ 20 wr (by omega) HK3.out).mono ?_
      rintro e w2 ⟨rfl, hb2⟩
      have HB2 := hide (HBW.out.trans (hb2.mono HBW.out.size))
      have k0' := (hb2.cell (cell_lt k0)).trans k0
      have k1' := (hb2.cell (cell_lt k1)).trans k1
      have k2' := (hb2.cell (cell_lt k2)).trans k2
      have HX2 := hide (rx_below hb2 n x _ HK3.out)
      clear hb2 k0 k1 k2
      cases hf : greatE n x 20
      · have HF := hide hf
        clear hf
        obtain ⟨y, hy⟩ := rx_trim 20 n _ _ HX2.out HF.out
        have HY := hide hy
        have hnd := nodes_le 20 y
        clear hy
        go_wp2_with fail
        refine (rright_any 20 y _ w2 (by omega) HY.out).mono ?_
        rintro e w3 ⟨rfl, hb3⟩
        have HB3 := hide (HB2.out.trans (hb3.mono HB2.out.size))
        have k0'' := (hb3.cell (cell_lt k0')).trans k0'
        have k1'' := (hb3.cell (cell_lt k1')).trans k1'
        have k2'' := (hb3.cell (cell_lt k2')).trans k2'
        have HY3 := hide (rx_below hb3 20 y _ HY.out)
        have HGN := hide (show ∀ (j : Nat) (x : Ex n), j < i + 1 → l[j]? = some x → greatE n x 20 = false from fun j x' hj hx' => by
          by_cases e : j = i
          · subst e; rw [HXX.out] at hx'; cases hx'; exact HF.out
          · exact HG.out j x' (by omega) hx')
        clear hb3 k0' k1' k2'
        cases hr : rightE 20 y
        · clear hr
          go_wp2
          go_roundw
          case rel => exact ⟨i + 1, d, by omega, by omega, by omega, by go_num, by go_num, HGN.out, HB3.out⟩
          case measure => simp [intOf]; omega
        · clear hr
          go_wp2_with fail
          refine (rnodes_any 20 y _ w3 (by omega) HY3.out).mono ?_
          rintro e w4 ⟨rfl, hb4⟩
          have HB4 := hide (HB3.out.trans (hb4.mono HB3.out.size))
          generalize nodesE 20 y = nd at *
          clear hb4 k0'' k1'' k2''
          go_wp2
          go_roundw
          case rel => exact ⟨i + 1, d + nd, by omega, by omega, by omega, by go_num, by go_num, HGN.out, HB4.out⟩
          case measure => simp [intOf]; omega
      · clear hf
        go_wp2
        go_ret
        exact ⟨⟨true, rfl, fun h => by cases h⟩, HB2.out⟩
    · have HEND := hide (show ∀ (j : Nat) (x : Ex n), j < 17 → l[j]? = some x → greatE n x 20 = false from fun j x hj hx => HG.out j x (by have := (List.getElem?_eq_some_iff.1 hx).1; have := HL.out; omega) hx)
      clear hb
      by_cases h1 : i < len
      · have d0 : decide ((i : Int) < (len : Int)) = true := by simp; omega
        have d1 : decide ((i : Int) < 17) = false := by simp; omega
        by_cases c : 20 < len
        · have d2 : decide ((20 : Int) < (len : Int)) = true := by simp; omega
          go_wp2
          go_ret
          exact ⟨⟨true, rfl, fun h => by cases h⟩, HBW.out⟩
        · have d2 : decide ((20 : Int) < (len : Int)) = false := by simp; omega
          go_wp2
          go_ret
          exact ⟨⟨_, rfl, fun h => ⟨by omega, HEND.out⟩⟩, HBW.out⟩
      · have d0 : decide ((i : Int) < (len : Int)) = false := by simp; omega
        have d2 : decide ((20 : Int) < (len : Int)) = false := by simp; omega
        go_wp2
        go_ret
        exact ⟨⟨_, rfl, fun h => ⟨by omega, HEND.out⟩⟩, HBW.out⟩
end Go.Proofs.YtccaknabpnpjaaaGreatDoor.A

/- The reader of a line: its block, what it takes, needs. -/
namespace Go.Proofs.YtccaknabpnpjaaaGreatDoor.A
open Go.RowKit
set_option linter.unusedVariables false

/-- A byte of a text; 0 behind its end. -/
def by8 (L : ByteArray) (i : Nat) : Nat := if h : i < L.size then (L[i]'h).toNat else 0
theorem by8_lt (L : ByteArray) (i : Nat) : by8 L i < 256 := by
  unfold by8
  split
  · exact (L[i]'_).toNat_lt
  · omega
/-- The reader's block. -/
def Rd (w : World) (q : Nat) (L : ByteArray) (i : Nat) : Prop := w.heap[q]? = some (.cells #[.string L, .int .i64 i] 105 (0, 0))
theorem rd_cells {w : World} {q : Nat} {L : ByteArray} {i : Nat} (h : Rd w q L i) : w.cell? ⟨q, 0, none⟩ = some (.string L) ∧ w.cell? ⟨q, 1, none⟩ = some (.int .i64 i) ∧ w.frozen? ⟨q, 0, none⟩ = false ∧ w.frozen? ⟨q, 1, none⟩ = false := by
  unfold Rd at h
  refine ⟨?_, ?_, ?_, ?_⟩ <;> simp [World.cell?, World.frozen?, h]
theorem rd_lt {w : World} {q : Nat} {L : ByteArray} {i : Nat} (h : Rd w q L i) : q < w.heap.size := (Array.getElem?_eq_some_iff.1 h).1
theorem rd_set {w : World} {q : Nat} {L : ByteArray} {i : Nat} (h : Rd w q L i) (j : Nat) : Rd (w.setCell ⟨q, 1, none⟩ (.int .i64 j)) q L j := by
  unfold Rd at h ⊢
  rw [setCell_eq_setRow _ _ _ _ _ _ _ h, setRow_heap _ _ _ _ _ _ h]
  rfl
theorem rd_below {w w' : World} {q B : Nat} {L : ByteArray} {i : Nat} (h : Rd w q L i) (hb : Below B w w') (hq : q < B) : Rd w' q L i := (hb.block q hq).trans h
/-- All but the reader's block stays. -/
theorem gb_refl (w : World) (q : Option Nat) : w.grownBy w q := ⟨rfl, rfl, rfl, Nat.le_refl _, fun _ _ _ => rfl⟩
theorem gb_trans {a b c : World} {q : Option Nat} (h : a.grownBy b q) (k : b.grownBy c q) : a.grownBy c q :=
  ⟨k.os.trans h.os, k.tape.trans h.tape, k.output.trans h.output, Nat.le_trans h.size k.size, fun j hj hq => (k.block j (Nat.lt_of_lt_of_le hj h.size) hq).trans (h.block j hj hq)⟩
theorem gb_below {a b : World} {q : Option Nat} (h : Below a.heap.size a b) : a.grownBy b q := ⟨h.os, h.tape, h.output, h.size, fun j hj _ => h.block j hj⟩
theorem gb_set (w : World) (q : Nat) (j : Nat) (v : Value) : w.grownBy (w.setCell ⟨q, j, none⟩ v) (some q) :=
  ⟨rfl, rfl, rfl, by simp, fun k _ hk => Below.heap_setCell _ _ _ _ (by intro e; exact hk (by rw [e]))⟩
theorem gb_drewN (w : World) (q : Option Nat) (n : Nat) : w.grownBy (w.drewN n) q := ⟨rfl, rfl, rfl, Nat.le_refl _, fun _ _ _ => rfl⟩
theorem rd_drewN {w : World} {q : Nat} {L : ByteArray} {i : Nat} (h : Rd w q L i) (n : Nat) : Rd (w.drewN n) q L i := h

/-- What a reader gives up with. -/
def gave : List PanicEntry := [{ v := .iface 129 (.agg #[]), recovered := false }]
/-- Does a byte come next? -/
def tk (L : ByteArray) (i c : Nat) : Bool := decide (i < L.size) && decide (by8 L i = c)
/-- Where the reader is then. -/
def nx (L : ByteArray) (i c : Nat) : Nat := if tk L i c = true then i + 1 else i
theorem nx_yes {L : ByteArray} {i c : Nat} (h : tk L i c = true) : nx L i c = i + 1 := by unfold nx; rw [if_pos h]
theorem nx_no {L : ByteArray} {i c : Nat} (h : tk L i c = false) : nx L i c = i := by unfold nx; rw [h]; rfl
theorem tk_lt {L : ByteArray} {i c : Nat} (h : tk L i c = true) : i < L.size := by
  unfold tk at h
  simp at h
  exact h.1

set_option maxHeartbeats 1600000 in
theorem takes_any (q : Nat) (L : ByteArray) (i c : Nat) (w : World) (hi : i ≤ L.size) (hL : L.size ≤ 2000) (h : Rd w q L i) :
    Calls Tryz.prog 73 #[.pointer (some ⟨q, 0, none⟩), .int .u8 c] w fun e w' => e = .returned (.bool (tk L i c)) ∧ Rd w' q L (nx L i c) ∧ w.grownBy w' (some q) := by
  obtain ⟨p0, p1, f0, f1⟩ := rd_cells h
  have HR := hide h
  clear h
  have hi0 : (0 : Int) ≤ (i : Int) := by omega
  by_cases hlt : i < L.size
  · have hlt' : (i : Int) < (L.size : Int) := by omega
    have g1 : decide ((i : Int) = (L.size : Int)) = false := by simp; omega
    have g1' : ((i : Int) == (L.size : Int)) = false := by simp; omega
    have e8 : by8 L i = (L[i]'hlt).toNat := by unfold by8; rw [dif_pos hlt]
    have HE := hide e8
    have hb : (L[i]'hlt).toNat < 256 := (L[i]'hlt).toNat_lt
    by_cases hcc : by8 L i = c
    · have HT := hide (show tk L i c = true by unfold tk; simp [hlt, hcc])
      have z : (((L[i]'hlt).toNat : Int) == (c : Int)) = true := by simp; omega
      have z2 : decide (((L[i]'hlt).toNat : Int) = (c : Int)) = true := by simp; omega
      have z3 : (((L[i]'hlt).toNat : Int) != (c : Int)) = false := by simp; omega
      clear hcc e8
      go_enter Tryz.func73, Tryz.ntmps73
      go_wp2
      go_quiet (fail)
      go_wp2
      go_ret
      rw [nx_yes HT.out]
      refine ⟨by rw [HT.out]; rfl, ?_, ?_⟩
      · exact rd_set (rd_drewN HR.out _) (i + 1)
      · exact gb_trans (gb_drewN _ _ _) (gb_set _ _ _ _)
    · have HT := hide (show tk L i c = false by unfold tk; simp [hcc])
      have z : (((L[i]'hlt).toNat : Int) == (c : Int)) = false := by simp; omega
      have z2 : decide (((L[i]'hlt).toNat : Int) = (c : Int)) = false := by simp; omega
      have z3 : (((L[i]'hlt).toNat : Int) != (c : Int)) = true := by simp; omega
      clear hcc e8
      go_enter Tryz.func73, Tryz.ntmps73
      go_wp2
      go_quiet (fail)
      go_wp2
      go_ret
      rw [nx_no HT.out]
      exact ⟨by rw [HT.out]; rfl, rd_drewN HR.out _, gb_drewN _ _ _⟩
  · have e : i = L.size := by omega
    subst e
    have HT := hide (show tk L L.size c = false by unfold tk; simp)
    go_enter Tryz.func73, Tryz.ntmps73
    go_wp2
    go_quiet (fail)
    go_wp2
    go_ret
    rw [nx_no HT.out]
    exact ⟨by rw [HT.out]; rfl, rd_drewN HR.out _, gb_drewN _ _ _⟩

/-- What must come next comes. -/
theorem need_yes (q : Nat) (L : ByteArray) (i c : Nat) (w : World) (hi : i ≤ L.size) (hL : L.size ≤ 2000) (h : Rd w q L i) (ht : tk L i c = true) :
    Calls Tryz.prog 74 #[.pointer (some ⟨q, 0, none⟩), .int .u8 c] w fun e w' => e = .returned (.tuple #[]) ∧ Rd w' q L (i + 1) ∧ w.grownBy w' (some q) := by
  have HR := hide h
  have HT := hide ht
  clear h ht
  go_enter Tryz.func74, Tryz.ntmps74
  go_wp2_with fail
  refine (takes_any q L i c w hi hL HR.out).mono ?_
  rintro e w1 ⟨rfl, h1, h2⟩
  rw [nx_yes HT.out] at h1
  rw [HT.out]
  have H1 := hide h1
  have H2 := hide h2
  clear h1 h2
  go_wp2
  first | go_end0 | refine bodyPost_ret (results_none rfl _ _ _) rfl ?_
  exact ⟨rfl, H1.out, H2.out⟩
theorem need_no (q : Nat) (L : ByteArray) (i c : Nat) (w : World) (hi : i ≤ L.size) (hL : L.size ≤ 2000) (h : Rd w q L i) (ht : tk L i c = false) :
    Calls Tryz.prog 74 #[.pointer (some ⟨q, 0, none⟩), .int .u8 c] w fun e w' => e = .panicked gave ∧ w.grownBy w' (some q) := by
  have HR := hide h
  have HT := hide ht
  clear h ht
  go_enter Tryz.func74, Tryz.ntmps74
  go_wp2_with fail
  refine (takes_any q L i c w hi hL HR.out).mono ?_
  rintro e w1 ⟨rfl, h1, h2⟩
  rw [HT.out]
  have H2 := hide h2
  clear h1 h2
  go_wp2
  exact ⟨rfl, rfl, H2.out⟩
end Go.Proofs.YtccaknabpnpjaaaGreatDoor.A
