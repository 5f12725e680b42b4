/- The lists of a machine of expressions, and where its sets go, are there; the machine of one small grammar. -/
import Derived.Test.YtccaknabpnpjaaaDoorPk20
import Derived.Test.YtccaknabpnpjaaaDoorPk10
import Derived.Test.YtccaknabpnpjaaaDoorPk1
import Derived.WalkLawsBesides
import Derived.Laws.AppendOwn
import Derived.Test.YtccaknabpnpjaaaDoorPk16
namespace Go.Proofs.YtccaknabpnpjaaaDoor.A
open Go.RowKit

theorem lists_is {n : Nat} {l : List (Ex n)} (h : ∀ x ∈ l, full n x ∧ shapesE n x = true) (N : Nat) : Is (FrA l) (SpA l) N ((List.range N).map (layA l 1 mc0).fr) ((List.range N).map (layA l 1 mc0).st) ((List.range N).map (layA l 1 mc0).to) := by
  have at_ : ∀ {α : Type} (f : Nat → α) (i : Nat) (x : α), ((List.range N).map f)[i]? = some x → i < N ∧ f i = x := fun f i x hx => by
    have hi : i < N := by have := (List.getElem?_eq_some_iff.1 hx).1; simpa using this
    rw [List.getElem?_map, List.getElem?_range hi, Option.map_some] at hx
    exact ⟨hi, Option.some.inj hx⟩
  have hri : Rising (layA l 1 mc0) := layA_rising l 1 mc0 (fun i => by simp [mc0])
  refine ⟨by simp, by simp, by simp, fun i m hm => ?_, fun i m hm z => ?_, fun i s t hs ht => ?_⟩
  · rw [← (at_ _ i m hm).2]; exact hri i
  · rw [← (at_ _ i m hm).2]; exact build_fr h i z
  · rw [← (at_ _ i s hs).2, ← (at_ _ i t ht).2]
    rcases layA_sets l 1 mc0 h i with ⟨u, j, hp, e1, e2⟩ | ⟨hn, e1, e2⟩
    · rw [e1, e2]; exact .inl ⟨j, hp, rfl⟩
    · rw [e1, e2]; exact .inr ⟨fun u j hp => hn ⟨u, j, hp⟩, rfl, rfl⟩
theorem rules_are {n : Nat} (l : List (Ex n)) (k N : Nat) : ∃ rs : List Int, rs.length = N ∧ RsI l k rs := by
  have key : ∀ i : Nat, ∃ r : Int, (∃ (m : Nat) (p : Nat × Ex n), m < k ∧ (layE 1 l)[m]? = some p ∧ i = en p ∧ r = (m : Int)) ∨ ((∀ (m : Nat) (p : Nat × Ex n), m < k → (layE 1 l)[m]? = some p → i ≠ en p) ∧ r = -1) := fun i => by
    by_cases h : ∃ (m : Nat) (p : Nat × Ex n), m < k ∧ (layE 1 l)[m]? = some p ∧ i = en p
    · obtain ⟨m, p, h1, h2, h3⟩ := h
      exact ⟨m, .inl ⟨m, p, h1, h2, h3, rfl⟩⟩
    · exact ⟨-1, .inr ⟨fun m p h1 h2 h3 => h ⟨m, p, h1, h2, h3⟩, rfl⟩⟩
  refine ⟨(List.range N).map fun i => Classical.choose (key i), by simp, fun i r hr => ?_⟩
  have hi : i < N := by have := (List.getElem?_eq_some_iff.1 hr).1; simpa using this
  rw [List.getElem?_map, List.getElem?_range hi, Option.map_some] at hr
  rw [← Option.some.inj hr]
  exact Classical.choose_spec (key i)
theorem close_is (fs : List (List Int)) (N : Nat) (o : Nat → Bool) : ∃ g, IsCl fs N o g :=
  ⟨fun j => @decide (Rch fs N o j) (Classical.propDecidable _), fun j _ => by simp⟩
theorem tr_is (fs : List (List Int)) (ss : List Nat) (ts : List Int) (N : Nat) : ∃ tr, TrS fs ss ts N tr := by
  refine ⟨fun s c => lstL (Classical.choose (close_is fs N (stpB ss ts (c : Int) (tblB s s.length) N))) N, fun g c hc => ?_⟩
  refine ⟨_, isCl_congr (fun j hj => ?_) (Classical.choose_spec (close_is fs N (stpB ss ts (c : Int) (tblB (lstL g N) (lstL g N).length) N))), rfl⟩
  exact stp_congr (fun i hi => tbl_lst g N i hi) j

/-- Where two tell the same of all sets that come up, all is the same. -/
theorem rowF_congr {tr tr' : List Int → Nat → List Int} {s : List Int} {S : List (List Int)} (h : ∀ c, c < 16 → tr s c = tr' s c) : ∀ k, k ≤ 16 → rowF tr s S k = rowF tr' s S k
  | 0, _ => rfl
  | k + 1, hk => by
    show ((findF (rowF tr s S k).1 (tr s k)).1, (rowF tr s S k).2 ++ [(findF (rowF tr s S k).1 (tr s k)).2]) = _
    rw [rowF_congr h k (by omega), h k (by omega)]; rfl
theorem stF_congr {tr tr' : List Int → Nat → List Int} {ls ls' : List Int → Int} {start : List Int} (P : List Int → Prop) (h0 : P start) (ht : ∀ s, P s → ∀ c, c < 16 → tr s c = tr' s c ∧ (tr' s c ≠ [] → P (tr' s c))) (hl : ∀ s, P s → ls s = ls' s) : ∀ k, stF tr ls start k = stF tr' ls' start k
  | 0 => rfl
  | k + 1 => by
    have ih := stF_congr P h0 ht hl k
    have hall := st_all (tr := tr') (ls := ls') (start := start) (P := P) h0 (fun s hs c hc => (ht s hs c hc).2) k
    cases e : (stF tr' ls' start k).1[k]? with
    | none => rw [st_none (by rw [ih]; exact e), st_none e, ih]
    | some s =>
      have hs := hall s (List.mem_of_getElem? e)
      rw [st_some (by rw [ih]; exact e), st_some e, ih, rowF_congr (fun c hc => (ht s hs c hc).1) 16 (by omega), hl s hs]

/-- Marks, told by a list of what is come to, one by one. -/
def ordB (fs : List (List Int)) (o : Nat → Bool) : List Nat → List Nat → Bool
  | _, [] => true
  | seen, j :: r => (o j || seen.any fun i => (fs.getD i []).contains (j : Int)) && ordB fs o (j :: seen) r
def chkB (fs : List (List Int)) (N : Nat) (o : Nat → Bool) (ord : List Nat) : Bool :=
  ordB fs o [] ord && (ord.all fun j => decide (j < N)) && ((List.range N).all fun j => !o j || ord.contains j) && (ord.all fun i => (fs.getD i []).all fun z => decide (0 ≤ z) && ord.contains z.toNat)
theorem ord_rch {fs : List (List Int)} {N : Nat} {o : Nat → Bool} : ∀ (ord seen : List Nat), (∀ j ∈ ord, j < N) → (∀ j ∈ seen, Rch fs N o j) → ordB fs o seen ord = true → ∀ j ∈ ord, Rch fs N o j
  | [], _, _, _, _, j, hj => by cases hj
  | x :: r, seen, hN, hs, h, j, hj => by
    unfold ordB at h
    rw [Bool.and_eq_true, Bool.or_eq_true] at h
    have hx : Rch fs N o x := by
      rcases h.1 with h1 | h1
      · exact .here (hN x (by simp)) h1
      · rw [List.any_eq_true] at h1
        obtain ⟨i, hi, h2⟩ := h1
        cases e : fs[i]? with
        | none => rw [List.getD_eq_getElem?_getD, e] at h2; simp at h2
        | some l =>
          rw [List.getD_eq_getElem?_getD, e, Option.getD_some] at h2
          exact .on (hs i hi) e (by simpa using h2)
    rcases List.mem_cons.1 hj with rfl | hj
    · exact hx
    · exact ord_rch r (x :: seen) (fun y hy => hN y (by simp [hy])) (fun y hy => by
        rcases List.mem_cons.1 hy with rfl | hy
        · exact hx
        · exact hs y hy) h.2 j hj
theorem chk_is {fs : List (List Int)} {N : Nat} {o : Nat → Bool} {ord : List Nat} (h : chkB fs N o ord = true) : IsCl fs N o (fun j => ord.contains j) := by
  unfold chkB at h
  simp only [Bool.and_eq_true, List.all_eq_true, decide_eq_true_eq, List.mem_range] at h
  obtain ⟨⟨⟨h1, h2⟩, h3⟩, h4⟩ := h
  have key : ∀ j, Rch fs N o j → ord.contains j = true := fun j r => by
    induction r with
    | here hn ho =>
      have := h3 _ hn
      rw [ho] at this; simpa using this
    | @on i j l _ hl hj ih =>
      have := h4 i (by simpa using ih) (j : Int) (by rw [List.getD_eq_getElem?_getD, hl]; exact hj)
      have e : ((j : Int)).toNat = j := by omega
      rw [e] at this; exact this.2
  exact fun j hj => ⟨fun e => ord_rch ord [] h2 (fun _ h => by cases h) h1 j (by simpa using e), key j⟩
end Go.Proofs.YtccaknabpnpjaaaDoor.A

/- The reader of a line: its block, what it takes, needs. -/
namespace Go.Proofs.YtccaknabpnpjaaaDoor.A
open Go.RowKit
set_option linter.unusedVariables false

/-- A byte of a text; 0 behind its end. -/
def by8 (L : ByteArray) (i : Nat) : Nat := if h : i < L.size then (L[i]'h).toNat else 0
theorem by8_lt (L : ByteArray) (i : Nat) : by8 L i < 256 := by
  unfold by8
  split
  · exact (L[i]'_).toNat_lt
  · omega
/-- The reader's block. -/
def Rd (w : World) (q : Nat) (L : ByteArray) (i : Nat) : Prop := w.heap[q]? = some (.cells #[.string L, .int .i64 i] 71 (0, 0))
theorem rd_cells {w : World} {q : Nat} {L : ByteArray} {i : Nat} (h : Rd w q L i) : w.cell? ⟨q, 0, none⟩ = some (.string L) ∧ w.cell? ⟨q, 1, none⟩ = some (.int .i64 i) ∧ w.frozen? ⟨q, 0, none⟩ = false ∧ w.frozen? ⟨q, 1, none⟩ = false := by
  unfold Rd at h
  refine ⟨?_, ?_, ?_, ?_⟩ <;> simp [World.cell?, World.frozen?, h]
theorem rd_lt {w : World} {q : Nat} {L : ByteArray} {i : Nat} (h : Rd w q L i) : q < w.heap.size := (Array.getElem?_eq_some_iff.1 h).1
theorem rd_set {w : World} {q : Nat} {L : ByteArray} {i : Nat} (h : Rd w q L i) (j : Nat) : Rd (w.setCell ⟨q, 1, none⟩ (.int .i64 j)) q L j := by
  unfold Rd at h ⊢
  rw [setCell_eq_setRow _ _ _ _ _ _ _ h, setRow_heap _ _ _ _ _ _ h]
  rfl
theorem rd_below {w w' : World} {q B : Nat} {L : ByteArray} {i : Nat} (h : Rd w q L i) (hb : Below B w w') (hq : q < B) : Rd w' q L i := (hb.block q hq).trans h
/-- All but the reader's block stays. -/
theorem gb_refl (w : World) (q : Option Nat) : w.grownBy w q := ⟨rfl, rfl, rfl, Nat.le_refl _, fun _ _ _ => rfl⟩
theorem gb_trans {a b c : World} {q : Option Nat} (h : a.grownBy b q) (k : b.grownBy c q) : a.grownBy c q :=
  ⟨k.os.trans h.os, k.tape.trans h.tape, k.output.trans h.output, Nat.le_trans h.size k.size, fun j hj hq => (k.block j (Nat.lt_of_lt_of_le hj h.size) hq).trans (h.block j hj hq)⟩
theorem gb_below {a b : World} {q : Option Nat} (h : Below a.heap.size a b) : a.grownBy b q := ⟨h.os, h.tape, h.output, h.size, fun j hj _ => h.block j hj⟩
theorem gb_set (w : World) (q : Nat) (j : Nat) (v : Value) : w.grownBy (w.setCell ⟨q, j, none⟩ v) (some q) :=
  ⟨rfl, rfl, rfl, by simp, fun k _ hk => Below.heap_setCell _ _ _ _ (by intro e; exact hk (by rw [e]))⟩
theorem gb_drewN (w : World) (q : Option Nat) (n : Nat) : w.grownBy (w.drewN n) q := ⟨rfl, rfl, rfl, Nat.le_refl _, fun _ _ _ => rfl⟩
theorem rd_drewN {w : World} {q : Nat} {L : ByteArray} {i : Nat} (h : Rd w q L i) (n : Nat) : Rd (w.drewN n) q L i := h

/-- What a reader gives up with. -/
def gave : List PanicEntry := [{ v := .iface 96 (.agg #[]), recovered := false }]
/-- Does a byte come next? -/
def tk (L : ByteArray) (i c : Nat) : Bool := decide (i < L.size) && decide (by8 L i = c)
/-- Where the reader is then. -/
def nx (L : ByteArray) (i c : Nat) : Nat := if tk L i c = true then i + 1 else i
theorem nx_yes {L : ByteArray} {i c : Nat} (h : tk L i c = true) : nx L i c = i + 1 := by unfold nx; rw [if_pos h]
theorem nx_no {L : ByteArray} {i c : Nat} (h : tk L i c = false) : nx L i c = i := by unfold nx; rw [h]; rfl
theorem tk_lt {L : ByteArray} {i c : Nat} (h : tk L i c = true) : i < L.size := by
  unfold tk at h
  simp at h
  exact h.1

set_option maxHeartbeats 1600000 in
theorem takes_any (q : Nat) (L : ByteArray) (i c : Nat) (w : World) (hi : i ≤ L.size) (hL : L.size ≤ 2000) (h : Rd w q L i) :
    Calls Tryd.prog 48 #[.pointer (some ⟨q, 0, none⟩), .int .u8 c] w fun e w' => e = .returned (.bool (tk L i c)) ∧ Rd w' q L (nx L i c) ∧ w.grownBy w' (some q) := by
  obtain ⟨p0, p1, f0, f1⟩ := rd_cells h
  have HR := hide h
  clear h
  have hi0 : (0 : Int) ≤ (i : Int) := by omega
  by_cases hlt : i < L.size
  · have hlt' : (i : Int) < (L.size : Int) := by omega
    have g1 : decide ((i : Int) = (L.size : Int)) = false := by simp; omega
    have g1' : ((i : Int) == (L.size : Int)) = false := by simp; omega
    have e8 : by8 L i = (L[i]'hlt).toNat := by unfold by8; rw [dif_pos hlt]
    have HE := hide e8
    have hb : (L[i]'hlt).toNat < 256 := (L[i]'hlt).toNat_lt
    by_cases hcc : by8 L i = c
    · have HT := hide (show tk L i c = true by unfold tk; simp [hlt, hcc])
      have z : (((L[i]'hlt).toNat : Int) == (c : Int)) = true := by simp; omega
      have z2 : decide (((L[i]'hlt).toNat : Int) = (c : Int)) = true := by simp; omega
      have z3 : (((L[i]'hlt).toNat : Int) != (c : Int)) = false := by simp; omega
      clear hcc e8
      go_enter Tryd.func48, Tryd.ntmps48
      go_wp2
      go_quiet (fail)
      go_wp2
      go_ret
      rw [nx_yes HT.out]
      refine ⟨by rw [HT.out]; rfl, ?_, ?_⟩
      · exact rd_set (rd_drewN HR.out _) (i + 1)
      · exact gb_trans (gb_drewN _ _ _) (gb_set _ _ _ _)
    · have HT := hide (show tk L i c = false by unfold tk; simp [hcc])
      have z : (((L[i]'hlt).toNat : Int) == (c : Int)) = false := by simp; omega
      have z2 : decide (((L[i]'hlt).toNat : Int) = (c : Int)) = false := by simp; omega
      have z3 : (((L[i]'hlt).toNat : Int) != (c : Int)) = true := by simp; omega
      clear hcc e8
      go_enter Tryd.func48, Tryd.ntmps48
      go_wp2
      go_quiet (fail)
      go_wp2
      go_ret
      rw [nx_no HT.out]
      exact ⟨by rw [HT.out]; rfl, rd_drewN HR.out _, gb_drewN _ _ _⟩
  · have e : i = L.size := by omega
    subst e
    have HT := hide (show tk L L.size c = false by unfold tk; simp)
    go_enter Tryd.func48, Tryd.ntmps48
    go_wp2
    go_quiet (fail)
    go_wp2
    go_ret
    rw [nx_no HT.out]
    exact ⟨by rw [HT.out]; rfl, rd_drewN HR.out _, gb_drewN _ _ _⟩

/-- What must come next comes. -/
theorem need_yes (q : Nat) (L : ByteArray) (i c : Nat) (w : World) (hi : i ≤ L.size) (hL : L.size ≤ 2000) (h : Rd w q L i) (ht : tk L i c = true) :
    Calls Tryd.prog 49 #[.pointer (some ⟨q, 0, none⟩), .int .u8 c] w fun e w' => e = .returned (.tuple #[]) ∧ Rd w' q L (i + 1) ∧ w.grownBy w' (some q) := by
  have HR := hide h
  have HT := hide ht
  clear h ht
  go_enter Tryd.func49, Tryd.ntmps49
  go_wp2_with fail
  refine (takes_any q L i c w hi hL HR.out).mono ?_
  rintro e w1 ⟨rfl, h1, h2⟩
  rw [nx_yes HT.out] at h1
  rw [HT.out]
  have H1 := hide h1
  have H2 := hide h2
  clear h1 h2
  go_wp2
  first | go_end0 | refine bodyPost_ret (results_none rfl _ _ _) rfl ?_
  exact ⟨rfl, H1.out, H2.out⟩
theorem need_no (q : Nat) (L : ByteArray) (i c : Nat) (w : World) (hi : i ≤ L.size) (hL : L.size ≤ 2000) (h : Rd w q L i) (ht : tk L i c = false) :
    Calls Tryd.prog 49 #[.pointer (some ⟨q, 0, none⟩), .int .u8 c] w fun e w' => e = .panicked gave ∧ w.grownBy w' (some q) := by
  have HR := hide h
  have HT := hide ht
  clear h ht
  go_enter Tryd.func49, Tryd.ntmps49
  go_wp2_with fail
  refine (takes_any q L i c w hi hL HR.out).mono ?_
  rintro e w1 ⟨rfl, h1, h2⟩
  rw [HT.out]
  have H2 := hide h2
  clear h1 h2
  go_wp2
  exact ⟨rfl, rfl, H2.out⟩
end Go.Proofs.YtccaknabpnpjaaaDoor.A

/- The reader's letters and sets. -/
namespace Go.Proofs.YtccaknabpnpjaaaDoor.A
open Go.RowKit
set_option linter.unusedVariables false

def lets : List UInt8 := [79, 67, 86, 78, 72, 77, 83, 82, 74, 87, 68, 75, 71, 84, 81, 88]
/-- A byte's category; -1: none. -/
def catB (c : Nat) : Int := Lib.indexByte lets c.toUInt8
/-- The category of the next byte, as a bit. -/
def letF (L : ByteArray) (i : Nat) : Option Nat := if i < L.size then (if catB (by8 L i) < 0 then none else some (2 ^ (catB (by8 L i)).toNat)) else none
theorem index_lt : ∀ (l : List UInt8) (c : UInt8), Lib.indexByte l c < (l.length : Int)
  | [], _ => by simp [Lib.indexByte]
  | b :: l, c => by
    have := index_lt l c
    unfold Lib.indexByte
    split
    · simp only [List.length_cons]; omega
    · split <;> simp only [List.length_cons] <;> omega
theorem catB_le (c : Nat) : -1 ≤ catB c ∧ catB c < 16 := ⟨Lib.indexByte_ge _ _, index_lt lets _⟩

theorem pow_u16 : ∀ k : Nat, k < 16 → IntKind.u16.wrap ((2 : Int) ^ k) = ((2 ^ k : Nat) : Int) := by decide
theorem ret_u16 {a b : Int} (h : a = b) : Ending.returned (.int .u16 a) = .returned (.int .u16 b) := by rw [h]
set_option maxHeartbeats 1600000 in
theorem letter_yes (q : Nat) (L : ByteArray) (i : Nat) (w : World) (hlt : i < L.size) (hL : L.size ≤ 2000) (h : Rd w q L i) (k : Nat) (hk : catB (by8 L i) = k) (hk2 : k < 16) :
    Calls Tryd.prog 92 #[.pointer (some ⟨q, 0, none⟩)] w fun e w' => e = .returned (.int .u16 (2 ^ k : Nat)) ∧ Rd w' q L (i + 1) ∧ w.grownBy w' (some q) := by
  obtain ⟨p0, p1, f0, f1⟩ := rd_cells h
  have HR := hide h
  clear h
  have hi0 : (0 : Int) ≤ (i : Int) := by omega
  have hlt' : (i : Int) < (L.size : Int) := by omega
  have g1 : decide ((i : Int) = (L.size : Int)) = false := by simp; omega
  have g1' : ((i : Int) == (L.size : Int)) = false := by simp; omega
  have e8 : by8 L i = (L[i]'hlt).toNat := by unfold by8; rw [dif_pos hlt]
  have HK := hide (show ∀ u : World, Calls Tryd.prog 99 #[.string { data := #[79, 67, 86, 78, 72, 77, 83, 82, 74, 87, 68, 75, 71, 84, 81, 88] }, .int .u8 ((L[i]'hlt).toNat : Nat)] u fun e w' => e = .returned (.int .i64 (k : Nat)) ∧ w' = u from fun u => by
    refine (Tryd.strings_IndexByte _ _ _).mono ?_
    rintro e w1 ⟨rfl, rfl⟩
    refine ⟨?_, rfl⟩
    rw [← hk, e8]
    rfl)
  clear hk e8
  go_enter Tryd.func92, Tryd.ntmps92
  go_wp2
  go_quiet (fail)
  go_wp2_with fail
  have HR2 := hide (rd_drewN HR.out nq)
  have HG2 := hide (gb_drewN w (some q) nq)
  clear p0 p1 f0 f1
  generalize w.drewN nq = W at *
  obtain ⟨p0, p1, f0, f1⟩ := rd_cells HR2.out
  go_quiet ((go_at_call 99; exact Calls.quiet_of_same (HK.out _)))
  go_wp2
  go_ret
  refine ⟨ret_u16 (pow_u16 k hk2), rd_set (rd_drewN HR2.out _) (i + 1), gb_trans HG2.out (gb_trans (gb_drewN _ _ _) (gb_set _ _ _ _))⟩
set_option maxHeartbeats 1600000 in
theorem letter_no (q : Nat) (L : ByteArray) (i : Nat) (w : World) (hi : i ≤ L.size) (hL : L.size ≤ 2000) (h : Rd w q L i) (hn : letF L i = none) :
    Calls Tryd.prog 92 #[.pointer (some ⟨q, 0, none⟩)] w fun e w' => e = .panicked gave ∧ w.grownBy w' (some q) := by
  obtain ⟨p0, p1, f0, f1⟩ := rd_cells h
  have HR := hide h
  clear h
  have hi0 : (0 : Int) ≤ (i : Int) := by omega
  by_cases hlt : i < L.size
  · have hlt' : (i : Int) < (L.size : Int) := by omega
    have g1 : decide ((i : Int) = (L.size : Int)) = false := by simp; omega
    have g1' : ((i : Int) == (L.size : Int)) = false := by simp; omega
    have e8 : by8 L i = (L[i]'hlt).toNat := by unfold by8; rw [dif_pos hlt]
    have hneg : catB (by8 L i) = -1 := by
      unfold letF at hn
      rw [if_pos hlt] at hn
      have := (catB_le (by8 L i)).1
      by_cases h0 : catB (by8 L i) < 0
      · omega
      · rw [if_neg h0] at hn; cases hn
    have HK := hide (show ∀ u : World, Calls Tryd.prog 99 #[.string { data := #[79, 67, 86, 78, 72, 77, 83, 82, 74, 87, 68, 75, 71, 84, 81, 88] }, .int .u8 ((L[i]'hlt).toNat : Nat)] u fun e w' => e = .returned (.int .i64 (-1)) ∧ w' = u from fun u => by
      refine (Tryd.strings_IndexByte _ _ _).mono ?_
      rintro e w1 ⟨rfl, rfl⟩
      refine ⟨?_, rfl⟩
      rw [← hneg, e8]
      rfl)
    clear hn e8 hneg
    go_enter Tryd.func92, Tryd.ntmps92
    go_wp2
    go_quiet (fail)
    go_wp2_with fail
    have HR2 := hide (rd_drewN HR.out nq)
    have HG2 := hide (gb_drewN w (some q) nq)
    clear p0 p1 f0 f1
    generalize w.drewN nq = W at *
    obtain ⟨p0, p1, f0, f1⟩ := rd_cells HR2.out
    go_quiet ((go_at_call 99; exact Calls.quiet_of_same (HK.out _)))
    go_wp2
    exact ⟨rfl, rfl, gb_trans HG2.out (gb_drewN _ _ _)⟩
  · have e : i = L.size := by omega
    subst e
    clear hn
    go_enter Tryd.func92, Tryd.ntmps92
    go_wp2
    go_quiet (fail)
    go_wp2
    exact ⟨rfl, rfl, gb_drewN _ _ _⟩

theorem letF_some {L : ByteArray} {i m : Nat} (h : letF L i = some m) : i < L.size ∧ ∃ k : Nat, k < 16 ∧ catB (by8 L i) = k ∧ m = 2 ^ k := by
  unfold letF at h
  by_cases hlt : i < L.size
  · rw [if_pos hlt] at h
    by_cases h0 : catB (by8 L i) < 0
    · rw [if_pos h0] at h; cases h
    · rw [if_neg h0] at h
      have := (catB_le (by8 L i)).2
      exact ⟨hlt, (catB (by8 L i)).toNat, by omega, by omega, (Option.some.inj h).symm⟩
  · rw [if_neg hlt] at h; cases h
theorem two_lt : ∀ k : Nat, k < 16 → 2 ^ k < 65536 := by decide
theorem letF_lt {L : ByteArray} {i m : Nat} (h : letF L i = some m) : m < 65536 := by
  obtain ⟨_, k, hk, _, rfl⟩ := letF_some h
  exact two_lt k hk

/-- The letters up to a closing bracket. -/
def setL (L : ByteArray) : Nat → Nat → Nat → Option (Nat × Nat)
  | 0, _, _ => none
  | f + 1, s, i => if tk L i 93 = true then some (s, i + 1) else match letF L i with
    | none => none
    | some m => if s &&& m = 0 then setL L f (s ||| m) (i + 1) else none
def setF (L : ByteArray) (i : Nat) : Option (Nat × Nat) := match letF L i with
  | none => none
  | some m => setL L (L.size + 1) m (i + 1)
/-- What a call that tells a set answers. -/
def OutS (w : World) (q : Nat) (L : ByteArray) (R : Option (Nat × Nat)) (e : Ending) (w' : World) : Prop := match R with
  | none => e = .panicked gave ∧ w.grownBy w' (some q)
  | some (s, j) => e = .returned (.int .u16 s) ∧ s < 65536 ∧ j ≤ L.size ∧ Rd w' q L j ∧ w.grownBy w' (some q)
/-- Where a reader is. -/
def posOf (w : World) (q : Nat) : Nat := match w.cell? ⟨q, 1, none⟩ with
  | some (.int _ z) => z.toNat
  | _ => 0
theorem pos_rd {w : World} {q : Nat} {L : ByteArray} {i : Nat} (h : Rd w q L i) : posOf w q = i := by
  unfold posOf
  rw [(rd_cells h).2.1]
  simp
end Go.Proofs.YtccaknabpnpjaaaDoor.A
