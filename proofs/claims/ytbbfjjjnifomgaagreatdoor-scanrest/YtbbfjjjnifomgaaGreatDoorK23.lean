/- Parse: lines, and a list of rules that is being made. -/
import Derived.Lib.SplitLaws
import Derived.WalkKit
import Derived.ProofKit
import Derived.Outline
import Derived.BigQuiet
import Derived.Deep.QuietTactic
import Derived.Below
import Derived.WalkLawsBesides
import Derived.Laws.AppendOwn
import Derived.Shelf.Small.Strs
import Derived.Shelf.Strconv.Itoa0
import Derived.Shelf.Strconv.Itoa1
import Derived.Shelf.LaysM
import Derived.Shelf.Strconv.Itoa2
import Derived.Shelf.Strconv.Clone
import Derived.Shelf.Strings.Search1
import Derived.Shelf.Strings.Search2
import Derived.Shelf.Strings.Search3
import Derived.Shelf.Strings.Count
import Derived.Shelf.Strings.Shaped
import Derived.Shelf.Strconv.AppendUint10
import Derived.Shelf.Strconv.AppendInt10
import Derived.Shelf.Strconv.AppendIntPublic10
import Derived.Shelf.Strings.Split
import Derived.Shelf.Strings.SplitShaped
import Derived.Shelf.Bits.Mul64
import Derived.Shelf.Unicode.DecodeSlow
import Derived.Ground.Names2Prog
import Derived.Shelf.Slices.Clone
import Derived.Ground.SlgnProg
import Derived.Shelf.SlicesE.Clone
import Derived.Deep.RegionHeld3
import Derived.OpenShut
import Derived.Deep.Slices
import Derived.Deep.Strs
import Derived.Deep.OwnRows
import Derived.Deep.WholeRow
import Derived.Deep.Heap
import Derived.Laws.OwnMore
import Derived.Deep.AppendLies
import Derived.Deep.RegionLaw
import Derived.OwnWalk
import Derived.Defers
import Derived.Recover
import Derived.Deep.AppendSrc
import Derived.Laws.AppendOwnNone
import Derived.Test.YtbbfjjjnifomgaaGreatDoorK1
import Derived.Test.YtbbfjjjnifomgaaGreatDoorK8
import Derived.Test.YtbbfjjjnifomgaaGreatDoorK11
import Derived.Test.YtbbfjjjnifomgaaGreatDoorK13
import Derived.Test.YtbbfjjjnifomgaaGreatDoorK19
import Derived.Test.YtbbfjjjnifomgaaGreatDoorK20
import Derived.Test.YtbbfjjjnifomgaaGreatDoorK22
import Derived.Test.YtbbfjjjnifomgaaGreatDoorK18
import Derived.Test.YtbbfjjjnifomgaaGreatDoorK21
import Derived.Test.YtbbfjjjnifomgaaGreatDoorK10
import Derived.Laws.IdiomStrings
import Derived.Laws.BytesArg
import Derived.Test.YtbbfjjjnifomgaaGreatDoorK4
import Derived.Test.YtbbfjjjnifomgaaGreatDoorK6
namespace Go.Proofs.YtbbfjjjnifomgaaGreatDoor.A
open Go.RowKit
set_option linter.unusedVariables false

def cellsP (p : Rl × Nd) : List Value := [.string p.1.nm, .int .u8 p.2.k, .int .u16 p.2.s, .slice p.2.a p.2.l p.2.c, .bool p.1.br]
def cellsQ : List (Rl × Nd) → List Value | [] => [] | p :: l => cellsP p ++ cellsQ l
theorem cellsQ_app (a b : List (Rl × Nd)) : cellsQ (a ++ b) = cellsQ a ++ cellsQ b := by
  induction a with
  | nil => rfl
  | cons r a ih => simp [cellsQ, ih]
theorem cellsQ_one (p : Rl × Nd) : cellsQ [p] = cellsP p := by simp [cellsQ]
theorem cellsQ_at : ∀ (l : List (Rl × Nd)) (i : Nat) (p : Rl × Nd), l[i]? = some p → ∀ j, j < 5 → (cellsQ l)[i * 5 + j]? = (cellsP p)[j]?
  | [], i, p, h, _, _ => by simp at h
  | r :: l, 0, p, h, j, hj => by
    simp at h
    subst h
    show (cellsP r ++ cellsQ l)[0 * 5 + j]? = _
    rw [List.getElem?_append_left (by simp [cellsP]; omega)]
    congr 1
    omega
  | r :: l, i + 1, p, h, j, hj => by
    have ih := cellsQ_at l i p (by simpa using h) j hj
    show (cellsP r ++ cellsQ l)[(i + 1) * 5 + j]? = _
    rw [List.getElem?_append_right (by simp [cellsP]; omega), ← ih]
    congr 1
    simp [cellsP]
    omega
theorem cellsP_one' (p : Rl × Nd) : ∀ u ∈ cellsP p, u.oneCell' = true := by
  intro u h
  simp only [cellsP, List.mem_cons, List.not_mem_nil, or_false] at h
  rcases h with rfl | rfl | rfl | rfl | rfl <;> rfl
/-- A list of rules that is being made. -/
def Mkr (base : Nat) (w : World) (ps : List (Rl × Nd)) (v : Value) : Prop :=
  w.ownsRow base 57 5 v ps.length (cellsQ ps) ∧ ∀ p ∈ ps, p.1.nm.size ≤ 2000 ∧ ∃ S, Tr w p.1.n p.1.t p.2 S ∧ ∀ b ∈ S, base ≤ b ∧ b < w.heap.size ∧ v.ownBlock ≠ some b
theorem mkr_nil (base : Nat) (w : World) : Mkr base w [] (.slice none 0 0) := ⟨World.ownsRow_nil _ _ _ _, fun p h => by cases h⟩
theorem own_kept {base n size : Nat} {w w' : World} {e : TypeId} {v : Value} {xs : List Value} (h1 : w.ownsRow base e size v n xs) (hk : Keep base w w') : w'.ownsRow base e size v n xs := by
  have hlt := h1.lt
  refine ⟨h1.1, ?_⟩
  rcases h1.2 with h0 | ⟨g, cap, cur, hv, hg, hcur, q1, q2, q3, q4⟩
  · exact .inl h0
  · exact .inr ⟨g, cap, cur, hv, hg, (hk.2 g hg (hlt g (by rw [hv]; rfl)).2).trans hcur, q1, q2, q3, q4⟩
theorem mkr_kept {base : Nat} {w w' : World} {ps : List (Rl × Nd)} {v : Value} (h : Mkr base w ps v) (hk : Keep base w w') : Mkr base w' ps v := by
  refine ⟨own_kept h.1 hk, fun p hp => ?_⟩
  obtain ⟨h2, S, hT, hS⟩ := h.2 p hp
  exact ⟨h2, S, tr_keep _ _ _ _ (fun b hb => hk.2 b (hS b hb).1 (hS b hb).2.1) hT, fun b hb => ⟨(hS b hb).1, Nat.lt_of_lt_of_le (hS b hb).2.1 hk.1, (hS b hb).2.2⟩⟩
theorem mkr_app {base : Nat} {w w3 : World} {ps : List (Rl × Nd)} {v : Value} (h : Mkr base w ps v) {x : Rl} {y : Nd} {S : List Nat} (hn : x.nm.size ≤ 2000) (hT : Tr w x.n x.t y S) (hS : ∀ b ∈ S, base ≤ b ∧ v.ownBlock ≠ some b) {g cap : Nat}
    (hown : w3.ownsRow base 57 5 (.slice (some ⟨g, 0, none⟩) (ps.length + 1) cap) (ps.length + 1) (cellsQ ps ++ cellsP (x, y))) (hgrow : w.grownBy w3 v.ownBlock) (hat : v.ownBlock = some g ∨ g = w.heap.size) :
    Mkr base w3 (ps ++ [(x, y)]) (.slice (some ⟨g, 0, none⟩) (ps.length + 1) cap) := by
  refine ⟨by rw [cellsQ_app, cellsQ_one, List.length_append]; exact hown, ?_⟩
  have hnew : ∀ (n : Nat) (t : Ex n) (y : Nd) (S : List Nat), Tr w n t y S → (∀ b ∈ S, base ≤ b ∧ v.ownBlock ≠ some b) → Tr w3 n t y S ∧ ∀ b ∈ S, base ≤ b ∧ b < w3.heap.size ∧ (Value.slice (some ⟨g, 0, none⟩) (ps.length + 1) cap).ownBlock ≠ some b := by
    intro n t y S hT hS
    have hlt := tr_lt n t y S hT
    refine ⟨tr_keep n t y S (fun b hb => hgrow.block b (hlt b hb) (fun e => (hS b hb).2 e.symm)) hT, fun b hb => ⟨(hS b hb).1, Nat.lt_of_lt_of_le (hlt b hb) hgrow.size, fun e => ?_⟩⟩
    have e' : g = b := by simpa [Value.ownBlock] using e
    subst e'
    rcases hat with hat | hat
    · exact (hS g hb).2 hat
    · have := hlt g hb; omega
  intro p hp
  rcases List.mem_append.1 hp with hp | hp
  · obtain ⟨h2, S', hT', hS'⟩ := h.2 p hp
    obtain ⟨a1, a2⟩ := hnew _ _ _ _ hT' (fun b hb => ⟨(hS' b hb).1, (hS' b hb).2.2⟩)
    exact ⟨h2, S', a1, a2⟩
  · have e : p = (x, y) := by simpa using hp
    subst e
    obtain ⟨a1, a2⟩ := hnew _ _ _ _ hT hS
    exact ⟨hn, S, a1, a2⟩
theorem mkr_rs {base : Nat} {w : World} {ps : List (Rl × Nd)} {v : Value} (h : Mkr base w ps v) : ∃ a cap, v = .slice a ps.length cap ∧ ps.length ≤ cap ∧ cap ≤ maxLen ∧ Rs w a ps.length (ps.map (·.1)) := by
  rcases h.1.2 with ⟨rfl, h0⟩ | ⟨g, cap, cur, rfl, hg, hcur, q1, q2, q3, q4⟩
  · rw [h0]
    exact ⟨none, 0, rfl, Nat.le_refl _, by unfold maxLen; omega, by simpa using h0, .inl rfl⟩
  · refine ⟨_, cap, rfl, q1, q2, by simp, ?_⟩
    by_cases hz : ps.length = 0
    · exact .inl hz
    · refine .inr ⟨g, 0, rfl, fun i x hx => ?_⟩
      rw [List.getElem?_map] at hx
      obtain ⟨p, hp, rfl⟩ := Option.map_eq_some_iff.1 hx
      have hi : i < ps.length := (List.getElem?_eq_some_iff.1 hp).1
      have hc : ∀ j, j < 5 → ∀ u, (cellsP p)[j]? = some u → w.cell? ⟨g, 0 + i * 5 + j, none⟩ = some u := fun j hj u hu => by
        rw [← cellsQ_at ps i p hp j hj, ← q4] at hu
        rw [cell_of_row w g (0 + i * 5 + j) cur 57 (0, 0) hcur]
        rw [List.getElem?_take_of_lt (by omega)] at hu
        rw [← hu]
        simp
      obtain ⟨h2, S, hT, hS⟩ := h.2 p (List.mem_of_getElem? hp)
      exact ⟨p.2.k, p.2.s, p.2.a, p.2.l, p.2.c, hc 0 (by omega) _ rfl, hc 1 (by omega) _ rfl, hc 2 (by omega) _ rfl, hc 3 (by omega) _ rfl, hc 4 (by omega) _ rfl, by unfold maxLen; omega, tr_rx _ _ _ _ hT⟩

/-- The rules of lines; the line of a fault. -/
def readL : List Rl → Nat → List ByteArray → Option (List Rl) × Nat
  | acc, _, [] => (some acc, 0)
  | acc, i, L :: r => match ruleF L with
    | none => (none, i + 1)
    | some x => if umayB acc x = true then readL (acc ++ [x]) (i + 1) r else (none, i + 1)
theorem split_le (sep : ByteArray) : ∀ (k : Nat) (s : ByteArray), ∀ x ∈ Lib.splitB sep 0 k s, x.size ≤ s.size
  | 0, s, x, h => by
    have e : x = s := by simpa [Lib.splitB] using h
    rw [e]
    exact Nat.le_refl _
  | k + 1, s, x, h => by
    unfold Lib.splitB at h
    split at h
    · have e : x = s := by simpa using h
      rw [e]
      exact Nat.le_refl _
    · rcases List.mem_cons.1 h with rfl | h
      · simp; omega
      · have := split_le sep k _ x h
        simp at this
        omega
def nlB : ByteArray := { data := #[10] }
def linesB (s : ByteArray) : List ByteArray := Lib.splitB nlB 0 (Lib.countB s nlB) s
theorem lines_len (s : ByteArray) : (linesB s).length = Lib.countB s nlB + 1 := Lib.splitB_all nlB (by decide) 0 _ s rfl
theorem count_nl (s : ByteArray) : Lib.countByte s.data.toList 10 = Lib.countB s nlB := (Lib.count_one 10 s.data.toList).symm
/-- What Parse tells of a text that isn't too long. -/
def parseF (s : ByteArray) : Option (List Rl) × Nat × Nat := if 16 ≤ Lib.countB s nlB then (none, 0, 1) else match readL [] 0 (linesB s) with
  | (none, n) => (none, n, 6)
  | (some l, _) => (some l, 0, 0)
/-- What Parse answers. -/
def OutP (w : World) (R : Option (List Rl) × Nat × Nat) (e : Ending) (w' : World) : Prop := match R with
  | (none, n, f) => e = .returned (.tuple #[.slice none 0 0, .int .i64 n, .int .i64 f]) ∧ Below w.heap.size w w'
  | (some l, n, f) => ∃ a len cap, e = .returned (.tuple #[.slice a len cap, .int .i64 n, .int .i64 f]) ∧ len ≤ cap ∧ cap ≤ maxLen ∧ Rs w' a len l ∧ Below w.heap.size w w'
end Go.Proofs.YtbbfjjjnifomgaaGreatDoor.A



/- Parse, walked. -/
namespace Go.Proofs.YtbbfjjjnifomgaaGreatDoor.A
open Go.RowKit
set_option linter.unusedVariables false

theorem info57 : (Tryz.prog.info? 57).map (fun i => (i.zero, i.size, i.bytes)) = some (some (.agg #[.string { data := #[] }, .int .u8 0, .int .u16 0, .slice none 0 0, .bool false]), 5, 56) := by kernel_rfl
theorem one_newQ (w : World) (x : Rl) (y : Nd) (t : TypeId) : ∀ j u, (cellsP (x, y))[j]? = some u → (w.alloc (.cells #[.string x.nm, .int .u8 y.k, .int .u16 y.s, .slice y.a y.l y.c, .bool x.br] t)).cell? ((⟨w.heap.size, 0, none⟩ : Addr).add j) = some u := by
  intro j u hj
  match j with
  | 0 => simp [cellsP] at hj; subst hj; simp [Addr.add]
  | 1 => simp [cellsP] at hj; subst hj; simp [Addr.add]
  | 2 => simp [cellsP] at hj; subst hj; simp [Addr.add]
  | 3 => simp [cellsP] at hj; subst hj; simp [Addr.add]
  | 4 => simp [cellsP] at hj; subst hj; simp [Addr.add]
  | j + 5 => simp [cellsP] at hj

set_option maxRecDepth 100000 in
set_option maxHeartbeats 12800000 in
theorem parse_any (s : ByteArray) (m : Int) (w : World) (hs : s.size ≤ 2000) (hm : w.cell? ⟨0, 0, none⟩ = some (.int .i64 m)) :
    Calls Tryz.prog 27 #[.string s] w fun e w' => OutP w (parseF s) e w' := by
  obtain ⟨i0, hi0, hz0, hz1, hz2⟩ := info_parts info57
  have hs' : ¬ (2000 : Int) < (s.size : Int) := by omega
  obtain ⟨cn, hcn⟩ : ∃ cn, Lib.countB s nlB = cn := ⟨_, rfl⟩
  have HCN := hide hcn
  have HC1 := hide (show ∀ u : World, Calls Tryz.prog 50 #[.string s, .string { data := #[10] }] u fun e w' => e = .returned (.int .i64 (cn : Nat)) ∧ w' = u from fun u => by
    refine (Tryz.strings_Count_one s 10 u).mono ?_
    rintro e w1 ⟨rfl, rfl⟩
    rw [count_nl, hcn]
    exact ⟨rfl, rfl⟩)
  have HF := hide (show parseF s = if 16 ≤ cn then (none, 0, 1) else match readL [] 0 (linesB s) with
    | (none, n) => (none, n, 6)
    | (some l, _) => (some l, 0, 0) by rw [← hcn]; rfl)
  have HSP := hide (show Calls Tryz.prog 51 #[.string s, .string { data := #[10] }] w fun e w' => e = .returned (.slice (some ⟨w.heap.size, 0, none⟩) (cn + 1) (cn + 1)) ∧ w' = w.alloc (.cells ((linesB s).map Value.string).toArray 9) from by
    have := Tryz.strings_Split s nlB m w (by omega) hm (by decide)
    rw [hcn] at this
    have e : Lib.splitB nlB 0 cn s = linesB s := by rw [← hcn]; rfl
    rw [e] at this
    exact this)
  have HLL := hide (show (linesB s).length = cn + 1 by rw [← hcn]; exact lines_len s)
  have HLZ := hide (show ∀ x ∈ linesB s, x.size ≤ 2000 from fun x hx => Nat.le_trans (split_le nlB _ s x hx) hs)
  clear hcn hm
  by_cases h16 : 16 ≤ cn
  · have h16' : (16 : Int) ≤ (cn : Int) := by omega
    have HFE := hide (show parseF s = (none, 0, 1) by rw [HF.out, if_pos h16])
    clear HF h16
    go_enter Tryz.func27, Tryz.ntmps27
    go_wp2_with fail
    refine (HC1.out w).mono ?_
    rintro e w1 ⟨rfl, hw⟩
    subst hw
    go_wp2
    go_ret3
    rw [HFE.out]
    exact ⟨rfl, Below.refl _ _⟩
  · have h16' : ¬ (16 : Int) ≤ (cn : Int) := by omega
    obtain ⟨R, hR⟩ : ∃ R, readL [] 0 (linesB s) = R := ⟨_, rfl⟩
    have HRR := hide hR
    have HFE := hide (show parseF s = match R.1 with
      | none => (none, R.2, 6)
      | some l => (some l, 0, 0) by
      rw [HF.out, if_neg h16, hR]
      obtain ⟨o, n⟩ := R
      cases o <;> rfl)
    clear HF hR
    generalize linesB s = ls at *
    have hcn : cn < 16 := by omega
    clear h16
    go_enter Tryz.func27, Tryz.ntmps27
    go_wp2_with fail
    refine (HC1.out w).mono ?_
    rintro e w0 ⟨rfl, hw⟩
    subst hw
    go_wp2_with fail
    refine HSP.out.mono ?_
    rintro e w1 ⟨rfl, hw1⟩
    have HB1 := hide (show Below w0.heap.size w0 w1 by rw [hw1]; exact (Below.refl w0.heap.size w0).alloc (Nat.le_refl _) _)
    have HRW := hide (show w1.heap[w0.heap.size]? = some (.cells (ls.map Value.string).toArray 9 (0, 0)) by rw [hw1]; exact heap_alloc_last w0 _)
    have HZ1 := hide (show w1.heap.size = w0.heap.size + 1 by rw [hw1]; simp)
    clear hw1 HSP
    obtain ⟨z, hz⟩ : ∃ z, w0.heap.size = z := ⟨_, rfl⟩
    rw [hz] at HRW HZ1 HB1 ⊢
    have HQ := hide hz
    clear hz
    go_wp2_with fail
    go_loopw [5, 6, 7, 8, 9, 21] (fun out _ _ _ _ u wr => ∃ (i : Nat) (ps : List (Rl × Nd)), i ≤ cn + 1 ∧ u = .int .i64 i ∧ ps.length = i ∧ Mkr (z + 1) wr ps out ∧ readL (ps.map (·.1)) i (ls.drop i) = R ∧ Below (z + 1) w1 wr) (fun _ _ _ _ _ u _ => cn + 1 - (intOf u).toNat)
    case atStart => exact ⟨0, [], Nat.zero_le _, rfl, rfl, mkr_nil _ _, by simpa using HRR.out, Below.refl _ _⟩
    case round =>
      obtain ⟨i, ps, hi, rfl, hps, hmk, hrd, hb⟩ := hrel
      by_cases hlt : i < cn + 1
      · obtain ⟨L, hL⟩ : ∃ L, ls[i]? = some L := ⟨ls[i]'(by rw [HLL.out]; exact hlt), by simp⟩
        have hLs := HLZ.out L (List.mem_of_getElem? hL)
        have HRD := hide (show (match ruleF L with
          | none => (none, i + 1)
          | some x => if umayB (ps.map (·.1)) x = true then readL (ps.map (·.1) ++ [x]) (i + 1) (ls.drop (i + 1)) else (none, i + 1)) = R from by rw [← hrd, drop_at hL]; rfl)
        have hrow := (hb.block z (by omega)).trans HRW.out
        have c0 : wr.cell? ⟨z, i, none⟩ = some (.string L) := by
          rw [cell_of_row wr z i _ _ _ hrow]
          simp [hL]
        have i3 : (0 : Int) ≤ (i : Int) := by omega
        have i4 : (i : Int) < ((cn + 1 : Nat) : Int) := by omega
        have i5 : (i : Int) < (cn : Int) + 1 := by omega
        have HMK := hide hmk
        have HBW := hide hb
        have HPS := hide hps
        have HLS := hide hLs
        clear hrd hL hrow hmk hb hLs hps
        go_wp2_with fail
        refine (readRule_any L wr HLS.out).mono ?_
        intro e w2 hout
        cases hR : ruleF L with
        | none =>
          rw [hR] at hout HRD
          obtain ⟨rfl, hb2⟩ := hout
          have HRE := hide (show R = (none, i + 1) from HRD.out.symm)
          have HB2 := hide ((HBW.out.trans (hb2.mono (by have := HBW.out.size; have := HZ1.out; omega))))
          clear hR HRD hb2
          have HPF := hide (show parseF s = (none, i + 1, 6) by rw [HFE.out, HRE.out])
          have HB3 := hide (show Below w0.heap.size w0 (w2.alloc (.cells #[.string { data := #[] }, .int .u8 0, .int .u16 0, .slice none 0 0, .bool false] 57)) from by
            rw [HQ.out]
            exact (HB1.out.trans (HB2.out.mono (by omega))).alloc (by have := HB2.out.size; have := HZ1.out; omega) _)
          go_wp2
          go_ret3
          rw [HPF.out]
          exact ⟨rfl, HB3.out⟩
        | some x =>
          rw [hR] at hout HRD
          obtain ⟨y, S, rfl, hn, hT, hS, hb2⟩ := hout
          have hbA := hb2.alloc hb2.size (.cells #[.string x.nm, .int .u8 y.k, .int .u16 y.s, .slice y.a y.l y.c, .bool x.br] 57)
          have hwz : z + 1 ≤ wr.heap.size := by have := HBW.out.size; have := HZ1.out; omega
          have HMA := hide (mkr_kept HMK.out (keep_below (B := z + 1) hbA))
          have HTA := hide (tr_alloc hT (.cells #[.string x.nm, .int .u8 y.k, .int .u16 y.s, .slice y.a y.l y.c, .bool x.br] 57))
          have HSA := hide (st5_new w2 x.nm y.k y.s y.a y.l y.c x.br)
          have HBA := hide (HBW.out.trans (hbA.mono hwz))
          have HVB := hide (show ∀ b ∈ S, z + 1 ≤ b ∧ u5.ownBlock ≠ some b from fun b hb => by
            have h1 := hS b hb
            refine ⟨by omega, fun e => ?_⟩
            have := (HMK.out.1.lt b e).2
            omega)
          have HRD2 := hide (show (if umayB (ps.map (·.1)) x = true then readL (ps.map (·.1) ++ [x]) (i + 1) (ls.drop (i + 1)) else (none, i + 1)) = R from HRD.out)
          have HNM := hide hn
          obtain ⟨a, cap, hv, hc1, hc2, hrs⟩ := mkr_rs HMA.out
          have HRS := hide hrs
          have HRU := hide (show Ru (w2.alloc (.cells #[.string x.nm, .int .u8 y.k, .int .u16 y.s, .slice y.a y.l y.c, .bool x.br] 57)) x (.agg #[.string x.nm, .int .u8 y.k, .int .u16 y.s, .slice y.a y.l y.c, .bool x.br]) from ⟨y.k, y.s, y.a, y.l, y.c, rfl, by unfold maxLen; omega, tr_rx _ _ _ _ HTA.out⟩)
          rw [HPS.out] at hv hc1 HRS
          have HSZ := hide (show z + 1 ≤ w2.heap.size by have := hb2.size; omega)
          clear hR HRD hb2 hbA hT hS hn hrs HMK HBW c0
          subst hv
          go_wp2_with fail
          generalize w2.alloc (.cells #[.string x.nm, .int .u8 y.k, .int .u16 y.s, .slice y.a y.l y.c, .bool x.br] 57) = V at *
          generalize w2.heap.size = p at *
          refine (may_any a i cap (ps.map (·.1)) x _ V (by omega) HRS.out HRU.out).mono ?_
          rintro e w3 ⟨rfl, hb3⟩
          have hpV : p < V.heap.size := st5_lt HSA.out
          have HB3 := hide (HBA.out.trans (hb3.mono (by have := HSZ.out; omega)))
          cases hmay : umayB (ps.map (·.1)) x with
          | false =>
            rw [hmay] at HRD2
            have HRE := hide (show R = (none, i + 1) from HRD2.out.symm)
            have HPF := hide (show parseF s = (none, i + 1, 6) by rw [HFE.out, HRE.out])
            have HB4 := hide (show Below w0.heap.size w0 w3 from by
              rw [HQ.out]
              exact HB1.out.trans (HB3.out.mono (by omega)))
            clear hmay HRD2 hb3
            go_wp2
            go_ret3
            rw [HPF.out]
            exact ⟨rfl, HB4.out⟩
          | true =>
            rw [hmay] at HRD2
            have HRD3 := hide (show readL (ps.map (·.1) ++ [x]) (i + 1) (ls.drop (i + 1)) = R from HRD2.out)
            have hM3 := mkr_kept HMA.out (keep_below (B := z + 1) hb3)
            have hM4 := mkr_kept hM3 (keep_below (B := z + 1) ((Below.refl w3.heap.size w3).alloc (Nat.le_refl _) (.cells #[.string x.nm, .int .u8 y.k, .int .u16 y.s, .slice y.a y.l y.c, .bool x.br] 57)))
            have HT4 := hide (tr_alloc (tr_below HTA.out hb3) (.cells #[.string x.nm, .int .u8 y.k, .int .u16 y.s, .slice y.a y.l y.c, .bool x.br] 57))
            obtain ⟨q0, q1, q2, q3, q4, -⟩ := st5_cells (st5_below HSA.out hb3 hpV)
            have HOW := hide (show (w3.alloc (.cells #[.string x.nm, .int .u8 y.k, .int .u16 y.s, .slice y.a y.l y.c, .bool x.br] 57)).ownsRow (z + 1) 57 5 (.slice a i cap) i (cellsQ ps) from by
              have ho := hM4.1
              rw [HPS.out] at ho
              exact ho)
            have HM4 := hide hM4
            have HNW := hide (one_newQ w3 x y 57)
            have HBW := hide (show z + 1 ≤ (w3.alloc (.cells #[.string x.nm, .int .u8 y.k, .int .u16 y.s, .slice y.a y.l y.c, .bool x.br] 57)).heap.size by have := hb3.size; have := HSZ.out; simp; omega)
            have HZ4 := hide (show (w3.alloc (.cells #[.string x.nm, .int .u8 y.k, .int .u16 y.s, .slice y.a y.l y.c, .bool x.br] 57)).heap.size = w3.heap.size + 1 by simp)
            have HB4 := hide (HB3.out.alloc (by have := hb3.size; have := HSZ.out; omega) (.cells #[.string x.nm, .int .u8 y.k, .int .u16 y.s, .slice y.a y.l y.c, .bool x.br] 57))
            clear hmay HRD2 hM3 hM4 hb3 HMA HTA HSA HBA HRS HRU
            go_wp2_with (at_builtin; refine wpList_append_lies _ rfl _ _ 35 rfl (z + 1) 57 i0 (.agg #[.string { data := #[] }, .int .u8 0, .int .u16 0, .slice none 0 0, .bool false]) 5 56 Tryz.underlying35 hi0 hz0 hz1 hz2 rfl (by omega) (.slice a i cap) i (cellsQ ps) rfl HOW.out ⟨w3.heap.size, 0, none⟩ 1 1 (cellsP (x, y)) rfl rfl HNW.out (cellsP_one' (x, y)) (by omega) (by unfold maxLen; omega) (by omega) HBW.out (w3.heap.size + 1) (by simp) ?_)
            intro g cap' w4 hown4 hgrow4 hat4 hlt4
            have HM5 := hide (mkr_app (x := x) (y := y) (S := S) (g := g) (cap := cap') HM4.out HNM.out HT4.out HVB.out (by rw [HPS.out]; exact hown4) hgrow4 (by rw [HZ4.out]; exact hat4))
            have HB5 := hide (HB4.out.grown hgrow4 HBW.out (fun k hk => (HM4.out.1.lt k hk).1))
            rw [HPS.out] at HM5
            clear hown4 hgrow4 hat4 hlt4 HOW HNW HBW HZ4 HB4 HM4 HT4 q0 q1 q2 q3 q4
            go_wp2
            go_roundw
            case rel => exact ⟨i + 1, ps ++ [(x, y)], by omega, by go_num, by have := HPS.out; simp; omega, HM5.out, by simpa using HRD3.out, HB5.out⟩
            case measure => simp [intOf]; omega
      · have e : i = cn + 1 := by omega
        subst e
        have hd : ls.drop (cn + 1) = [] := List.drop_of_length_le (by rw [HLL.out]; exact Nat.le_refl _)
        rw [hd] at hrd
        have HRE := hide (show R = (some (ps.map (·.1)), 0) from hrd.symm)
        obtain ⟨a, cap, rfl, hc1, hc2, hrs⟩ := mkr_rs hmk
        have HPF := hide (show parseF s = (some (ps.map (·.1)), 0, 0) by rw [HFE.out, HRE.out])
        have HB4 := hide (show Below w0.heap.size w0 wr from by
          rw [HQ.out]
          exact HB1.out.trans (hb.mono (by omega)))
        have HRS := hide hrs
        have hcc : cap ≤ maxLen := hc2
        clear hrd hd hmk hb hrs
        go_wp2
        go_ret3
        rw [HPF.out]
        exact ⟨a, ps.length, cap, rfl, hc1, hcc, HRS.out, HB4.out⟩
end Go.Proofs.YtbbfjjjnifomgaaGreatDoor.A



/- Sets of states numbered as they are found; the machine that comes of them: plain mathematics. -/
namespace Go.Proofs.YtbbfjjjnifomgaaGreatDoor.A
open Go.RowKit

/-- A set's number, and the sets behind that. -/
def findF (S : List (List Int)) (s : List Int) : List (List Int) × Int :=
  if s = [] then (S, -1) else if s ∈ S then (S, ((S.idxOf s : Nat) : Int)) else (S ++ [s], ((S.length : Nat) : Int))
/-- The first k numbers of a set's row, and the sets behind that. -/
def rowF (tr : List Int → Nat → List Int) (s : List Int) (S : List (List Int)) : Nat → List (List Int) × List Int
  | 0 => (S, [])
  | k + 1 => ((findF (rowF tr s S k).1 (tr s k)).1, (rowF tr s S k).2 ++ [(findF (rowF tr s S k).1 (tr s k)).2])
/-- The sets, rows and rules behind the first k states. -/
def stF (tr : List Int → Nat → List Int) (ls : List Int → Int) (start : List Int) : Nat → List (List Int) × List (List Int) × List Int
  | 0 => ([start], [], [])
  | k + 1 => match (stF tr ls start k).1[k]? with
    | none => stF tr ls start k
    | some s => ((rowF tr s (stF tr ls start k).1 16).1, (stF tr ls start k).2.1 ++ [(rowF tr s (stF tr ls start k).1 16).2], (stF tr ls start k).2.2 ++ [ls s])

theorem find_pre (S : List (List Int)) (s : List Int) : ∃ r, (findF S s).1 = S ++ r ∧ r.length ≤ 1 := by
  unfold findF
  split
  · exact ⟨[], by simp, by simp⟩
  · split
    · exact ⟨[], by simp, by simp⟩
    · exact ⟨[s], rfl, by simp⟩
theorem row_pre (tr : List Int → Nat → List Int) (s : List Int) (S : List (List Int)) : ∀ k, ∃ r, (rowF tr s S k).1 = S ++ r ∧ r.length ≤ k
  | 0 => ⟨[], by simp [rowF], by simp⟩
  | k + 1 => by
    obtain ⟨r, hr, hl⟩ := row_pre tr s S k
    obtain ⟨r', hr', hl'⟩ := find_pre (rowF tr s S k).1 (tr s k)
    refine ⟨r ++ r', ?_, by simp; omega⟩
    show (findF (rowF tr s S k).1 (tr s k)).1 = _
    rw [hr', hr, List.append_assoc]
theorem row_len (tr : List Int → Nat → List Int) (s : List Int) (S : List (List Int)) : ∀ k, (rowF tr s S k).2.length = k
  | 0 => rfl
  | k + 1 => by show (_ ++ [_]).length = _; rw [List.length_append, row_len tr s S k]; rfl

section
variable {tr : List Int → Nat → List Int} {ls : List Int → Int} {start : List Int}
theorem st_some {k : Nat} {s : List Int} (h : (stF tr ls start k).1[k]? = some s) : stF tr ls start (k + 1) = ((rowF tr s (stF tr ls start k).1 16).1, (stF tr ls start k).2.1 ++ [(rowF tr s (stF tr ls start k).1 16).2], (stF tr ls start k).2.2 ++ [ls s]) := by
  conv => lhs; unfold stF
  rw [h]
theorem st_none {k : Nat} (h : (stF tr ls start k).1[k]? = none) : stF tr ls start (k + 1) = stF tr ls start k := by
  conv => lhs; unfold stF
  rw [h]
theorem st_pre1 (k : Nat) : ∃ r, (stF tr ls start (k + 1)).1 = (stF tr ls start k).1 ++ r := by
  cases h : (stF tr ls start k).1[k]? with
  | none => exact ⟨[], by rw [st_none h]; simp⟩
  | some s =>
    obtain ⟨r, hr, _⟩ := row_pre tr s (stF tr ls start k).1 16
    exact ⟨r, by rw [st_some h]; exact hr⟩
theorem st_pre (k m : Nat) : ∃ r, (stF tr ls start (k + m)).1 = (stF tr ls start k).1 ++ r := by
  induction m with
  | zero => exact ⟨[], by simp⟩
  | succ m ih =>
    obtain ⟨r, hr⟩ := ih
    obtain ⟨r', hr'⟩ := st_pre1 (tr := tr) (ls := ls) (start := start) (k + m)
    exact ⟨r ++ r', by rw [show k + (m + 1) = k + m + 1 by omega, hr', hr, List.append_assoc]⟩
theorem st_mono {k m : Nat} (h : k ≤ m) : (stF tr ls start k).1.length ≤ (stF tr ls start m).1.length := by
  obtain ⟨r, hr⟩ := st_pre (tr := tr) (ls := ls) (start := start) k (m - k)
  rw [show k + (m - k) = m by omega] at hr
  rw [hr, List.length_append]; omega
theorem st_at {k m i : Nat} {s : List Int} (h : k ≤ m) (hi : (stF tr ls start k).1[i]? = some s) : (stF tr ls start m).1[i]? = some s := by
  obtain ⟨r, hr⟩ := st_pre (tr := tr) (ls := ls) (start := start) k (m - k)
  rw [show k + (m - k) = m by omega] at hr
  rw [hr, List.getElem?_append_left (List.getElem?_eq_some_iff.1 hi).1]; exact hi
theorem st_stop {k : Nat} (h : (stF tr ls start k).1.length ≤ k) (m : Nat) : stF tr ls start (k + m) = stF tr ls start k := by
  induction m with
  | zero => rfl
  | succ m ih =>
    rw [show k + (m + 1) = k + m + 1 by omega]
    have hn : (stF tr ls start (k + m)).1[k + m]? = none := by rw [ih]; exact List.getElem?_eq_none (by omega)
    rw [st_none hn, ih]
/-- As long as there is a state more, there are as many rows. -/
theorem st_len : ∀ k, (∀ j, j < k → j < (stF tr ls start j).1.length) → (stF tr ls start k).2.1.length = k ∧ (stF tr ls start k).2.2.length = k
  | 0, _ => ⟨rfl, rfl⟩
  | k + 1, h => by
    obtain ⟨h1, h2⟩ := st_len k (fun j hj => h j (by omega))
    rw [st_some (List.getElem?_eq_getElem (h k (by omega)))]
    simp [h1, h2]
/-- The machine's end: behind 201 rounds nothing turns, or there are too many. -/
theorem st_end {k : Nat} (h : (stF tr ls start k).1.length = k) (hk : k ≤ 200) : stF tr ls start 201 = stF tr ls start k := by
  have := st_stop (tr := tr) (ls := ls) (start := start) (k := k) (by omega) (201 - k)
  rw [show k + (201 - k) = 201 by omega] at this
  exact this
theorem st_big {k : Nat} (h : 200 < (stF tr ls start (k + 1)).1.length) (hk : k < 201) : 200 < (stF tr ls start 201).1.length := by
  have := st_mono (tr := tr) (ls := ls) (start := start) (k := k + 1) (m := 201) (by omega)
  omega
/-- Sets are there once, and no set is empty. -/
theorem find_nodup {S : List (List Int)} (h : S.Nodup) (s : List Int) : (findF S s).1.Nodup := by
  unfold findF
  split
  · exact h
  · split
    · exact h
    · rename_i hn
      rw [List.nodup_append]
      exact ⟨h, by simp, fun a ha b hb => by rw [List.mem_singleton] at hb; subst hb; exact fun e => hn (e ▸ ha)⟩
theorem find_spec (S : List (List Int)) (s : List Int) : (s = [] ∧ (findF S s).2 = -1) ∨ (s ≠ [] ∧ ∃ j : Nat, (findF S s).2 = j ∧ (findF S s).1[j]? = some s) := by
  unfold findF
  by_cases h : s = []
  · left; exact ⟨h, by rw [if_pos h]⟩
  · right
    refine ⟨h, ?_⟩
    rw [if_neg h]
    by_cases hm : s ∈ S
    · rw [if_pos hm]
      have hlt := List.idxOf_lt_length_of_mem hm
      exact ⟨_, rfl, by rw [List.getElem?_eq_getElem hlt]; simp⟩
    · rw [if_neg hm]
      exact ⟨_, rfl, by simp⟩
/-- What a row's numbers mean. -/
def Means (tr : List Int → Nat → List Int) (S : List (List Int)) (s : List Int) (row : List Int) (k : Nat) : Prop :=
  ∀ c, c < k → (tr s c = [] ∧ row[c]? = some (-1)) ∨ (tr s c ≠ [] ∧ ∃ j : Nat, row[c]? = some (j : Int) ∧ S[j]? = some (tr s c))
theorem means_more {S : List (List Int)} {s row : List Int} {k : Nat} (h : Means tr S s row k) (r : List (List Int)) : Means tr (S ++ r) s row k := fun c hc => by
  rcases h c hc with h | ⟨h0, j, h1, h2⟩
  · exact .inl h
  · exact .inr ⟨h0, j, h1, by rw [List.getElem?_append_left (List.getElem?_eq_some_iff.1 h2).1]; exact h2⟩
theorem row_means (s : List Int) (S : List (List Int)) : ∀ k, Means tr (rowF tr s S k).1 s (rowF tr s S k).2 k
  | 0 => fun c hc => by omega
  | k + 1 => fun c hc => by
    have hl := row_len tr s S k
    obtain ⟨r, hr, _⟩ := find_pre (rowF tr s S k).1 (tr s k)
    show (tr s c = [] ∧ ((rowF tr s S k).2 ++ [(findF (rowF tr s S k).1 (tr s k)).2])[c]? = some (-1)) ∨ (tr s c ≠ [] ∧ ∃ j : Nat, ((rowF tr s S k).2 ++ [(findF (rowF tr s S k).1 (tr s k)).2])[c]? = some (j : Int) ∧ (findF (rowF tr s S k).1 (tr s k)).1[j]? = some (tr s c))
    by_cases e : c = k
    · subst e
      rw [List.getElem?_append_right (by omega), hl, Nat.sub_self]
      rcases find_spec (rowF tr s S c).1 (tr s c) with ⟨h1, h2⟩ | ⟨h0, j, h1, h2⟩
      · exact .inl ⟨h1, by rw [h2]; rfl⟩
      · exact .inr ⟨h0, j, by rw [h1]; rfl, h2⟩
    · rw [List.getElem?_append_left (by omega)]
      have := means_more (row_means s S k) r c (by omega)
      rw [← hr] at this
      exact this
theorem row_nodup {S : List (List Int)} (h : S.Nodup) (s : List Int) : ∀ k, (rowF tr s S k).1.Nodup
  | 0 => h
  | k + 1 => find_nodup (row_nodup h s k) _
theorem st_nodup : ∀ k, (stF tr ls start k).1.Nodup
  | 0 => by simp [stF]
  | k + 1 => by
    cases h : (stF tr ls start k).1[k]? with
    | none => rw [st_none h]; exact st_nodup k
    | some s => rw [st_some h]; exact row_nodup (st_nodup k) s 16
/-- All sets keep what tr and the start keep. -/
theorem find_all {P : List Int → Prop} {S : List (List Int)} (h : ∀ x ∈ S, P x) {s : List Int} (hs : s ≠ [] → P s) : ∀ x ∈ (findF S s).1, P x := by
  unfold findF
  split
  · exact h
  · split
    · exact h
    · rename_i h0 _
      intro x hx
      rw [List.mem_append, List.mem_singleton] at hx
      rcases hx with hx | rfl
      · exact h x hx
      · exact hs h0
theorem row_all {P : List Int → Prop} {s : List Int} (ht : ∀ c, c < 16 → tr s c ≠ [] → P (tr s c)) {S : List (List Int)} (h : ∀ x ∈ S, P x) : ∀ k, k ≤ 16 → ∀ x ∈ (rowF tr s S k).1, P x
  | 0, _ => h
  | k + 1, hk => find_all (row_all ht h k (by omega)) (ht k (by omega))
theorem st_all {P : List Int → Prop} (h0 : P start) (ht : ∀ s, P s → ∀ c, c < 16 → tr s c ≠ [] → P (tr s c)) : ∀ k, ∀ x ∈ (stF tr ls start k).1, P x
  | 0 => fun x hx => by
    have : x = start := by simpa [stF] using hx
    rw [this]; exact h0
  | k + 1 => by
    cases h : (stF tr ls start k).1[k]? with
    | none => rw [st_none h]; exact st_all h0 ht k
    | some s => rw [st_some h]; exact row_all (ht s (st_all h0 ht k s (List.mem_of_getElem? h))) (st_all h0 ht k) 16 (by omega)
/-- Each row behind the first k states means what it should, and each rule is its set's. -/
theorem st_means : ∀ k, (∀ j, j < k → j < (stF tr ls start j).1.length) → ∀ i, i < k → ∃ s row, (stF tr ls start k).1[i]? = some s ∧ (stF tr ls start k).2.1[i]? = some row ∧ row.length = 16 ∧ (stF tr ls start k).2.2[i]? = some (ls s) ∧ Means tr (stF tr ls start k).1 s row 16
  | 0, _, i, hi => by omega
  | k + 1, h, i, hi => by
    have hk := h k (by omega)
    obtain ⟨l1, l2⟩ := st_len (tr := tr) (ls := ls) (start := start) k (fun j hj => h j (by omega))
    have e := List.getElem?_eq_getElem hk
    generalize (stF tr ls start k).1[k] = s at e
    have hS := st_some (ls := ls) e
    rw [hS]
    obtain ⟨r, hr, _⟩ := row_pre tr s (stF tr ls start k).1 16
    by_cases q : i = k
    · subst q
      refine ⟨s, (rowF tr s (stF tr ls start i).1 16).2, ?_, ?_, row_len _ _ _ _, ?_, row_means s _ 16⟩
      · show (rowF tr s (stF tr ls start i).1 16).1[i]? = _
        rw [hr, List.getElem?_append_left hk]; exact e
      · show (_ ++ [_])[i]? = _
        rw [List.getElem?_append_right (by omega), l1, Nat.sub_self]; rfl
      · show (_ ++ [_])[i]? = _
        rw [List.getElem?_append_right (by omega), l2, Nat.sub_self]; rfl
    · obtain ⟨s', row, h1, h2, h3, h4, h5⟩ := st_means k (fun j hj => h j (by omega)) i (by omega)
      refine ⟨s', row, ?_, ?_, h3, ?_, ?_⟩
      · show (rowF tr s (stF tr ls start k).1 16).1[i]? = _
        rw [hr, List.getElem?_append_left (List.getElem?_eq_some_iff.1 h1).1]; exact h1
      · show (_ ++ [_])[i]? = _
        rw [List.getElem?_append_left (by omega)]; exact h2
      · show (_ ++ [_])[i]? = _
        rw [List.getElem?_append_left (by omega)]; exact h4
      · show Means tr (rowF tr s (stF tr ls start k).1 16).1 s' row 16
        rw [hr]; exact means_more h5 r
theorem st_start (k : Nat) : (stF tr ls start k).1[0]? = some start := st_at (k := 0) (Nat.zero_le k) rfl
/-- There is a first round at which no state is left, or there are too many. -/
theorem st_reach (hb : (stF tr ls start 201).1.length ≤ 200) : ∃ k, (stF tr ls start k).1.length = k ∧ k ≤ 200 ∧ (∀ j, j < k → j < (stF tr ls start j).1.length) ∧ stF tr ls start 201 = stF tr ls start k := by
  have key : ∀ m, (∀ j, j < m → j < (stF tr ls start j).1.length) ∨ ∃ k, k < m ∧ (stF tr ls start k).1.length = k ∧ (∀ j, j < k → j < (stF tr ls start j).1.length) := fun m => by
    induction m with
    | zero => exact .inl fun j hj => by omega
    | succ m ih =>
      rcases ih with ih | ⟨k, h1, h2, h3⟩
      · by_cases q : m < (stF tr ls start m).1.length
        · exact .inl fun j hj => by
            by_cases e : j = m
            · subst e; exact q
            · exact ih j (by omega)
        · right
          refine ⟨m, by omega, ?_, ih⟩
          cases m with
          | zero => simp [stF] at q
          | succ m =>
            have := ih m (by omega)
            have h2 := st_mono (tr := tr) (ls := ls) (start := start) (k := m) (m := m + 1) (by omega)
            omega
      · exact .inr ⟨k, by omega, h2, h3⟩
  rcases key 201 with h | ⟨k, h1, h2, h3⟩
  · have h1 := h 200 (by omega)
    have h2 := st_mono (tr := tr) (ls := ls) (start := start) (k := 200) (m := 201) (by omega)
    omega
  · exact ⟨k, h2, by omega, h3, st_end h2 (by omega)⟩
end
end Go.Proofs.YtbbfjjjnifomgaaGreatDoor.A



/- A text of numbers: unlike that of any others; the program's text. -/
namespace Go.Proofs.YtbbfjjjnifomgaaGreatDoor.A
open Go.RowKit

/-- What digits say. -/
def valD (l : List UInt8) : Nat := l.foldl (fun a b => 10 * a + (b.toNat - 48)) 0
theorem dig_nat {d : Nat} (h : d < 10) : (UInt8.ofNat (48 + d)).toNat = 48 + d := by
  rw [UInt8.toNat_ofNat']; omega
theorem val_dec (u : Nat) : valD (Lib.decDigits u) = u ∧ ∀ b ∈ Lib.decDigits u, b ≠ 32 := by
  induction u using Nat.strongRecOn with
  | ind u ih =>
    rw [Lib.decDigits.eq_1]
    split
    · rename_i h
      refine ⟨?_, fun b hb => ?_⟩
      · unfold valD; simp only [List.foldl_cons, List.foldl_nil]; rw [dig_nat h]; omega
      · rw [List.mem_singleton] at hb
        subst hb
        intro e
        have := congrArg UInt8.toNat e
        rw [dig_nat h] at this
        have e2 : (32 : UInt8).toNat = 32 := rfl
        omega
    · rename_i h
      obtain ⟨h1, h2⟩ := ih (u / 10) (by omega)
      have hd : u % 10 < 10 := by omega
      refine ⟨?_, fun b hb => ?_⟩
      · unfold valD at h1 ⊢
        rw [List.foldl_append, h1]
        simp only [List.foldl_cons, List.foldl_nil]
        rw [dig_nat hd]; omega
      · rw [List.mem_append, List.mem_singleton] at hb
        rcases hb with hb | rfl
        · exact h2 b hb
        · intro e
          have := congrArg UInt8.toNat e
          rw [dig_nat hd] at this
          have e2 : (32 : UInt8).toNat = 32 := rfl
          omega
theorem sep_inj : ∀ (l l' r r' : List UInt8), (∀ b ∈ l, b ≠ 32) → (∀ b ∈ l', b ≠ 32) → l ++ 32 :: r = l' ++ 32 :: r' → l = l' ∧ r = r'
  | [], [], _, _, _, _, h => ⟨rfl, by simpa using h⟩
  | [], x :: l', _, _, _, h2, h => by
    have : (32 : UInt8) = x := by simpa using (List.cons.inj h).1
    exact absurd this.symm (h2 x (by simp))
  | x :: l, [], _, _, h1, _, h => by
    have : x = (32 : UInt8) := by simpa using (List.cons.inj h).1
    exact absurd this (h1 x (by simp))
  | x :: l, y :: l', r, r', h1, h2, h => by
    obtain ⟨e, h⟩ := List.cons.inj h
    obtain ⟨e1, e2⟩ := sep_inj l l' r r' (fun b hb => h1 b (by simp [hb])) (fun b hb => h2 b (by simp [hb])) h
    exact ⟨by rw [e, e1], e2⟩
/-- Numbers as bytes. -/
def textL (zs : List Int) : List UInt8 := zs.flatMap fun z => Lib.itoa z ++ [32]
def textB (zs : List Int) : ByteArray := ⟨(textL zs).toArray⟩
theorem itoa_nat {z : Int} (h : 0 ≤ z) : Lib.itoa z = Lib.decDigits z.toNat := by
  obtain ⟨u, rfl⟩ : ∃ u : Nat, z = u := ⟨z.toNat, by omega⟩
  rw [Lib.itoa_nonneg]; rfl
theorem textL_inj : ∀ zs zs' : List Int, (∀ z ∈ zs, 0 ≤ z) → (∀ z ∈ zs', 0 ≤ z) → textL zs = textL zs' → zs = zs'
  | [], [], _, _, _ => rfl
  | [], z :: r, _, _, h => by simp [textL] at h
  | z :: r, [], _, _, h => by simp [textL] at h
  | z :: r, z' :: r', h1, h2, h => by
    have hz := h1 z (by simp)
    have hz' := h2 z' (by simp)
    have e : Lib.decDigits z.toNat ++ 32 :: textL r = Lib.decDigits z'.toNat ++ 32 :: textL r' := by
      unfold textL at h
      rw [List.flatMap_cons, List.flatMap_cons, itoa_nat hz, itoa_nat hz', List.append_assoc, List.append_assoc] at h
      exact h
    obtain ⟨e1, e2⟩ := sep_inj _ _ _ _ (val_dec _).2 (val_dec _).2 e
    have e3 : z.toNat = z'.toNat := by rw [← (val_dec z.toNat).1, e1, (val_dec z'.toNat).1]
    rw [show z = z' by omega, textL_inj r r' (fun z hz => h1 z (by simp [hz])) (fun z hz => h2 z (by simp [hz])) e2]
theorem textL_step {zs : List Int} {k : Nat} {z : Int} (h : zs[k]? = some z) : textL (zs.take (k + 1)) = textL (zs.take k) ++ (Lib.itoa z ++ [32]) := by
  unfold textL; rw [take_at h, List.flatMap_append]; simp
theorem dec_len (u : Nat) (h : u < 10000) : (Lib.decDigits u).length ≤ 4 := by
  have key : ∀ u, u < 10000 → (Lib.decDigits u).length ≤ 4 := fun u h => by
    rw [Lib.decDigits.eq_1]
    split
    · simp
    · rw [List.length_append, Lib.decDigits.eq_1]
      split
      · simp
      · rw [List.length_append, Lib.decDigits.eq_1]
        split
        · simp
        · rw [List.length_append, Lib.decDigits.eq_1, dif_pos (by omega)]; simp
  exact key u h
theorem textL_len : ∀ (zs : List Int), (∀ z ∈ zs, 0 ≤ z ∧ z < 10000) → (textL zs).length ≤ 5 * zs.length
  | [], _ => by simp [textL]
  | z :: r, h => by
    have ih := textL_len r (fun z hz => h z (by simp [hz]))
    have hz := h z (by simp)
    unfold textL at ih ⊢
    rw [List.flatMap_cons, List.length_append, List.length_append, itoa_nat hz.1]
    have := dec_len z.toNat (by omega)
    simp only [List.length_cons, List.length_nil]; omega

/-- The table of powers stays whatever is done from base on. -/
def Tab (base : Nat) (w : World) : Prop := Lib.TabBelow Tryz.prog base w "internal/strconv.uint64pow10" .u64 Lib.pow10Tab
theorem tab_on {base : Nat} {w w1 : World} (h : Tab base w) (hb : Below base w w1) : Tab base w1 := Lib.TabBelow.on h hb
theorem tab_up {base B : Nat} {w : World} (h : Tab base w) (hB : base ≤ B) : Tab B w := fun w' hb => h w' (hb.mono hB)

theorem info5 : (Tryz.prog.info? 5).map (fun i => (i.zero, i.size, i.bytes)) = some (some (.int .u8 0), 1, 1) := by kernel_rfl
theorem bytes_back {w : World} {B : Nat} {v : Value} {l : List UInt8} (h : w.ownsRow B 5 1 v l.length (Lib.byteCells l)) : (convert 205 9 v).run Tryz.prog w = .ok (.string ⟨l.toArray⟩) w := by
  obtain ⟨h1, ⟨rfl, h0⟩ | ⟨g, cap, cur, rfl, hb, hg, _, _, hs, ht⟩⟩ := h
  · obtain rfl : l = [] := List.eq_nil_of_length_eq_zero h0
    rw [run_convert_bytes_nil w 205 5 Tryz.underlying205 Tryz.underlying5 0 0 9 Tryz.underlying9]
    rfl
  · refine run_convert_bytes_back w 205 9 5 ⟨g, 0, none⟩ cap l Tryz.underlying205 Tryz.underlying5 Tryz.underlying9 (fun j hj => ?_)
    have e : (⟨g, 0, none⟩ : Addr).add j = ⟨g, j, none⟩ := by
      simp only [Addr.add]
      split
      · rename_i h; rw [h]
      · simp
    rw [e, cell_of_row _ _ j _ _ _ hg]
    have hc : (Lib.byteCells l)[j]? = some (.int .u8 (l[j].toNat : Int)) := by simp [Lib.byteCells, hj]
    rw [← ht, List.getElem?_take] at hc
    split at hc
    · simpa using hc
    · cases hc

set_option maxRecDepth 100000 in
set_option maxHeartbeats 3200000 in
theorem text_any (base : Nat) (a : Option Addr) (len cap : Nat) (zs : List Int) (w : World) (hz : zs.length = len) (hl : len ≤ 10000) (hr : ∀ z ∈ zs, 0 ≤ z ∧ z < 10000) (hW : Wd w a zs) (hbs : base ≤ w.heap.size) (ht : Tab base w) :
    Calls Tryz.prog 125 #[.slice a len cap] w fun e w' => e = .returned (.string (textB zs)) ∧ Below w.heap.size w w' := by
  obtain ⟨i5, hi5, hz5, hs5, hb5⟩ := info_parts info5
  have HT := hide (tab_up ht hbs)
  have HZ := hide hz
  have HW := hide hW
  have HR := hide hr
  clear hz hW hr ht hbs
  go_enter Tryz.func125, Tryz.ntmps125
  go_wp2_with fail
  go_loopw [3, 5, 8] (fun v _ u wr => ∃ (i n : Nat) (bs : List UInt8), i ≤ len ∧ u = .int .i64 i ∧ bs = textL (zs.take i) ∧ n = bs.length ∧ n ≤ 5 * i ∧ wr.ownsRow w.heap.size 5 1 v n (Lib.byteCells bs) ∧ Below w.heap.size w wr) (fun _ _ u _ => len - (intOf u).toNat)
  case atStart => exact ⟨0, 0, [], Nat.zero_le _, rfl, rfl, rfl, by omega, World.ownsRow_nil _ _ _ _, Below.refl _ _⟩
  case round =>
    obtain ⟨i, n, bs, hi, rfl, hbs, hn, hn5, ho, hb⟩ := hrel
    have HO := hide ho
    have HBW := hide hb
    have HBS := hide hbs
    have HN := hide hn
    clear ho hbs hn
    by_cases hlt : i < len
    · obtain ⟨z, hzi⟩ : ∃ z, zs[i]? = some z := ⟨_, List.getElem?_eq_getElem (by rw [HZ.out]; exact hlt)⟩
      obtain ⟨b, off, rfl, k0⟩ := wd_below hb HW.out i z hzi
      obtain ⟨z0, z1⟩ := HR.out z (List.mem_of_getElem? hzi)
      have HST := hide (textL_step hzi)
      have hdl : (Lib.itoa z).length ≤ 4 := by rw [itoa_nat z0]; exact dec_len _ (by omega)
      have i3 : (0 : Int) ≤ (i : Int) := by omega
      have i4 : (i : Int) < (len : Int) := by omega
      clear hzi hb
      go_wp2_with fail
      refine (Tryz.strconv_AppendInt_10 w.heap.size n z (by omega) (by omega) _ _ wr HO.out HBW.out.size (by omega) (tab_on HT.out HBW.out)).mono ?_
      rintro e w2 ⟨v2, rfl, ho2, hb2, -⟩
      have HO2 := hide ho2
      have HB2 := hide (HBW.out.trans hb2)
      have HSZ := hide (show w.heap.size ≤ (w2.alloc (.cells #[.int .u8 32] 5)).heap.size by have := HB2.out.size; simp; omega)
      clear ho2 hb2 k0
      go_wp2_with (at_builtin; refine wpList_append_lies _ rfl _ _ 205 rfl w.heap.size 5 i5 (.int .u8 0) 1 1 Tryz.underlying205 hi5 hz5 hs5 hb5 rfl (by decide) _ _ _ rfl (HO2.out.alloc _) ⟨_, 0, none⟩ 1 1 [.int .u8 32] rfl rfl (one_new _ _ _) (fun u hu => by simp only [List.mem_singleton] at hu; subst hu; rfl) (by decide) (by unfold maxLen; omega) (by omega) HSZ.out _ rfl ?_)
      intro g cap' w3 hown hgrow hat hlt3
      have HO3 := hide (show w3.ownsRow w.heap.size 5 1 (.slice (some ⟨g, 0, none⟩) (n + (Lib.itoa z).length + 1) cap') (n + (Lib.itoa z).length + 1) (Lib.byteCells (bs ++ (Lib.itoa z ++ [32]))) from by
        have e : Lib.byteCells (bs ++ (Lib.itoa z ++ [32])) = (Lib.byteCells bs ++ Lib.byteCells (Lib.itoa z)) ++ [.int .u8 32] := by simp [Lib.byteCells]
        rw [e, List.append_assoc]; exact hown)
      have HB3 := hide ((HB2.out.alloc HB2.out.size (.cells #[.int .u8 32] 5)).grown hgrow HSZ.out (fun k hk => (HO2.out.lt k hk).1))
      clear hown hgrow hat hlt3
      go_wp2
      go_roundw
      case rel => exact ⟨i + 1, n + (Lib.itoa z).length + 1, bs ++ (Lib.itoa z ++ [32]), by omega, by go_num, by rw [HST.out, ← HBS.out], by have := HN.out; simp; omega, by omega, HO3.out, HB3.out⟩
      case measure => simp [intOf]; omega
    · have e : i = len := by omega
      subst e
      have hbs2 : bs = textL zs := by rw [HBS.out, List.take_of_length_le (by rw [HZ.out]; exact Nat.le_refl _)]
      have hconv : (convert 205 9 _).run Tryz.prog wr = _ := bytes_back (by have := HO.out; rw [HN.out] at this; exact this)
      clear hb
      go_wp2
      go_ret
      exact ⟨rfl, HBW.out⟩
end Go.Proofs.YtbbfjjjnifomgaaGreatDoor.A


