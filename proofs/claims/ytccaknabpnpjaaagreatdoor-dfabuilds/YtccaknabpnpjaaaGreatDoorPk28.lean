/- Parse: lines, and a list of rules that is being made. -/
import Derived.Test.YtccaknabpnpjaaaGreatDoorPk27
import Derived.Lib.SplitLaws
import Derived.Test.YtccaknabpnpjaaaGreatDoorPk21
import Derived.Test.YtccaknabpnpjaaaGreatDoorPk19
namespace Go.Proofs.YtccaknabpnpjaaaGreatDoor.A
open Go.RowKit
set_option linter.unusedVariables false

def cellsP (p : Rl × Nd) : List Value := [.string p.1.nm, .int .u8 p.2.k, .int .u16 p.2.s, .slice p.2.a p.2.l p.2.c, .bool p.1.br]
def cellsQ : List (Rl × Nd) → List Value | [] => [] | p :: l => cellsP p ++ cellsQ l
theorem cellsQ_app (a b : List (Rl × Nd)) : cellsQ (a ++ b) = cellsQ a ++ cellsQ b := by
  induction a with
  | nil => rfl
  | cons r a ih => simp [cellsQ, ih]
theorem cellsQ_one (p : Rl × Nd) : cellsQ [p] = cellsP p := by simp [cellsQ]
theorem cellsQ_len : ∀ l : List (Rl × Nd), (cellsQ l).length = l.length * 5
  | [] => rfl
  | r :: l => by simp [cellsQ, cellsP, cellsQ_len l]; omega
theorem cellsQ_at : ∀ (l : List (Rl × Nd)) (i : Nat) (p : Rl × Nd), l[i]? = some p → ∀ j, j < 5 → (cellsQ l)[i * 5 + j]? = (cellsP p)[j]?
  | [], i, p, h, _, _ => by simp at h
  | r :: l, 0, p, h, j, hj => by
    simp at h
    subst h
    show (cellsP r ++ cellsQ l)[0 * 5 + j]? = _
    rw [List.getElem?_append_left (by simp [cellsP]; omega)]
    congr 1
    omega
  | r :: l, i + 1, p, h, j, hj => by
    have ih := cellsQ_at l i p (by simpa using h) j hj
    show (cellsP r ++ cellsQ l)[(i + 1) * 5 + j]? = _
    rw [List.getElem?_append_right (by simp [cellsP]; omega), ← ih]
    congr 1
    simp [cellsP]
    omega
theorem cellsP_one' (p : Rl × Nd) : ∀ u ∈ cellsP p, u.oneCell' = true := by
  intro u h
  simp only [cellsP, List.mem_cons, List.not_mem_nil, or_false] at h
  rcases h with rfl | rfl | rfl | rfl | rfl <;> rfl
/-- A list of rules that is being made. -/
def Mkr (base : Nat) (w : World) (ps : List (Rl × Nd)) (v : Value) : Prop :=
  w.ownsRow base 47 5 v ps.length (cellsQ ps) ∧ ∀ p ∈ ps, p.1.nm.size ≤ 2000 ∧ ∃ S, Tr w p.1.n p.1.t p.2 S ∧ ∀ b ∈ S, base ≤ b ∧ b < w.heap.size ∧ v.ownBlock ≠ some b
theorem mkr_nil (base : Nat) (w : World) : Mkr base w [] (.slice none 0 0) := ⟨World.ownsRow_nil _ _ _ _, fun p h => by cases h⟩
theorem own_kept {base n size : Nat} {w w' : World} {e : TypeId} {v : Value} {xs : List Value} (h1 : w.ownsRow base e size v n xs) (hk : Keep base w w') : w'.ownsRow base e size v n xs := by
  have hlt := h1.lt
  refine ⟨h1.1, ?_⟩
  rcases h1.2 with h0 | ⟨g, cap, cur, hv, hg, hcur, q1, q2, q3, q4⟩
  · exact .inl h0
  · exact .inr ⟨g, cap, cur, hv, hg, (hk.2 g hg (hlt g (by rw [hv]; rfl)).2).trans hcur, q1, q2, q3, q4⟩
theorem mkr_kept {base : Nat} {w w' : World} {ps : List (Rl × Nd)} {v : Value} (h : Mkr base w ps v) (hk : Keep base w w') : Mkr base w' ps v := by
  refine ⟨own_kept h.1 hk, fun p hp => ?_⟩
  obtain ⟨h2, S, hT, hS⟩ := h.2 p hp
  exact ⟨h2, S, tr_keep _ _ _ _ (fun b hb => hk.2 b (hS b hb).1 (hS b hb).2.1) hT, fun b hb => ⟨(hS b hb).1, Nat.lt_of_lt_of_le (hS b hb).2.1 hk.1, (hS b hb).2.2⟩⟩
theorem mkr_app {base : Nat} {w w3 : World} {ps : List (Rl × Nd)} {v : Value} (h : Mkr base w ps v) {x : Rl} {y : Nd} {S : List Nat} (hn : x.nm.size ≤ 2000) (hT : Tr w x.n x.t y S) (hS : ∀ b ∈ S, base ≤ b ∧ v.ownBlock ≠ some b) {g cap : Nat}
    (hown : w3.ownsRow base 47 5 (.slice (some ⟨g, 0, none⟩) (ps.length + 1) cap) (ps.length + 1) (cellsQ ps ++ cellsP (x, y))) (hgrow : w.grownBy w3 v.ownBlock) (hat : v.ownBlock = some g ∨ g = w.heap.size) :
    Mkr base w3 (ps ++ [(x, y)]) (.slice (some ⟨g, 0, none⟩) (ps.length + 1) cap) := by
  refine ⟨by rw [cellsQ_app, cellsQ_one, List.length_append]; exact hown, ?_⟩
  have hnew : ∀ (n : Nat) (t : Ex n) (y : Nd) (S : List Nat), Tr w n t y S → (∀ b ∈ S, base ≤ b ∧ v.ownBlock ≠ some b) → Tr w3 n t y S ∧ ∀ b ∈ S, base ≤ b ∧ b < w3.heap.size ∧ (Value.slice (some ⟨g, 0, none⟩) (ps.length + 1) cap).ownBlock ≠ some b := by
    intro n t y S hT hS
    have hlt := tr_lt n t y S hT
    refine ⟨tr_keep n t y S (fun b hb => hgrow.block b (hlt b hb) (fun e => (hS b hb).2 e.symm)) hT, fun b hb => ⟨(hS b hb).1, Nat.lt_of_lt_of_le (hlt b hb) hgrow.size, fun e => ?_⟩⟩
    have e' : g = b := by simpa [Value.ownBlock] using e
    subst e'
    rcases hat with hat | hat
    · exact (hS g hb).2 hat
    · have := hlt g hb; omega
  intro p hp
  rcases List.mem_append.1 hp with hp | hp
  · obtain ⟨h2, S', hT', hS'⟩ := h.2 p hp
    obtain ⟨a1, a2⟩ := hnew _ _ _ _ hT' (fun b hb => ⟨(hS' b hb).1, (hS' b hb).2.2⟩)
    exact ⟨h2, S', a1, a2⟩
  · have e : p = (x, y) := by simpa using hp
    subst e
    obtain ⟨a1, a2⟩ := hnew _ _ _ _ hT hS
    exact ⟨hn, S, a1, a2⟩
theorem mkr_rs {base : Nat} {w : World} {ps : List (Rl × Nd)} {v : Value} (h : Mkr base w ps v) : ∃ a cap, v = .slice a ps.length cap ∧ ps.length ≤ cap ∧ cap ≤ maxLen ∧ Rs w a ps.length (ps.map (·.1)) := by
  rcases h.1.2 with ⟨rfl, h0⟩ | ⟨g, cap, cur, rfl, hg, hcur, q1, q2, q3, q4⟩
  · rw [h0]
    exact ⟨none, 0, rfl, Nat.le_refl _, by unfold maxLen; omega, by simpa using h0, .inl rfl⟩
  · refine ⟨_, cap, rfl, q1, q2, by simp, ?_⟩
    by_cases hz : ps.length = 0
    · exact .inl hz
    · refine .inr ⟨g, 0, rfl, fun i x hx => ?_⟩
      rw [List.getElem?_map] at hx
      obtain ⟨p, hp, rfl⟩ := Option.map_eq_some_iff.1 hx
      have hi : i < ps.length := (List.getElem?_eq_some_iff.1 hp).1
      have hc : ∀ j, j < 5 → ∀ u, (cellsP p)[j]? = some u → w.cell? ⟨g, 0 + i * 5 + j, none⟩ = some u := fun j hj u hu => by
        rw [← cellsQ_at ps i p hp j hj, ← q4] at hu
        rw [cell_of_row w g (0 + i * 5 + j) cur 47 (0, 0) hcur]
        rw [List.getElem?_take_of_lt (by omega)] at hu
        rw [← hu]
        simp
      obtain ⟨h2, S, hT, hS⟩ := h.2 p (List.mem_of_getElem? hp)
      exact ⟨p.2.k, p.2.s, p.2.a, p.2.l, p.2.c, hc 0 (by omega) _ rfl, hc 1 (by omega) _ rfl, hc 2 (by omega) _ rfl, hc 3 (by omega) _ rfl, hc 4 (by omega) _ rfl, by unfold maxLen; omega, tr_rx _ _ _ _ hT⟩

/-- The rules of lines; the line of a fault. -/
def readL : List Rl → Nat → List ByteArray → Option (List Rl) × Nat
  | acc, _, [] => (some acc, 0)
  | acc, i, L :: r => match ruleF L with
    | none => (none, i + 1)
    | some x => if umayB acc x = true then readL (acc ++ [x]) (i + 1) r else (none, i + 1)
theorem readL_good : ∀ (ls : List ByteArray) (acc : List Rl) (i n : Nat) (l : List Rl), readL acc i ls = (some l, n) → n = 0 ∧ ∃ r, l = acc ++ r ∧ r.length = ls.length ∧ goodL acc r = true
  | [], acc, i, n, l, h => by
    cases h
    exact ⟨rfl, [], by simp, rfl, rfl⟩
  | L :: ls, acc, i, n, l, h => by
    have h' : (match ruleF L with
      | none => (none, i + 1)
      | some x => if umayB acc x = true then readL (acc ++ [x]) (i + 1) ls else (none, i + 1)) = (some l, n) := h
    cases hR : ruleF L with
    | none => rw [hR] at h'; cases h'
    | some x =>
      rw [hR] at h'
      have h2 : (if umayB acc x = true then readL (acc ++ [x]) (i + 1) ls else (none, i + 1)) = (some l, n) := h'
      by_cases hm : umayB acc x = true
      · rw [if_pos hm] at h2
        obtain ⟨e1, r, e2, e3, e4⟩ := readL_good ls _ _ _ _ h2
        exact ⟨e1, x :: r, by rw [e2]; simp, by simp [e3], by show (umayB acc x && goodL (acc ++ [x]) r) = true; rw [hm, e4]; rfl⟩
      · rw [if_neg hm] at h2; cases h2
theorem split_le (sep : ByteArray) : ∀ (k : Nat) (s : ByteArray), ∀ x ∈ Lib.splitB sep 0 k s, x.size ≤ s.size
  | 0, s, x, h => by
    have e : x = s := by simpa [Lib.splitB] using h
    rw [e]
    exact Nat.le_refl _
  | k + 1, s, x, h => by
    unfold Lib.splitB at h
    split at h
    · have e : x = s := by simpa using h
      rw [e]
      exact Nat.le_refl _
    · rcases List.mem_cons.1 h with rfl | h
      · simp; omega
      · have := split_le sep k _ x h
        simp at this
        omega
def nlB : ByteArray := { data := #[10] }
def linesB (s : ByteArray) : List ByteArray := Lib.splitB nlB 0 (Lib.countB s nlB) s
theorem lines_len (s : ByteArray) : (linesB s).length = Lib.countB s nlB + 1 := Lib.splitB_all nlB (by decide) 0 _ s rfl
theorem count_nl (s : ByteArray) : Lib.countByte s.data.toList 10 = Lib.countB s nlB := (Lib.count_one 10 s.data.toList).symm
/-- What Parse tells of a text that isn't too long. -/
def parseF (s : ByteArray) : Option (List Rl) × Nat × Nat := if 16 ≤ Lib.countB s nlB then (none, 0, 1) else match readL [] 0 (linesB s) with
  | (none, n) => (none, n, 6)
  | (some l, _) => (some l, 0, 0)
/-- What Parse answers. -/
def OutP (w : World) (R : Option (List Rl) × Nat × Nat) (e : Ending) (w' : World) : Prop := match R with
  | (none, n, f) => e = .returned (.tuple #[.slice none 0 0, .int .i64 n, .int .i64 f]) ∧ Below w.heap.size w w'
  | (some l, n, f) => ∃ a len cap, e = .returned (.tuple #[.slice a len cap, .int .i64 n, .int .i64 f]) ∧ len ≤ cap ∧ cap ≤ maxLen ∧ Rs w' a len l ∧ Below w.heap.size w w'
end Go.Proofs.YtccaknabpnpjaaaGreatDoor.A

/- Parse, walked. -/
namespace Go.Proofs.YtccaknabpnpjaaaGreatDoor.A
open Go.RowKit
set_option linter.unusedVariables false

theorem info47 : (Tryz.prog.info? 47).map (fun i => (i.zero, i.size, i.bytes)) = some (some (.agg #[.string { data := #[] }, .int .u8 0, .int .u16 0, .slice none 0 0, .bool false]), 5, 56) := by kernel_rfl
theorem one_newQ (w : World) (x : Rl) (y : Nd) (t : TypeId) : ∀ j u, (cellsP (x, y))[j]? = some u → (w.alloc (.cells #[.string x.nm, .int .u8 y.k, .int .u16 y.s, .slice y.a y.l y.c, .bool x.br] t)).cell? ((⟨w.heap.size, 0, none⟩ : Addr).add j) = some u := by
  intro j u hj
  match j with
  | 0 => simp [cellsP] at hj; subst hj; simp [Addr.add]
  | 1 => simp [cellsP] at hj; subst hj; simp [Addr.add]
  | 2 => simp [cellsP] at hj; subst hj; simp [Addr.add]
  | 3 => simp [cellsP] at hj; subst hj; simp [Addr.add]
  | 4 => simp [cellsP] at hj; subst hj; simp [Addr.add]
  | j + 5 => simp [cellsP] at hj

set_option maxRecDepth 100000 in
set_option maxHeartbeats 12800000 in
theorem parse_any (s : ByteArray) (m : Int) (w : World) (hs : s.size ≤ 2000) (hm : w.cell? ⟨0, 0, none⟩ = some (.int .i64 m)) :
    Calls Tryz.prog 13 #[.string s] w fun e w' => OutP w (parseF s) e w' := by
  obtain ⟨i0, hi0, hz0, hz1, hz2⟩ := info_parts info47
  have hs' : ¬ (2000 : Int) < (s.size : Int) := by omega
  obtain ⟨cn, hcn⟩ : ∃ cn, Lib.countB s nlB = cn := ⟨_, rfl⟩
  have HCN := hide hcn
  have HC1 := hide (show ∀ u : World, Calls Tryz.prog 32 #[.string s, .string { data := #[10] }] u fun e w' => e = .returned (.int .i64 (cn : Nat)) ∧ w' = u from fun u => by
    refine (Tryz.strings_Count_one s 10 u).mono ?_
    rintro e w1 ⟨rfl, rfl⟩
    rw [count_nl, hcn]
    exact ⟨rfl, rfl⟩)
  have HF := hide (show parseF s = if 16 ≤ cn then (none, 0, 1) else match readL [] 0 (linesB s) with
    | (none, n) => (none, n, 6)
    | (some l, _) => (some l, 0, 0) by rw [← hcn]; rfl)
  have HSP := hide (show Calls Tryz.prog 33 #[.string s, .string { data := #[10] }] w fun e w' => e = .returned (.slice (some ⟨w.heap.size, 0, none⟩) (cn + 1) (cn + 1)) ∧ w' = w.alloc (.cells ((linesB s).map Value.string).toArray 9) from by
    have := Tryz.strings_Split s nlB m w (by omega) hm (by decide)
    rw [hcn] at this
    have e : Lib.splitB nlB 0 cn s = linesB s := by rw [← hcn]; rfl
    rw [e] at this
    exact this)
  have HLL := hide (show (linesB s).length = cn + 1 by rw [← hcn]; exact lines_len s)
  have HLZ := hide (show ∀ x ∈ linesB s, x.size ≤ 2000 from fun x hx => Nat.le_trans (split_le nlB _ s x hx) hs)
  clear hcn hm
  by_cases h16 : 16 ≤ cn
  · have h16' : (16 : Int) ≤ (cn : Int) := by omega
    have HFE := hide (show parseF s = (none, 0, 1) by rw [HF.out, if_pos h16])
    clear HF h16
    go_enter Tryz.func13, Tryz.ntmps13
    go_wp2_with fail
    refine (HC1.out w).mono ?_
    rintro e w1 ⟨rfl, hw⟩
    subst hw
    go_wp2
    go_ret3
    rw [HFE.out]
    exact ⟨rfl, Below.refl _ _⟩
  · have h16' : ¬ (16 : Int) ≤ (cn : Int) := by omega
    obtain ⟨R, hR⟩ : ∃ R, readL [] 0 (linesB s) = R := ⟨_, rfl⟩
    have HRR := hide hR
    have HFE := hide (show parseF s = match R.1 with
      | none => (none, R.2, 6)
      | some l => (some l, 0, 0) by
      rw [HF.out, if_neg h16, hR]
      obtain ⟨o, n⟩ := R
      cases o <;> rfl)
    clear HF hR
    generalize linesB s = ls at *
    have hcn : cn < 16 := by omega
    clear h16
    go_enter Tryz.func13, Tryz.ntmps13
    go_wp2_with fail
    refine (HC1.out w).mono ?_
    rintro e w0 ⟨rfl, hw⟩
    subst hw
    go_wp2_with fail
    refine HSP.out.mono ?_
    rintro e w1 ⟨rfl, hw1⟩
    have HB1 := hide (show Below w0.heap.size w0 w1 by rw [hw1]; exact (Below.refl w0.heap.size w0).alloc (Nat.le_refl _) _)
    have HRW := hide (show w1.heap[w0.heap.size]? = some (.cells (ls.map Value.string).toArray 9 (0, 0)) by rw [hw1]; exact heap_alloc_last w0 _)
    have HZ1 := hide (show w1.heap.size = w0.heap.size + 1 by rw [hw1]; simp)
    clear hw1 HSP
    obtain ⟨z, hz⟩ : ∃ z, w0.heap.size = z := ⟨_, rfl⟩
    rw [hz] at HRW HZ1 HB1 ⊢
    have HQ := hide hz
    clear hz
    go_wp2_with fail
    go_loopw [5, 6, 7, 8, 9, 21] (fun out _ _ _ _ u wr => ∃ (i : Nat) (ps : List (Rl × Nd)), i ≤ cn + 1 ∧ u = .int .i64 i ∧ ps.length = i ∧ Mkr (z + 1) wr ps out ∧ readL (ps.map (·.1)) i (ls.drop i) = R ∧ Below (z + 1) w1 wr) (fun _ _ _ _ _ u _ => cn + 1 - (intOf u).toNat)
    case atStart => exact ⟨0, [], Nat.zero_le _, rfl, rfl, mkr_nil _ _, by simpa using HRR.out, Below.refl _ _⟩
    case round =>
      obtain ⟨i, ps, hi, rfl, hps, hmk, hrd, hb⟩ := hrel
      by_cases hlt : i < cn + 1
      · obtain ⟨L, hL⟩ : ∃ L, ls[i]? = some L := ⟨ls[i]'(by rw [HLL.out]; exact hlt), by simp⟩
        have hLs := HLZ.out L (List.mem_of_getElem? hL)
        have HRD := hide (show (match ruleF L with
          | none => (none, i + 1)
          | some x => if umayB (ps.map (·.1)) x = true then readL (ps.map (·.1) ++ [x]) (i + 1) (ls.drop (i + 1)) else (none, i + 1)) = R from by rw [← hrd, drop_at hL]; rfl)
        have hrow := (hb.block z (by omega)).trans HRW.out
        have c0 : wr.cell? ⟨z, i, none⟩ = some (.string L) := by
          rw [cell_of_row wr z i _ _ _ hrow]
          simp [hL]
        have i3 : (0 : Int) ≤ (i : Int) := by omega
        have i4 : (i : Int) < ((cn + 1 : Nat) : Int) := by omega
        have i5 : (i : Int) < (cn : Int) + 1 := by omega
        have HMK := hide hmk
        have HBW := hide hb
        have HPS := hide hps
        have HLS := hide hLs
        clear hrd hL hrow hmk hb hLs hps
        go_wp2_with fail
        refine (readRule_any L wr HLS.out).mono ?_
        intro e w2 hout
        cases hR : ruleF L with
        | none =>
          rw [hR] at hout HRD
          obtain ⟨rfl, hb2⟩ := hout
          have HRE := hide (show R = (none, i + 1) from HRD.out.symm)
          have HB2 := hide ((HBW.out.trans (hb2.mono (by have := HBW.out.size; have := HZ1.out; omega))))
          clear hR HRD hb2
          have HPF := hide (show parseF s = (none, i + 1, 6) by rw [HFE.out, HRE.out])
          have HB3 := hide (show Below w0.heap.size w0 (w2.alloc (.cells #[.string { data := #[] }, .int .u8 0, .int .u16 0, .slice none 0 0, .bool false] 47)) from by
            rw [HQ.out]
            exact (HB1.out.trans (HB2.out.mono (by omega))).alloc (by have := HB2.out.size; have := HZ1.out; omega) _)
          go_wp2
          go_ret3
          rw [HPF.out]
          exact ⟨rfl, HB3.out⟩
        | some x =>
          rw [hR] at hout HRD
          obtain ⟨y, S, rfl, hn, hT, hS, hb2⟩ := hout
          have hbA := hb2.alloc hb2.size (.cells #[.string x.nm, .int .u8 y.k, .int .u16 y.s, .slice y.a y.l y.c, .bool x.br] 47)
          have hwz : z + 1 ≤ wr.heap.size := by have := HBW.out.size; have := HZ1.out; omega
          have HMA := hide (mkr_kept HMK.out (keep_below (B := z + 1) hbA))
          have HTA := hide (tr_alloc hT (.cells #[.string x.nm, .int .u8 y.k, .int .u16 y.s, .slice y.a y.l y.c, .bool x.br] 47))
          have HSA := hide (st5_new w2 x.nm y.k y.s y.a y.l y.c x.br)
          have HBA := hide (HBW.out.trans (hbA.mono hwz))
          have HVB := hide (show ∀ b ∈ S, z + 1 ≤ b ∧ u5.ownBlock ≠ some b from fun b hb => by
            have h1 := hS b hb
            refine ⟨by omega, fun e => ?_⟩
            have := (HMK.out.1.lt b e).2
            omega)
          have HRD2 := hide (show (if umayB (ps.map (·.1)) x = true then readL (ps.map (·.1) ++ [x]) (i + 1) (ls.drop (i + 1)) else (none, i + 1)) = R from HRD.out)
          have HNM := hide hn
          obtain ⟨a, cap, hv, hc1, hc2, hrs⟩ := mkr_rs HMA.out
          have HRS := hide hrs
          have HRU := hide (show Ru (w2.alloc (.cells #[.string x.nm, .int .u8 y.k, .int .u16 y.s, .slice y.a y.l y.c, .bool x.br] 47)) x (.agg #[.string x.nm, .int .u8 y.k, .int .u16 y.s, .slice y.a y.l y.c, .bool x.br]) from ⟨y.k, y.s, y.a, y.l, y.c, rfl, by unfold maxLen; omega, tr_rx _ _ _ _ HTA.out⟩)
          rw [HPS.out] at hv hc1 HRS
          have HSZ := hide (show z + 1 ≤ w2.heap.size by have := hb2.size; omega)
          clear hR HRD hb2 hbA hT hS hn hrs HMK HBW c0
          subst hv
          go_wp2_with fail
          generalize w2.alloc (.cells #[.string x.nm, .int .u8 y.k, .int .u16 y.s, .slice y.a y.l y.c, .bool x.br] 47) = V at *
          generalize w2.heap.size = p at *
          refine (may_any a i cap (ps.map (·.1)) x _ V (by omega) HRS.out HRU.out).mono ?_
          rintro e w3 ⟨rfl, hb3⟩
          have hpV : p < V.heap.size := st5_lt HSA.out
          have HB3 := hide (HBA.out.trans (hb3.mono (by have := HSZ.out; omega)))
          cases hmay : umayB (ps.map (·.1)) x with
          | false =>
            rw [hmay] at HRD2
            have HRE := hide (show R = (none, i + 1) from HRD2.out.symm)
            have HPF := hide (show parseF s = (none, i + 1, 6) by rw [HFE.out, HRE.out])
            have HB4 := hide (show Below w0.heap.size w0 w3 from by
              rw [HQ.out]
              exact HB1.out.trans (HB3.out.mono (by omega)))
            clear hmay HRD2 hb3
            go_wp2
            go_ret3
            rw [HPF.out]
            exact ⟨rfl, HB4.out⟩
          | true =>
            rw [hmay] at HRD2
            have HRD3 := hide (show readL (ps.map (·.1) ++ [x]) (i + 1) (ls.drop (i + 1)) = R from HRD2.out)
            have hM3 := mkr_kept HMA.out (keep_below (B := z + 1) hb3)
            have hM4 := mkr_kept hM3 (keep_below (B := z + 1) ((Below.refl w3.heap.size w3).alloc (Nat.le_refl _) (.cells #[.string x.nm, .int .u8 y.k, .int .u16 y.s, .slice y.a y.l y.c, .bool x.br] 47)))
            have HT4 := hide (tr_alloc (tr_below HTA.out hb3) (.cells #[.string x.nm, .int .u8 y.k, .int .u16 y.s, .slice y.a y.l y.c, .bool x.br] 47))
            obtain ⟨q0, q1, q2, q3, q4, -⟩ := st5_cells (st5_below HSA.out hb3 hpV)
            have HOW := hide (show (w3.alloc (.cells #[.string x.nm, .int .u8 y.k, .int .u16 y.s, .slice y.a y.l y.c, .bool x.br] 47)).ownsRow (z + 1) 47 5 (.slice a i cap) i (cellsQ ps) from by
              have ho := hM4.1
              rw [HPS.out] at ho
              exact ho)
            have HM4 := hide hM4
            have HNW := hide (one_newQ w3 x y 47)
            have HBW := hide (show z + 1 ≤ (w3.alloc (.cells #[.string x.nm, .int .u8 y.k, .int .u16 y.s, .slice y.a y.l y.c, .bool x.br] 47)).heap.size by have := hb3.size; have := HSZ.out; simp; omega)
            have HZ4 := hide (show (w3.alloc (.cells #[.string x.nm, .int .u8 y.k, .int .u16 y.s, .slice y.a y.l y.c, .bool x.br] 47)).heap.size = w3.heap.size + 1 by simp)
            have HB4 := hide (HB3.out.alloc (by have := hb3.size; have := HSZ.out; omega) (.cells #[.string x.nm, .int .u8 y.k, .int .u16 y.s, .slice y.a y.l y.c, .bool x.br] 47))
            clear hmay HRD2 hM3 hM4 hb3 HMA HTA HSA HBA HRS HRU
            go_wp2_with (at_builtin; refine wpList_append_lies _ rfl _ _ 43 rfl (z + 1) 47 i0 (.agg #[.string { data := #[] }, .int .u8 0, .int .u16 0, .slice none 0 0, .bool false]) 5 56 Tryz.underlying43 hi0 hz0 hz1 hz2 rfl (by omega) (.slice a i cap) i (cellsQ ps) rfl HOW.out ⟨w3.heap.size, 0, none⟩ 1 1 (cellsP (x, y)) rfl rfl HNW.out (cellsP_one' (x, y)) (by omega) (by unfold maxLen; omega) (by omega) HBW.out (w3.heap.size + 1) (by simp) ?_)
            intro g cap' w4 hown4 hgrow4 hat4 hlt4
            have HM5 := hide (mkr_app (x := x) (y := y) (S := S) (g := g) (cap := cap') HM4.out HNM.out HT4.out HVB.out (by rw [HPS.out]; exact hown4) hgrow4 (by rw [HZ4.out]; exact hat4))
            have HB5 := hide (HB4.out.grown hgrow4 HBW.out (fun k hk => (HM4.out.1.lt k hk).1))
            rw [HPS.out] at HM5
            clear hown4 hgrow4 hat4 hlt4 HOW HNW HBW HZ4 HB4 HM4 HT4 q0 q1 q2 q3 q4
            go_wp2
            go_roundw
            case rel => exact ⟨i + 1, ps ++ [(x, y)], by omega, by go_num, by have := HPS.out; simp; omega, HM5.out, by simpa using HRD3.out, HB5.out⟩
            case measure => simp [intOf]; omega
      · have e : i = cn + 1 := by omega
        subst e
        have hd : ls.drop (cn + 1) = [] := List.drop_of_length_le (by rw [HLL.out]; exact Nat.le_refl _)
        rw [hd] at hrd
        have HRE := hide (show R = (some (ps.map (·.1)), 0) from hrd.symm)
        obtain ⟨a, cap, rfl, hc1, hc2, hrs⟩ := mkr_rs hmk
        have HPF := hide (show parseF s = (some (ps.map (·.1)), 0, 0) by rw [HFE.out, HRE.out])
        have HB4 := hide (show Below w0.heap.size w0 wr from by
          rw [HQ.out]
          exact HB1.out.trans (hb.mono (by omega)))
        have HRS := hide hrs
        have hcc : cap ≤ maxLen := hc2
        clear hrd hd hmk hb hrs
        go_wp2
        go_ret3
        rw [HPF.out]
        exact ⟨a, ps.length, cap, rfl, hc1, hcc, HRS.out, HB4.out⟩
end Go.Proofs.YtccaknabpnpjaaaGreatDoor.A

/- The machine of one small grammar, as it is told of a text. -/
namespace Go.Proofs.YtccaknabpnpjaaaGreatDoor.A
open Go.RowKit
set_option linter.unusedVariables false

def tx7 : ByteArray := { data := #[97, 58, 32, 67, 40, 72, 67, 41, 42] }
def fs7 : List (List Int) := [[1], [2], [], [4], [5, 11], [6], [], [8], [], [10], [5, 11], [12], []]
def ss7 : List Nat := [0, 0, 2, 0, 0, 0, 16, 0, 2, 0, 0, 0, 0]
def ts7 : List Int := [0, 0, 3, 0, 0, 0, 7, 0, 9, 0, 0, 0, 0]
def rs7 : List Int := [-1, -1, -1, -1, -1, -1, -1, -1, -1, -1, -1, -1, 0]
def good7 : Bool := match parseF tx7 with
  | (some [x0], 0, 0) => mayB [x0.t] && decide (posE 1 [x0.t] 1 = 13) && decide (en ((1 : Nat), x0.t) = 12) && decide ((List.range 13).map (layA [x0.t] 1 mc0).fr = fs7) && decide ((List.range 13).map (layA [x0.t] 1 mc0).st = ss7) && decide ((List.range 13).map (layA [x0.t] 1 mc0).to = ts7)
  | _ => false
set_option maxRecDepth 1000000 in
theorem good7_ok : good7 = true := by decide +kernel
theorem tx7_rule : ∃ x0, parseF tx7 = (some [x0], 0, 0) ∧ mayB [x0.t] = true ∧ posE 1 [x0.t] 1 = 13 ∧ en ((1 : Nat), x0.t) = 12 ∧ (List.range 13).map (layA [x0.t] 1 mc0).fr = fs7 ∧ (List.range 13).map (layA [x0.t] 1 mc0).st = ss7 ∧ (List.range 13).map (layA [x0.t] 1 mc0).to = ts7 := by
  have h := good7_ok
  unfold good7 at h
  split at h
  · rename_i x0 heq
    simp only [Bool.and_eq_true, decide_eq_true_eq] at h
    exact ⟨x0, heq, h.1.1.1.1.1, h.1.1.1.1.2, h.1.1.1.2, h.1.1.2, h.1.2, h.2⟩
  · cases h
theorem rs7_is {n : Nat} {x : Ex n} (h : en ((1 : Nat), x) = 12) : RsI [x] 1 rs7 := fun i r hr => by
  have hi : i < 13 := (List.getElem?_eq_some_iff.1 hr).1
  by_cases e : i = 12
  · subst e
    left
    refine ⟨0, (1, x), by omega, rfl, h.symm, ?_⟩
    have : (0 : Int) = r := by simpa [rs7] using hr
    rw [← this]; rfl
  · right
    refine ⟨fun m p hm hp => ?_, ?_⟩
    · obtain rfl : m = 0 := by omega
      have : ((1 : Nat), x) = p := by simpa [layE] using hp
      rw [← this, h]; exact e
    · have key : ∀ i : Nat, i < 13 → i ≠ 12 → rs7[i]? = some (-1) := by decide
      rw [key i hi e] at hr
      exact (Option.some.inj hr).symm

def A7 : Nat → List Nat
  | 0 => [0, 1, 2]
  | 1 => [3, 4, 5, 6, 11, 12]
  | 2 => [7, 8]
  | _ => [5, 6, 9, 10, 11, 12]
def L7 (i : Nat) : List Int := lstL (fun j => (A7 i).contains j) 13
def ordT (i c : Nat) : List Nat := if c = 1 then (if i = 0 then [3, 4, 5, 11, 6, 12] else if i = 2 then [9, 10, 5, 11, 6, 12] else []) else if c = 4 then (if i = 1 ∨ i = 3 then [7, 8] else []) else []
theorem chk7 : ∀ i : Nat, i < 4 → ∀ c : Nat, c < 16 → chkB fs7 13 (stpB ss7 ts7 (c : Int) (fun j => (A7 i).contains j) 13) (ordT i c) = true := by decide +kernel
theorem chk0 : chkB fs7 13 (tblB [0] 1) [0, 1, 2] = true := by decide +kernel
def trT (s : List Int) (c : Nat) : List Int :=
  if s = L7 0 then lstL (fun j => (ordT 0 c).contains j) 13 else if s = L7 1 then lstL (fun j => (ordT 1 c).contains j) 13 else if s = L7 2 then lstL (fun j => (ordT 2 c).contains j) 13 else lstL (fun j => (ordT 3 c).contains j) 13
theorem tr7 {tr : List Int → Nat → List Int} (h : TrS fs7 ss7 ts7 13 tr) (i : Nat) (hi : i < 4) (c : Nat) (hc : c < 16) : tr (L7 i) c = lstL (fun j => (ordT i c).contains j) 13 := by
  obtain ⟨g, h1, h2⟩ := h (fun j => (A7 i).contains j) c hc
  show tr (lstL _ 13) c = _
  rw [h2]
  exact lst_congr (isCl_one h1 (chk_is (chk7 i hi c hc)))
theorem trT_at : ∀ i : Nat, i < 4 → ∀ c : Nat, c < 16 → trT (L7 i) c = lstL (fun j => (ordT i c).contains j) 13 := by decide +kernel
theorem trT_in : ∀ i : Nat, i < 4 → ∀ c : Nat, c < 16 → trT (L7 i) c = [] ∨ trT (L7 i) c = L7 0 ∨ trT (L7 i) c = L7 1 ∨ trT (L7 i) c = L7 2 ∨ trT (L7 i) c = L7 3 := by decide +kernel
def nx7 : List (List Int) := [[-1, 1, -1, -1, -1, -1, -1, -1, -1, -1, -1, -1, -1, -1, -1, -1], [-1, -1, -1, -1, 2, -1, -1, -1, -1, -1, -1, -1, -1, -1, -1, -1], [-1, 3, -1, -1, -1, -1, -1, -1, -1, -1, -1, -1, -1, -1, -1, -1], [-1, -1, -1, -1, 2, -1, -1, -1, -1, -1, -1, -1, -1, -1, -1, -1]]
def ru7 : List Int := [-1, 0, -1, 0]
theorem stT : (stF trT (lstR rs7) (L7 0) 4) = ([L7 0, L7 1, L7 2, L7 3], nx7, ru7) := by decide +kernel
theorem st7 {tr : List Int → Nat → List Int} (h : TrS fs7 ss7 ts7 13 tr) : stF tr (lstR rs7) (L7 0) 201 = ([L7 0, L7 1, L7 2, L7 3], nx7, ru7) := by
  have e := stF_congr (tr := tr) (tr' := trT) (ls := lstR rs7) (ls' := lstR rs7) (start := L7 0) (fun s => ∃ i, i < 4 ∧ s = L7 i) ⟨0, by omega, rfl⟩ (fun s ⟨i, hi, e⟩ c hc => by
    subst e
    refine ⟨by rw [tr7 h i hi c hc, trT_at i hi c hc], fun hne => ?_⟩
    rcases trT_in i hi c hc with q | q | q | q | q
    · exact absurd q hne
    · exact ⟨0, by omega, q⟩
    · exact ⟨1, by omega, q⟩
    · exact ⟨2, by omega, q⟩
    · exact ⟨3, by omega, q⟩) (fun _ _ => rfl)
  rw [st_end (k := 4) (by rw [e 4, stT]; rfl) (by omega), e 4, stT]
theorem outD_small {w : World} {σ : List (List Int) × List (List Int) × List Int} {e : Ending} {w' : World} (hs : σ.1.length ≤ 200) : OutD w σ e w' → ∃ a0 a1 c0 c1, e = .returned (.tuple #[.agg #[.slice a0 σ.2.1.length c0, .slice a1 σ.2.2.length c1], .int .i64 0]) ∧ Dr w' a0 σ.2.1 ∧ Wd w' a1 σ.2.2 ∧ Below w.heap.size w w' := by
  unfold OutD
  rw [if_neg (by omega)]
  exact id
theorem out7 {tr : List Int → Nat → List Int} (h : TrS fs7 ss7 ts7 13 tr) {w : World} {e : Ending} {w' : World} : OutD w (stF tr (lstR rs7) (lstL (fun j => [0, 1, 2].contains j) 13) 201) e w' → ∃ a0 a1 c0 c1, e = .returned (.tuple #[.agg #[.slice a0 4 c0, .slice a1 4 c1], .int .i64 0]) ∧ Dm w' a0 a1 4 4 nx7 ru7 ∧ Below w.heap.size w w' := by
  rw [show lstL (fun j => [0, 1, 2].contains j) 13 = L7 0 from rfl, st7 h]
  refine fun h => ?_
  obtain ⟨a0, a1, c0, c1, h1, h2, h3, h4⟩ := outD_small (by decide) h
  exact ⟨a0, a1, c0, c1, h1, ⟨rfl, rfl, h2, h3, by decide, by decide⟩, h4⟩
theorem long7 : longR nx7 ru7 [1, 4, 1, 4] 0 = (3, 0) := by decide +kernel
theorem right7 : rightD nx7 ru7 = true := by decide +kernel
theorem mat7 : matR nx7 ru7 [1, 4, 1] = 0 := by decide +kernel
theorem run7 : runR nx7 ru7 [4] = -1 := by decide +kernel
theorem four_wd (w : World) (x y z u : Int) : Wd (w.alloc (.cells #[.int .i64 x, .int .i64 y, .int .i64 z, .int .i64 u] 3)) (some ⟨w.heap.size, 0, none⟩) [x, y, z, u] := fun i c hc => by
  refine ⟨_, 0, rfl, ?_⟩
  rw [Nat.zero_add, cell_of_row _ _ i _ _ _ (heap_alloc_last w _)]
  match i with
  | 0 | 1 | 2 | 3 => simp at hc; subst hc; rfl
  | i + 4 => simp at hc
theorem three_wd (w : World) (x y z : Int) : Wd (w.alloc (.cells #[.int .i64 x, .int .i64 y, .int .i64 z] 3)) (some ⟨w.heap.size, 0, none⟩) [x, y, z] := fun i c hc => by
  refine ⟨_, 0, rfl, ?_⟩
  rw [Nat.zero_add, cell_of_row _ _ i _ _ _ (heap_alloc_last w _)]
  match i with
  | 0 | 1 | 2 => simp at hc; subst hc; rfl
  | i + 3 => simp at hc
theorem one_kids7 (w : World) {n : Nat} {x : Ex n} {k s l c : Nat} {a : Option Addr} (h : Rx w n x (.agg #[.int .u8 k, .int .u16 s, .slice a l c])) : Kids (w.alloc (.cells #[.int .u8 k, .int .u16 s, .slice a l c] 38)) n (some ⟨w.heap.size, 0, none⟩) 1 [x] := exs_kids (fun i y hy => by
  match i with
  | 0 =>
    have e : x = y := by simpa using hy
    subst e
    exact ⟨_, _, _, _, _, rfl, by simp, by simp, by simp, rx_below ((Below.refl _ _).alloc (Nat.le_refl _) _) _ _ _ h⟩
  | i + 1 => simp at hy) rfl

theorem long7_any (b0 b1 a : Option Addr) (d0 d1 : Nat) (w : World) (h : Dm w b0 b1 4 4 nx7 ru7) (hW : Wd w a [1, 4, 1, 4]) : Calls Tryz.prog 12 #[.agg #[.slice b0 4 d0, .slice b1 4 d1], .slice a 4 4, .int .i64 0] w fun e w' => e = .returned (.tuple #[.int .i64 3, .int .i64 0]) ∧ Below w.heap.size w w' := by
  have := dlong_any b0 b1 4 4 d0 d1 nx7 ru7 a 4 4 [1, 4, 1, 4] 0 w h rfl (by omega) (by decide) hW
  rw [long7] at this
  exact this
theorem right7_any (b0 b1 : Option Addr) (d0 d1 : Nat) (w : World) (h : Dm w b0 b1 4 4 nx7 ru7) : Calls Tryz.prog 14 #[.agg #[.slice b0 4 d0, .slice b1 4 d1]] w fun e w' => e = .returned (.bool true) ∧ Below w.heap.size w w' := by
  have := dright_any b0 b1 4 4 d0 d1 nx7 ru7 w rfl rfl h.dr h.wd (by decide) (by decide)
  rw [right7] at this
  exact this
theorem mat7_any (b0 b1 a : Option Addr) (d0 d1 : Nat) (w : World) (h : Dm w b0 b1 4 4 nx7 ru7) (hW : Wd w a [1, 4, 1]) : Calls Tryz.prog 11 #[.agg #[.slice b0 4 d0, .slice b1 4 d1], .slice a 3 3] w fun e w' => e = .returned (.int .i64 0) ∧ Below w.heap.size w w' := by
  have := dmatch_any b0 b1 4 4 d0 d1 nx7 ru7 a 3 3 [1, 4, 1] w h rfl (by decide) hW
  rw [mat7] at this
  exact this
theorem run7_any (b0 b1 a : Option Addr) (d0 d1 : Nat) (w : World) (h : Dm w b0 b1 4 4 nx7 ru7) (hW : Wd w a [4]) : Calls Tryz.prog 15 #[.agg #[.slice b0 4 d0, .slice b1 4 d1], .slice a 1 1] w fun e w' => e = .returned (.int .i64 (-1)) ∧ Below w.heap.size w w' := by
  have := drun_any b0 b1 4 4 d0 d1 nx7 ru7 a 1 1 [4] w h rfl (by decide) hW
  rw [run7] at this
  exact this
end Go.Proofs.YtccaknabpnpjaaaGreatDoor.A
