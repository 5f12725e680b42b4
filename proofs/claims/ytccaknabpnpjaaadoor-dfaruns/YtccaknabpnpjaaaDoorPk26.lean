/- A line's rule. -/
import Derived.Test.YtccaknabpnpjaaaDoorPk25
import Derived.Defers
import Derived.Recover
import Derived.Lib.SplitLaws
namespace Go.Proofs.YtccaknabpnpjaaaDoor.A
open Go.RowKit
set_option linter.unusedVariables false

theorem clone_any (s : ByteArray) (w : World) (hs : s.size ≤ 281474976710656) : Calls Tryd.prog 69 #[.string s] w fun e w' => e = .returned (.string s) ∧ Below w.heap.size w w' := by
  go_enter Tryd.func69, Tryd.ntmps69
  go_wp2_with fail
  refine (Tryd.stringslite_Clone s w hs).mono ?_
  rintro e w1 ⟨rfl, hb⟩
  have HB := hide hb
  clear hb
  go_wp2
  go_ret
  exact ⟨rfl, HB.out⟩
/-- The letters that a line begins with. -/
def nmF (L : ByteArray) : ByteArray := L.extract 0 (smF L)
set_option maxHeartbeats 1600000 in
theorem name_any (q : Nat) (L : ByteArray) (i : Nat) (w : World) (hL : L.size ≤ 2000) (h : Rd w q L i) :
    Calls Tryd.prog 47 #[.pointer (some ⟨q, 0, none⟩)] w fun e w' => e = .returned (.string (nmF L)) ∧ Rd w' q L (smF L) ∧ w.grownBy w' (some q) := by
  obtain ⟨p0, p1, f0, f1⟩ := rd_cells h
  have HR := hide h
  have HN := hide (show L.extract 0 (smF L) = nmF L from rfl)
  have hle := smF_le L
  clear h
  go_enter Tryd.func47, Tryd.ntmps47
  go_wp2_with fail
  refine (smalls_any L w hL).mono ?_
  rintro e w1 ⟨rfl, hw⟩
  subst hw
  obtain ⟨n, hn⟩ : ∃ n, smF L = n := ⟨_, rfl⟩
  have HSN := hide hn
  rw [hn] at hle HN ⊢
  clear hn
  have i1 : (0 : Int) ≤ (n : Int) := by omega
  have i2 : (n : Int) ≤ (L.size : Int) := by omega
  have HRN := hide (rd_set HR.out n)
  have HGN := hide (gb_set w1 q 1 (.int .i64 n))
  go_wp2_with fail
  generalize w1.setCell ⟨q, 1, none⟩ (.int .i64 n) = W at *
  refine (clone_any _ W (by simp; omega)).mono ?_
  rintro e w2 ⟨rfl, hb⟩
  have HR2 := hide (rd_below HRN.out hb (rd_lt HRN.out))
  have HG2 := hide (gb_trans HGN.out (gb_below (q := some q) hb))
  clear hb
  go_wp2
  go_ret
  rw [HSN.out]
  exact ⟨by rw [← HN.out]; rfl, HR2.out, HG2.out⟩

/-- A line's rule; none, if it is none. -/
def ruleF (L : ByteArray) : Option Rl :=
  if tk L (nx L (smF L) 33) 58 = true then (if tk L (nx L (smF L) 33 + 1) 32 = true then match exprN L (L.size + 1) (nx L (smF L) 33 + 2) with
    | none => none
    | some (t, j) => if j < L.size then none else some ⟨nmF L, 4 * (L.size + 1) + 1, t, tk L (smF L) 33⟩
    else none) else none
/-- What a call that tells a rule answers. -/
def OutR (w : World) (q : Nat) (R : Option Rl) (e : Ending) (w' : World) : Prop := match R with
  | none => e = .panicked gave ∧ w.grownBy w' (some q)
  | some x => ∃ (k s : Nat) (a : Option Addr) (l c : Nat) (S : List Nat), e = .returned (.agg #[.string x.nm, .int .u8 k, .int .u16 s, .slice a l c, .bool x.br]) ∧ Tr w' x.n x.t ⟨k, s, a, l, c⟩ S ∧ (∀ b ∈ S, w.heap.size ≤ b) ∧ w.grownBy w' (some q)
theorem st5_grown {w w' : World} {b : Nat} {nm : ByteArray} {k s : Nat} {a : Option Addr} {l c : Nat} {br : Bool} {r : Option Nat} (h : St5 w b nm k s a l c br) (hg : w.grownBy w' r) (hr : some b ≠ r) : St5 w' b nm k s a l c br := (hg.block b (st5_lt h) hr).trans h
theorem st5_alloc {w : World} {b : Nat} {nm : ByteArray} {k s : Nat} {a : Option Addr} {l c : Nat} {br : Bool} (h : St5 w b nm k s a l c br) (o : Obj) : St5 (w.alloc o) b nm k s a l c br := (Below.heap_alloc w o b (st5_lt h)).trans h
theorem five_heap (w : World) (r : Nat) (a b c d e : Value) (k : Nat) (hk : k ≠ r) : (((((w.setCell ⟨r, 0, none⟩ a).setCell ⟨r, 1, none⟩ b).setCell ⟨r, 2, none⟩ c).setCell ⟨r, 3, none⟩ d).setCell ⟨r, 4, none⟩ e).heap[k]? = w.heap[k]? := by
  exact ((((Below.heap_setCell _ ⟨r, 4, none⟩ e k hk).trans (Below.heap_setCell _ ⟨r, 3, none⟩ d k hk)).trans (Below.heap_setCell _ ⟨r, 2, none⟩ c k hk)).trans (Below.heap_setCell _ ⟨r, 1, none⟩ b k hk)).trans (Below.heap_setCell _ ⟨r, 0, none⟩ a k hk)
theorem gb_set1 {w w1 : World} {q r : Nat} (h : w.grownBy w1 (some q)) (hr : w.heap.size ≤ r) (j : Nat) (v : Value) : w.grownBy (w1.setCell ⟨r, j, none⟩ v) (some q) :=
  ⟨h.os, h.tape, h.output, by simpa using h.size, fun k hk hq => (Below.heap_setCell _ _ _ k (by show k ≠ r; omega)).trans (h.block k hk hq)⟩
theorem five_gb {w w1 : World} {q r : Nat} (h : w.grownBy w1 (some q)) (hr : w.heap.size ≤ r) (a b c d e : Value) : w.grownBy (((((w1.setCell ⟨r, 0, none⟩ a).setCell ⟨r, 1, none⟩ b).setCell ⟨r, 2, none⟩ c).setCell ⟨r, 3, none⟩ d).setCell ⟨r, 4, none⟩ e) (some q) :=
  gb_set1 (gb_set1 (gb_set1 (gb_set1 (gb_set1 h hr _ _) hr _ _) hr _ _) hr _ _) hr _ _

set_option maxHeartbeats 6400000 in
theorem rule_any (q : Nat) (L : ByteArray) (w : World) (hL : L.size ≤ 2000) (h : Rd w q L 0) :
    Calls Tryd.prog 30 #[.pointer (some ⟨q, 0, none⟩)] w fun e w' => OutR w q (ruleF L) e w' := by
  have hq := rd_lt h
  have HRA := hide (rd_alloc h (.cells #[.string { data := #[] }, .int .u8 0, .int .u16 0, .slice none 0 0, .bool false] 44))
  have HGA := hide (gb_alloc w (.cells #[.string { data := #[] }, .int .u8 0, .int .u16 0, .slice none 0 0, .bool false] 44) (some q))
  have HSA := hide (st5_new w { data := #[] } 0 0 none 0 0 false)
  have HF0 := hide (show ruleF L = if tk L (nx L (smF L) 33) 58 = true then (if tk L (nx L (smF L) 33 + 1) 32 = true then match exprN L (L.size + 1) (nx L (smF L) 33 + 2) with
    | none => none
    | some (t, j) => if j < L.size then none else some ⟨nmF L, 4 * (L.size + 1) + 1, t, tk L (smF L) 33⟩
    else none) else none from rfl)
  have hle := smF_le L
  clear h
  go_enter Tryd.func30, Tryd.ntmps30
  go_wp2_with fail
  generalize w.alloc (.cells #[.string { data := #[] }, .int .u8 0, .int .u16 0, .slice none 0 0, .bool false] 44) = W at *
  obtain ⟨r, hr⟩ : ∃ r, w.heap.size = r := ⟨_, rfl⟩
  rw [hr] at HSA ⊢
  have HQ := hide hr
  have hqr : q ≠ r := by omega
  have HQR := hide (show q < r by omega)
  clear hr hq
  refine (name_any q L 0 W hL HRA.out).mono ?_
  rintro e w1 ⟨rfl, h1, h2⟩
  have HR1 := hide h1
  have HG1 := hide (gb_trans HGA.out h2)
  have HS1 := hide (st5_grown HSA.out h2 (by simp; omega))
  clear h1 h2 HRA HGA HSA
  go_wp2_with fail
  refine (takes_any q L (smF L) 33 w1 hle hL HR1.out).mono ?_
  rintro e w2 ⟨rfl, h1, h2⟩
  have HR2 := hide h1
  have HG2 := hide (gb_trans HG1.out h2)
  have HS2 := hide (st5_grown HS1.out h2 (by simp; omega))
  have hle2 : nx L (smF L) 33 ≤ L.size := by
    unfold nx
    by_cases hc : tk L (smF L) 33 = true
    · rw [if_pos hc]; exact tk_lt hc
    · rw [if_neg hc]; exact hle
  clear h1 h2 HR1 HG1 HS1
  obtain ⟨br, hbr⟩ : ∃ br, tk L (smF L) 33 = br := ⟨_, rfl⟩
  obtain ⟨i1, hi1⟩ : ∃ i1, nx L (smF L) 33 = i1 := ⟨_, rfl⟩
  rw [hbr, hi1] at HF0
  rw [hi1] at hle2 HR2
  rw [hbr]
  have HBR := hide (And.intro hbr hi1)
  clear hbr hi1 hle
  cases ht : tk L i1 58 with
  | false =>
    rw [ht] at HF0
    have HFE := hide (show ruleF L = none from HF0.out)
    have HT := hide ht
    clear ht HF0
    go_wp2_with fail
    refine (need_no q L i1 58 w2 hle2 hL HR2.out HT.out).mono ?_
    rintro e w3 ⟨rfl, h3⟩
    have HG3 := hide (gb_trans HG2.out h3)
    clear h3
    go_wp2
    refine ⟨rfl, ?_⟩
    rw [HFE.out]
    exact ⟨rfl, HG3.out⟩
  | true =>
    rw [ht] at HF0
    have HT := hide ht
    have hlt1 := tk_lt ht
    clear ht
    go_wp2_with fail
    refine (need_yes q L i1 58 w2 hle2 hL HR2.out HT.out).mono ?_
    rintro e w3 ⟨rfl, h1, h2⟩
    have HR3 := hide h1
    have HG3 := hide (gb_trans HG2.out h2)
    have HS3 := hide (st5_grown HS2.out h2 (by simp; omega))
    clear h1 h2 HR2 HG2 HS2
    cases ht : tk L (i1 + 1) 32 with
    | false =>
      rw [ht] at HF0
      have HFE := hide (show ruleF L = none from HF0.out)
      have HT := hide ht
      clear ht HF0
      go_wp2_with fail
      refine (need_no q L (i1 + 1) 32 w3 hlt1 hL HR3.out HT.out).mono ?_
      rintro e w4 ⟨rfl, h3⟩
      have HG4 := hide (gb_trans HG3.out h3)
      clear h3
      go_wp2
      refine ⟨rfl, ?_⟩
      rw [HFE.out]
      exact ⟨rfl, HG4.out⟩
    | true =>
      rw [ht] at HF0
      have HT := hide ht
      have hlt2 := tk_lt ht
      clear ht
      go_wp2_with fail
      refine (need_yes q L (i1 + 1) 32 w3 hlt1 hL HR3.out HT.out).mono ?_
      rintro e w4 ⟨rfl, h1, h2⟩
      have HR4 := hide (show Rd w4 q L (i1 + 2) from h1)
      have HG4 := hide (gb_trans HG3.out h2)
      have HS4 := hide (st5_grown HS3.out h2 (by simp; omega))
      clear h1 h2 HR3 HG3 HS3
      go_wp2_with fail
      refine (exprN_any q L hL (L.size + 1) (i1 + 2) w4 hlt2 (by omega) HR4.out).mono ?_
      intro e w5 hout
      cases hE : exprN L (L.size + 1) (i1 + 2) with
      | none =>
        rw [hE] at hout HF0
        obtain ⟨rfl, h3⟩ := hout
        have HFE := hide (show ruleF L = none from HF0.out)
        have HG5 := hide (gb_trans HG4.out h3)
        clear h3 hE HF0
        go_wp2
        refine ⟨rfl, ?_⟩
        rw [HFE.out]
        exact ⟨rfl, HG5.out⟩
      | some p =>
        obtain ⟨t, j⟩ := p
        rw [hE] at hout HF0
        obtain ⟨y, S, rfl, hT, hN, hS, hij, hj, h3, h4⟩ := hout
        have HG5 := hide (gb_trans (gb_trans HG4.out h4) (gb_alloc w5 (.cells #[.int .u8 y.k, .int .u16 y.s, .slice y.a y.l y.c] 42) (some q)))
        have HR5 := hide (rd_alloc h3 (.cells #[.int .u8 y.k, .int .u16 y.s, .slice y.a y.l y.c] 42))
        have HS5 := hide (st5_alloc (st5_grown HS4.out h4 (by simp; omega)) (.cells #[.int .u8 y.k, .int .u16 y.s, .slice y.a y.l y.c] 42))
        have HY := hide (st3_new w5 y.k y.s (.slice y.a y.l y.c))
        have HT5 := hide (tr_alloc hT (.cells #[.int .u8 y.k, .int .u16 y.s, .slice y.a y.l y.c] 42))
        have HSS := hide (show ∀ b ∈ S, r < b from fun b hb => by have := hS b hb; have := st5_lt HS4.out; omega)
        have HF1 := hide (show ruleF L = if j < L.size then none else some ⟨nmF L, 4 * (L.size + 1) + 1, t, br⟩ from HF0.out)
        clear hT hN hS h3 h4 hE HR4 HG4 HS4 HF0
        go_wp2_with fail
        generalize w5.alloc (.cells #[.int .u8 y.k, .int .u16 y.s, .slice y.a y.l y.c] 42) = W5 at *
        generalize w5.heap.size = z at *
        obtain ⟨p0, p1, f0, f1⟩ := rd_cells HR5.out
        obtain ⟨n0, n1, n2, -⟩ := st3_cells HY.out
        by_cases hjl : j < L.size
        · have hjl' : (j : Int) < (L.size : Int) := by omega
          have g1 : decide ((j : Int) < (L.size : Int)) = true := by simp; omega
          have HFE := hide (show ruleF L = none by rw [HF1.out, if_pos hjl])
          clear HF1 hjl
          go_quiet (fail)
          go_wp2
          refine ⟨rfl, ?_⟩
          rw [HFE.out]
          exact ⟨rfl, gb_trans HG5.out (gb_drewN _ _ _)⟩
        · have hjl' : ¬ (j : Int) < (L.size : Int) := by omega
          have g1 : decide ((j : Int) < (L.size : Int)) = false := by simp; omega
          have HFE := hide (show ruleF L = some ⟨nmF L, 4 * (L.size + 1) + 1, t, br⟩ by rw [HF1.out, if_neg hjl])
          clear HF1 hjl
          obtain ⟨m0, m1, m2, m3, m4, m5⟩ := st5_cells HS5.out
          have k0 := m5 0
          have k1 := m5 1
          have k2 := m5 2
          have k3 := m5 3
          have k4 := m5 4
          clear m5
          go_quiet (fail)
          go_wp2
          refine bodyPost_ret (v := .agg #[.string (nmF L), .int .u8 y.k, .int .u16 y.s, .slice y.a y.l y.c, .bool br]) (by simp [results, Tryd.results30, go_sem, m0, m1, m2, m3, m4]) rfl ?_
          rw [HFE.out]
          refine ⟨y.k, y.s, y.a, y.l, y.c, S, rfl, ?_, (fun b hb => by have := HSS.out b hb; have := HQ.out; omega), ?_⟩
          · have hT6 : Tr (W5.drewN nq) (4 * (L.size + 1) + 1) t y S := tr_kept HT5.out (fun b hb => HSS.out b hb) (keep_drewN (r + 1) W5 nq)
            exact tr_keep _ t y S (fun b hb => five_heap _ _ _ _ _ _ _ b (by have := HSS.out b hb; omega)) hT6
          · exact five_gb (gb_trans HG5.out (gb_drewN W5 (some q) nq)) (by have := HQ.out; omega) _ _ _ _ _
end Go.Proofs.YtccaknabpnpjaaaDoor.A

/- readRule: what a reader gives up with is answered. -/
namespace Go.Proofs.YtccaknabpnpjaaaDoor.A
open Go.RowKit
set_option linter.unusedVariables false

set_option maxHeartbeats 1600000 in
theorem catch_panicking (b b1 : Nat) (nm : ByteArray) (k s : Nat) (a : Option Addr) (l c : Nat) (br x : Bool) (w : World) (h : St5 w b nm k s a l c br) (h1 : w.heap[b1]? = some (.cells #[.bool x] 4 (0, 0))) (hne : b ≠ b1) :
    CallsD Tryd.prog 29 #[.pointer (some ⟨b, 0, none⟩), .pointer (some ⟨b1, 0, none⟩)] (.panicking gave) w fun e u' w' =>
      e = .returned (.tuple #[]) ∧ u' = .panicking [{ v := .iface 96 (.agg #[]), recovered := true }] ∧
      w' = (((((w.setCell ⟨b, 0, none⟩ (.string { data := #[] })).setCell ⟨b, 1, none⟩ (.int .u8 0)).setCell ⟨b, 2, none⟩ (.int .u16 0)).setCell ⟨b, 3, none⟩ (.slice none 0 0)).setCell ⟨b, 4, none⟩ (.bool false)).setCell ⟨b1, 0, none⟩ (.bool false) := by
  obtain ⟨m0, m1, m2, m3, m4, m5⟩ := st5_cells h
  have k0 := m5 0
  have k1 := m5 1
  have k2 := m5 2
  have k3 := m5 3
  have k4 := m5 4
  have n0 : w.cell? ⟨b1, 0, none⟩ = some (.bool x) := by simp [World.cell?, h1]
  have n1 : w.frozen? ⟨b1, 0, none⟩ = false := by simp [World.frozen?, h1]
  unfold gave
  clear m5 h h1
  refine callsD_of_wpS Tryd.func29 rfl fun c₀ cs hu => ?_
  apply wpS_seq
  apply wpS_region
  simp [wpOpsS, go_sem, recoverD, hu, Tryd.ntmps29, Exit.thenS]
  refine wpS_cond (t := true) (by simp [Act.eval, Array.replicate]) ?_
  simp only [if_true]
  apply wpS_region
  simp [wpOpsS, go_sem, m0, m1, m2, m3, m4, k0, k1, k2, k3, k4, n0, n1, bodyPostS, results, Tryd.results29]

theorem catch_idle (b b1 : Nat) (w : World) :
    CallsD Tryd.prog 29 #[.pointer (some ⟨b, 0, none⟩), .pointer (some ⟨b1, 0, none⟩)] .returning w fun e u' w' => e = .returned (.tuple #[]) ∧ u' = .returning ∧ w' = w := by
  refine callsD_of_wpS Tryd.func29 rfl fun c₀ cs hu => ?_
  apply wpS_seq
  apply wpS_region
  simp [wpOpsS, go_sem, recoverD, hu, Tryd.ntmps29, Exit.thenS]
  refine wpS_cond (t := false) (by simp [Act.eval, Array.replicate]) ?_
  simp only [Bool.false_eq_true, if_false]
  refine wpS_of_wp (wp_skip ?_)
  cases c₀
  simp_all [bodyPostS, results, Tryd.results29]

theorem urow_set {w : World} {b : Nat} {cs : Array Value} {t : TypeId} {fr : Nat × Nat} (h : w.heap[b]? = some (.cells cs t fr)) (j : Nat) (v : Value) : (w.setCell ⟨b, j, none⟩ v).heap[b]? = some (.cells (cs.setIfInBounds j v) t fr) := by
  rw [setCell_eq_setRow _ _ _ _ _ _ _ h, setRow_heap _ _ _ _ _ _ h]
theorem five_st5 {w : World} {b : Nat} {nm : ByteArray} {k s : Nat} {a : Option Addr} {l c : Nat} {br : Bool} (h : St5 w b nm k s a l c br) (nm' : ByteArray) (k' s' : Nat) (a' : Option Addr) (l' c' : Nat) (br' : Bool) :
    St5 (((((w.setCell ⟨b, 0, none⟩ (.string nm')).setCell ⟨b, 1, none⟩ (.int .u8 k')).setCell ⟨b, 2, none⟩ (.int .u16 s')).setCell ⟨b, 3, none⟩ (.slice a' l' c')).setCell ⟨b, 4, none⟩ (.bool br')) b nm' k' s' a' l' c' br' :=
  urow_set (urow_set (urow_set (urow_set (urow_set h 0 _) 1 _) 2 _) 3 _) 4 _

/-- What readRule answers. -/
def OutL (w : World) (R : Option Rl) (e : Ending) (w' : World) : Prop := match R with
  | none => e = .returned (.tuple #[.agg #[.string { data := #[] }, .int .u8 0, .int .u16 0, .slice none 0 0, .bool false], .bool false]) ∧ Below w.heap.size w w'
  | some x => ∃ (y : Nd) (S : List Nat), e = .returned (.tuple #[.agg #[.string x.nm, .int .u8 y.k, .int .u16 y.s, .slice y.a y.l y.c, .bool x.br], .bool true]) ∧ x.nm.size ≤ 2000 ∧ Tr w' x.n x.t y S ∧ (∀ b ∈ S, w.heap.size ≤ b) ∧ Below w.heap.size w w'

set_option maxHeartbeats 3200000 in
theorem readRule_any (L : ByteArray) (w : World) (hL : L.size ≤ 2000) : Calls Tryd.prog 18 #[.string L] w fun e w' => OutL w (ruleF L) e w' := by
  have hmf : ∀ (fn : Fn) (first cap : Array Value) (w : World), (Instr.makeFunc fn first cap).run Tryd.prog w = .ok (.func fn first cap) w := fun _ _ _ _ => rfl
  have HB0 := hide ((((Below.refl w.heap.size w).alloc (Nat.le_refl _) (.cells #[.string { data := #[] }, .int .u8 0, .int .u16 0, .slice none 0 0, .bool false] 44)).alloc (by simp) (.cells #[.bool false] 4)).alloc (by simp; omega) (.cells #[.string L, .int .i64 0] 71))
  have HS0 := hide (st5_alloc (st5_alloc (st5_new w { data := #[] } 0 0 none 0 0 false) (.cells #[.bool false] 4)) (.cells #[.string L, .int .i64 0] 71))
  have HO0 := hide (show (((w.alloc (.cells #[.string { data := #[] }, .int .u8 0, .int .u16 0, .slice none 0 0, .bool false] 44)).alloc (.cells #[.bool false] 4)).alloc (.cells #[.string L, .int .i64 0] 71)).heap[w.heap.size + 1]? = some (.cells #[.bool false] 4 (0, 0)) from by
    have e := heap_alloc_last (w.alloc (.cells #[.string { data := #[] }, .int .u8 0, .int .u16 0, .slice none 0 0, .bool false] 44)) (.cells #[.bool false] 4)
    rw [show (w.alloc (.cells #[.string { data := #[] }, .int .u8 0, .int .u16 0, .slice none 0 0, .bool false] 44)).heap.size = w.heap.size + 1 by simp] at e
    exact (Below.heap_alloc _ _ _ (by simp)).trans e)
  have HR0 := hide (show Rd (((w.alloc (.cells #[.string { data := #[] }, .int .u8 0, .int .u16 0, .slice none 0 0, .bool false] 44)).alloc (.cells #[.bool false] 4)).alloc (.cells #[.string L, .int .i64 0] 71)) (w.heap.size + 1 + 1) L 0 from by
    have e := heap_alloc_last ((w.alloc (.cells #[.string { data := #[] }, .int .u8 0, .int .u16 0, .slice none 0 0, .bool false] 44)).alloc (.cells #[.bool false] 4)) (.cells #[.string L, .int .i64 0] 71)
    rw [show ((w.alloc (.cells #[.string { data := #[] }, .int .u8 0, .int .u16 0, .slice none 0 0, .bool false] 44)).alloc (.cells #[.bool false] 4)).heap.size = w.heap.size + 1 + 1 by simp] at e
    exact e)
  go_enter_defers Tryd.func18, Tryd.ntmps18
  go_wp2_with fail
  generalize ((w.alloc (.cells #[.string { data := #[] }, .int .u8 0, .int .u16 0, .slice none 0 0, .bool false] 44)).alloc (.cells #[.bool false] 4)).alloc (.cells #[.string L, .int .i64 0] 71) = W at *
  obtain ⟨b, hb⟩ : ∃ b, w.heap.size = b := ⟨_, rfl⟩
  rw [hb] at HB0 HS0 HO0 HR0 ⊢
  have HQ := hide hb
  clear hb
  refine (rule_any (b + 1 + 1) L W hL HR0.out).mono ?_
  intro e w1 hout
  cases hR : ruleF L with
  | none =>
    rw [hR] at hout
    obtain ⟨rfl, hg⟩ := hout
    have hs := st5_grown HS0.out hg (by simp; omega)
    have ho := (hg.block (b + 1) (Array.getElem?_eq_some_iff.1 HO0.out).1 (by simp)).trans HO0.out
    have HBF := hide (HB0.out.grown hg (by have := HB0.out.size; rw [HQ.out] at this; exact this) (fun k hk => by simp at hk; omega))
    have HR := hide hR
    clear hR hg
    refine leaves_cons (f := 29) (args := #[.pointer (some ⟨b, 0, none⟩), .pointer (some ⟨b + 1, 0, none⟩)]) (by simp) (by simp [go_sem]) ?_
    refine (catch_panicking b (b + 1) _ _ _ _ _ _ _ _ w1 hs ho (by omega)).mono ?_
    rintro e u' w2 ⟨rfl, rfl, hw2⟩
    have hs2 : St5 w2 b { data := #[] } 0 0 none 0 0 false := by
      rw [hw2]
      exact (Below.heap_setCell _ _ _ _ (by show b ≠ b + 1; omega)).trans (five_st5 hs { data := #[] } 0 0 none 0 0 false)
    have ho2 : w2.heap[b + 1]? = some (.cells #[.bool false] 4 (0, 0)) := by
      rw [hw2]
      exact urow_set ((five_heap _ _ _ _ _ _ _ _ (by omega)).trans ho) 0 (.bool false)
    have HB2 := hide (show Below w.heap.size w w2 from by
      rw [hw2, HQ.out]
      exact (((((HBF.out.setCell (by simp) _).setCell (by simp) _).setCell (by simp) _).setCell (by simp) _).setCell (by simp) _).setCell (by simp) _)
    obtain ⟨m0, m1, m2, m3, m4, -⟩ := st5_cells hs2
    have n0 : w2.cell? ⟨b + 1, 0, none⟩ = some (.bool false) := by simp [World.cell?, ho2]
    clear hw2 hs ho
    simp [Leaves, settle, results, Tryd.results18, go_sem, m0, m1, m2, m3, m4, n0]
    rw [HR.out]
    exact ⟨rfl, HB2.out⟩
  | some x =>
    rw [hR] at hout
    obtain ⟨k, s, a, l, c, S, rfl, hT, hS, hg⟩ := hout
    have hs := st5_grown HS0.out hg (by simp; omega)
    have ho := (hg.block (b + 1) (Array.getElem?_eq_some_iff.1 HO0.out).1 (by simp)).trans HO0.out
    have HBF := hide (HB0.out.grown hg (by have := HB0.out.size; rw [HQ.out] at this; exact this) (fun k hk => by simp at hk; omega))
    have HR := hide hR
    have HT := hide hT
    have HSS := hide (show ∀ z ∈ S, b + 2 ≤ z from fun z hz => by have := hS z hz; have := rd_lt HR0.out; omega)
    have HNM := hide (show x.nm.size ≤ 2000 from by
      have e : x.nm = nmF L := by
        have := hR
        unfold ruleF at this
        split at this
        · split at this
          · split at this
            · cases this
            · split at this
              · cases this
              · cases this; rfl
          · cases this
        · cases this
      rw [e]
      unfold nmF
      simp
      omega)
    obtain ⟨m0, m1, m2, m3, m4, m5⟩ := st5_cells hs
    have k0 := m5 0
    have k1 := m5 1
    have k2 := m5 2
    have k3 := m5 3
    have k4 := m5 4
    have n0 : w1.cell? ⟨b + 1, 0, none⟩ = some (.bool false) := by simp [World.cell?, ho]
    have n1 : w1.frozen? ⟨b + 1, 0, none⟩ = false := by simp [World.frozen?, ho]
    have HS1 := hide hs
    have HO1 := hide ho
    clear hR hg hT hS m5 hs ho
    have HS3 := hide (show St5 ((((((w1.setCell ⟨b, 0, none⟩ (.string x.nm)).setCell ⟨b, 1, none⟩ (.int .u8 k)).setCell ⟨b, 2, none⟩ (.int .u16 s)).setCell ⟨b, 3, none⟩ (.slice a l c)).setCell ⟨b, 4, none⟩ (.bool x.br)).setCell ⟨b + 1, 0, none⟩ (.bool true)) b x.nm k s a l c x.br from (Below.heap_setCell _ _ _ _ (by show b ≠ b + 1; omega)).trans (five_st5 HS1.out x.nm k s a l c x.br))
    have HO3 := hide (show ((((((w1.setCell ⟨b, 0, none⟩ (.string x.nm)).setCell ⟨b, 1, none⟩ (.int .u8 k)).setCell ⟨b, 2, none⟩ (.int .u16 s)).setCell ⟨b, 3, none⟩ (.slice a l c)).setCell ⟨b, 4, none⟩ (.bool x.br)).setCell ⟨b + 1, 0, none⟩ (.bool true)).heap[b + 1]? = some (.cells #[.bool true] 4 (0, 0)) from urow_set ((five_heap _ _ _ _ _ _ _ _ (by omega)).trans HO1.out) 0 (.bool true))
    have HB3 := hide (show Below w.heap.size w ((((((w1.setCell ⟨b, 0, none⟩ (.string x.nm)).setCell ⟨b, 1, none⟩ (.int .u8 k)).setCell ⟨b, 2, none⟩ (.int .u16 s)).setCell ⟨b, 3, none⟩ (.slice a l c)).setCell ⟨b, 4, none⟩ (.bool x.br)).setCell ⟨b + 1, 0, none⟩ (.bool true)) from by
      rw [HQ.out]
      exact (((((HBF.out.setCell (by simp) _).setCell (by simp) _).setCell (by simp) _).setCell (by simp) _).setCell (by simp) _).setCell (by simp) _)
    have HT3 := hide (show Tr ((((((w1.setCell ⟨b, 0, none⟩ (.string x.nm)).setCell ⟨b, 1, none⟩ (.int .u8 k)).setCell ⟨b, 2, none⟩ (.int .u16 s)).setCell ⟨b, 3, none⟩ (.slice a l c)).setCell ⟨b, 4, none⟩ (.bool x.br)).setCell ⟨b + 1, 0, none⟩ (.bool true)) x.n x.t ⟨k, s, a, l, c⟩ S from tr_keep _ _ _ _ (fun z hz => (Below.heap_setCell _ _ _ _ (by show z ≠ b + 1; have := HSS.out z hz; omega)).trans (five_heap _ _ _ _ _ _ _ z (by have := HSS.out z hz; omega))) HT.out)
    go_wp2
    generalize (((((w1.setCell ⟨b, 0, none⟩ (.string x.nm)).setCell ⟨b, 1, none⟩ (.int .u8 k)).setCell ⟨b, 2, none⟩ (.int .u16 s)).setCell ⟨b, 3, none⟩ (.slice a l c)).setCell ⟨b, 4, none⟩ (.bool x.br)).setCell ⟨b + 1, 0, none⟩ (.bool true) = W3 at *
    obtain ⟨r0, r1, r2, r3, r4, -⟩ := st5_cells HS3.out
    have t0 : W3.cell? ⟨b + 1, 0, none⟩ = some (.bool true) := by simp [World.cell?, HO3.out]
    refine leaves_cons (f := 29) (args := #[.pointer (some ⟨b, 0, none⟩), .pointer (some ⟨b + 1, 0, none⟩)]) (by simp) (by simp [go_sem]) ?_
    refine (catch_idle b (b + 1) _).mono ?_
    rintro e u' w4 ⟨rfl, rfl, rfl⟩
    simp [Leaves, settle, results, Tryd.results18, go_sem, r0, r1, r2, r3, r4, t0]
    rw [HR.out]
    exact ⟨⟨k, s, a, l, c⟩, S, rfl, HNM.out, HT3.out, (fun z hz => by have := HSS.out z hz; have := HQ.out; omega), HB3.out⟩
end Go.Proofs.YtccaknabpnpjaaaDoor.A

/- Parse: lines, and a list of rules that is being made. -/
namespace Go.Proofs.YtccaknabpnpjaaaDoor.A
open Go.RowKit
set_option linter.unusedVariables false

def cellsP (p : Rl × Nd) : List Value := [.string p.1.nm, .int .u8 p.2.k, .int .u16 p.2.s, .slice p.2.a p.2.l p.2.c, .bool p.1.br]
def cellsQ : List (Rl × Nd) → List Value | [] => [] | p :: l => cellsP p ++ cellsQ l
theorem cellsQ_app (a b : List (Rl × Nd)) : cellsQ (a ++ b) = cellsQ a ++ cellsQ b := by
  induction a with
  | nil => rfl
  | cons r a ih => simp [cellsQ, ih]
theorem cellsQ_one (p : Rl × Nd) : cellsQ [p] = cellsP p := by simp [cellsQ]
theorem cellsQ_len : ∀ l : List (Rl × Nd), (cellsQ l).length = l.length * 5
  | [] => rfl
  | r :: l => by simp [cellsQ, cellsP, cellsQ_len l]; omega
theorem cellsQ_at : ∀ (l : List (Rl × Nd)) (i : Nat) (p : Rl × Nd), l[i]? = some p → ∀ j, j < 5 → (cellsQ l)[i * 5 + j]? = (cellsP p)[j]?
  | [], i, p, h, _, _ => by simp at h
  | r :: l, 0, p, h, j, hj => by
    simp at h
    subst h
    show (cellsP r ++ cellsQ l)[0 * 5 + j]? = _
    rw [List.getElem?_append_left (by simp [cellsP]; omega)]
    congr 1
    omega
  | r :: l, i + 1, p, h, j, hj => by
    have ih := cellsQ_at l i p (by simpa using h) j hj
    show (cellsP r ++ cellsQ l)[(i + 1) * 5 + j]? = _
    rw [List.getElem?_append_right (by simp [cellsP]; omega), ← ih]
    congr 1
    simp [cellsP]
    omega
theorem cellsP_one' (p : Rl × Nd) : ∀ u ∈ cellsP p, u.oneCell' = true := by
  intro u h
  simp only [cellsP, List.mem_cons, List.not_mem_nil, or_false] at h
  rcases h with rfl | rfl | rfl | rfl | rfl <;> rfl
/-- A list of rules that is being made. -/
def Mkr (base : Nat) (w : World) (ps : List (Rl × Nd)) (v : Value) : Prop :=
  w.ownsRow base 44 5 v ps.length (cellsQ ps) ∧ ∀ p ∈ ps, p.1.nm.size ≤ 2000 ∧ ∃ S, Tr w p.1.n p.1.t p.2 S ∧ ∀ b ∈ S, base ≤ b ∧ b < w.heap.size ∧ v.ownBlock ≠ some b
theorem mkr_nil (base : Nat) (w : World) : Mkr base w [] (.slice none 0 0) := ⟨World.ownsRow_nil _ _ _ _, fun p h => by cases h⟩
theorem own_kept {base n size : Nat} {w w' : World} {e : TypeId} {v : Value} {xs : List Value} (h1 : w.ownsRow base e size v n xs) (hk : Keep base w w') : w'.ownsRow base e size v n xs := by
  have hlt := h1.lt
  refine ⟨h1.1, ?_⟩
  rcases h1.2 with h0 | ⟨g, cap, cur, hv, hg, hcur, q1, q2, q3, q4⟩
  · exact .inl h0
  · exact .inr ⟨g, cap, cur, hv, hg, (hk.2 g hg (hlt g (by rw [hv]; rfl)).2).trans hcur, q1, q2, q3, q4⟩
theorem mkr_kept {base : Nat} {w w' : World} {ps : List (Rl × Nd)} {v : Value} (h : Mkr base w ps v) (hk : Keep base w w') : Mkr base w' ps v := by
  refine ⟨own_kept h.1 hk, fun p hp => ?_⟩
  obtain ⟨h2, S, hT, hS⟩ := h.2 p hp
  exact ⟨h2, S, tr_keep _ _ _ _ (fun b hb => hk.2 b (hS b hb).1 (hS b hb).2.1) hT, fun b hb => ⟨(hS b hb).1, Nat.lt_of_lt_of_le (hS b hb).2.1 hk.1, (hS b hb).2.2⟩⟩
theorem mkr_app {base : Nat} {w w3 : World} {ps : List (Rl × Nd)} {v : Value} (h : Mkr base w ps v) {x : Rl} {y : Nd} {S : List Nat} (hn : x.nm.size ≤ 2000) (hT : Tr w x.n x.t y S) (hS : ∀ b ∈ S, base ≤ b ∧ v.ownBlock ≠ some b) {g cap : Nat}
    (hown : w3.ownsRow base 44 5 (.slice (some ⟨g, 0, none⟩) (ps.length + 1) cap) (ps.length + 1) (cellsQ ps ++ cellsP (x, y))) (hgrow : w.grownBy w3 v.ownBlock) (hat : v.ownBlock = some g ∨ g = w.heap.size) :
    Mkr base w3 (ps ++ [(x, y)]) (.slice (some ⟨g, 0, none⟩) (ps.length + 1) cap) := by
  refine ⟨by rw [cellsQ_app, cellsQ_one, List.length_append]; exact hown, ?_⟩
  have hnew : ∀ (n : Nat) (t : Ex n) (y : Nd) (S : List Nat), Tr w n t y S → (∀ b ∈ S, base ≤ b ∧ v.ownBlock ≠ some b) → Tr w3 n t y S ∧ ∀ b ∈ S, base ≤ b ∧ b < w3.heap.size ∧ (Value.slice (some ⟨g, 0, none⟩) (ps.length + 1) cap).ownBlock ≠ some b := by
    intro n t y S hT hS
    have hlt := tr_lt n t y S hT
    refine ⟨tr_keep n t y S (fun b hb => hgrow.block b (hlt b hb) (fun e => (hS b hb).2 e.symm)) hT, fun b hb => ⟨(hS b hb).1, Nat.lt_of_lt_of_le (hlt b hb) hgrow.size, fun e => ?_⟩⟩
    have e' : g = b := by simpa [Value.ownBlock] using e
    subst e'
    rcases hat with hat | hat
    · exact (hS g hb).2 hat
    · have := hlt g hb; omega
  intro p hp
  rcases List.mem_append.1 hp with hp | hp
  · obtain ⟨h2, S', hT', hS'⟩ := h.2 p hp
    obtain ⟨a1, a2⟩ := hnew _ _ _ _ hT' (fun b hb => ⟨(hS' b hb).1, (hS' b hb).2.2⟩)
    exact ⟨h2, S', a1, a2⟩
  · have e : p = (x, y) := by simpa using hp
    subst e
    obtain ⟨a1, a2⟩ := hnew _ _ _ _ hT hS
    exact ⟨hn, S, a1, a2⟩
theorem mkr_rs {base : Nat} {w : World} {ps : List (Rl × Nd)} {v : Value} (h : Mkr base w ps v) : ∃ a cap, v = .slice a ps.length cap ∧ ps.length ≤ cap ∧ cap ≤ maxLen ∧ Rs w a ps.length (ps.map (·.1)) := by
  rcases h.1.2 with ⟨rfl, h0⟩ | ⟨g, cap, cur, rfl, hg, hcur, q1, q2, q3, q4⟩
  · rw [h0]
    exact ⟨none, 0, rfl, Nat.le_refl _, by unfold maxLen; omega, by simpa using h0, .inl rfl⟩
  · refine ⟨_, cap, rfl, q1, q2, by simp, ?_⟩
    by_cases hz : ps.length = 0
    · exact .inl hz
    · refine .inr ⟨g, 0, rfl, fun i x hx => ?_⟩
      rw [List.getElem?_map] at hx
      obtain ⟨p, hp, rfl⟩ := Option.map_eq_some_iff.1 hx
      have hi : i < ps.length := (List.getElem?_eq_some_iff.1 hp).1
      have hc : ∀ j, j < 5 → ∀ u, (cellsP p)[j]? = some u → w.cell? ⟨g, 0 + i * 5 + j, none⟩ = some u := fun j hj u hu => by
        rw [← cellsQ_at ps i p hp j hj, ← q4] at hu
        rw [cell_of_row w g (0 + i * 5 + j) cur 44 (0, 0) hcur]
        rw [List.getElem?_take_of_lt (by omega)] at hu
        rw [← hu]
        simp
      obtain ⟨h2, S, hT, hS⟩ := h.2 p (List.mem_of_getElem? hp)
      exact ⟨p.2.k, p.2.s, p.2.a, p.2.l, p.2.c, hc 0 (by omega) _ rfl, hc 1 (by omega) _ rfl, hc 2 (by omega) _ rfl, hc 3 (by omega) _ rfl, hc 4 (by omega) _ rfl, by unfold maxLen; omega, tr_rx _ _ _ _ hT⟩

/-- The rules of lines; the line of a fault. -/
def readL : List Rl → Nat → List ByteArray → Option (List Rl) × Nat
  | acc, _, [] => (some acc, 0)
  | acc, i, L :: r => match ruleF L with
    | none => (none, i + 1)
    | some x => if umayB acc x = true then readL (acc ++ [x]) (i + 1) r else (none, i + 1)
theorem readL_good : ∀ (ls : List ByteArray) (acc : List Rl) (i n : Nat) (l : List Rl), readL acc i ls = (some l, n) → n = 0 ∧ ∃ r, l = acc ++ r ∧ r.length = ls.length ∧ goodL acc r = true
  | [], acc, i, n, l, h => by
    cases h
    exact ⟨rfl, [], by simp, rfl, rfl⟩
  | L :: ls, acc, i, n, l, h => by
    have h' : (match ruleF L with
      | none => (none, i + 1)
      | some x => if umayB acc x = true then readL (acc ++ [x]) (i + 1) ls else (none, i + 1)) = (some l, n) := h
    cases hR : ruleF L with
    | none => rw [hR] at h'; cases h'
    | some x =>
      rw [hR] at h'
      have h2 : (if umayB acc x = true then readL (acc ++ [x]) (i + 1) ls else (none, i + 1)) = (some l, n) := h'
      by_cases hm : umayB acc x = true
      · rw [if_pos hm] at h2
        obtain ⟨e1, r, e2, e3, e4⟩ := readL_good ls _ _ _ _ h2
        exact ⟨e1, x :: r, by rw [e2]; simp, by simp [e3], by show (umayB acc x && goodL (acc ++ [x]) r) = true; rw [hm, e4]; rfl⟩
      · rw [if_neg hm] at h2; cases h2
theorem split_le (sep : ByteArray) : ∀ (k : Nat) (s : ByteArray), ∀ x ∈ Lib.splitB sep 0 k s, x.size ≤ s.size
  | 0, s, x, h => by
    have e : x = s := by simpa [Lib.splitB] using h
    rw [e]
    exact Nat.le_refl _
  | k + 1, s, x, h => by
    unfold Lib.splitB at h
    split at h
    · have e : x = s := by simpa using h
      rw [e]
      exact Nat.le_refl _
    · rcases List.mem_cons.1 h with rfl | h
      · simp; omega
      · have := split_le sep k _ x h
        simp at this
        omega
def nlB : ByteArray := { data := #[10] }
def linesB (s : ByteArray) : List ByteArray := Lib.splitB nlB 0 (Lib.countB s nlB) s
theorem lines_len (s : ByteArray) : (linesB s).length = Lib.countB s nlB + 1 := Lib.splitB_all nlB (by decide) 0 _ s rfl
theorem count_nl (s : ByteArray) : Lib.countByte s.data.toList 10 = Lib.countB s nlB := (Lib.count_one 10 s.data.toList).symm
/-- What Parse tells of a text that isn't too long. -/
def parseF (s : ByteArray) : Option (List Rl) × Nat × Nat := if 16 ≤ Lib.countB s nlB then (none, 0, 1) else match readL [] 0 (linesB s) with
  | (none, n) => (none, n, 6)
  | (some l, _) => (some l, 0, 0)
/-- What Parse answers. -/
def OutP (w : World) (R : Option (List Rl) × Nat × Nat) (e : Ending) (w' : World) : Prop := match R with
  | (none, n, f) => e = .returned (.tuple #[.slice none 0 0, .int .i64 n, .int .i64 f]) ∧ Below w.heap.size w w'
  | (some l, n, f) => ∃ a len cap, e = .returned (.tuple #[.slice a len cap, .int .i64 n, .int .i64 f]) ∧ len ≤ cap ∧ cap ≤ maxLen ∧ Rs w' a len l ∧ Below w.heap.size w w'
end Go.Proofs.YtccaknabpnpjaaaDoor.A
