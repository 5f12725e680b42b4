/- A line's rule. -/
import Derived.Test.YtgjjmcgmdlfdaaaDoorTb
import Derived.Defers
import Derived.Recover
namespace Go.Proofs.YtgjjmcgmdlfdaaaDoor.A
open Go.RowKit
set_option linter.unusedVariables false

theorem clone_any (s : ByteArray) (w : World) (hs : s.size ≤ 281474976710656) : Calls Tryd.prog 68 #[.string s] w fun e w' => e = .returned (.string s) ∧ Below w.heap.size w w' := by
  go_enter Tryd.func68, Tryd.ntmps68
  go_wp2_with fail
  refine (Tryd.stringslite_Clone s w hs).mono ?_
  rintro e w1 ⟨rfl, hb⟩
  have HB := hide hb
  clear hb
  go_wp2
  go_ret
  exact ⟨rfl, HB.out⟩
/-- The letters that a line begins with. -/
def nmF (L : ByteArray) : ByteArray := L.extract 0 (smF L)
set_option maxHeartbeats 1600000 in
theorem name_any (q : Nat) (L : ByteArray) (i : Nat) (w : World) (hL : L.size ≤ 2000) (h : Rd w q L i) :
    Calls Tryd.prog 55 #[.pointer (some ⟨q, 0, none⟩)] w fun e w' => e = .returned (.string (nmF L)) ∧ Rd w' q L (smF L) ∧ w.grownBy w' (some q) := by
  obtain ⟨p0, p1, f0, f1⟩ := rd_cells h
  have HR := hide h
  have HN := hide (show L.extract 0 (smF L) = nmF L from rfl)
  have hle := smF_le L
  clear h
  go_enter Tryd.func55, Tryd.ntmps55
  go_wp2_with fail
  refine (smalls_any L w hL).mono ?_
  rintro e w1 ⟨rfl, hw⟩
  subst hw
  obtain ⟨n, hn⟩ : ∃ n, smF L = n := ⟨_, rfl⟩
  have HSN := hide hn
  rw [hn] at hle HN ⊢
  clear hn
  have i1 : (0 : Int) ≤ (n : Int) := by omega
  have i2 : (n : Int) ≤ (L.size : Int) := by omega
  have HRN := hide (rd_set HR.out n)
  have HGN := hide (gb_set w1 q 1 (.int .i64 n))
  go_wp2_with fail
  generalize w1.setCell ⟨q, 1, none⟩ (.int .i64 n) = W at *
  refine (clone_any _ W (by simp; omega)).mono ?_
  rintro e w2 ⟨rfl, hb⟩
  have HR2 := hide (rd_below HRN.out hb (rd_lt HRN.out))
  have HG2 := hide (gb_trans HGN.out (gb_below (q := some q) hb))
  clear hb
  go_wp2
  go_ret
  rw [HSN.out]
  exact ⟨by rw [← HN.out]; rfl, HR2.out, HG2.out⟩

/-- A line's rule; none, if it is none. -/
def ruleF (L : ByteArray) : Option Rl :=
  if tk L (nx L (smF L) 33) 58 = true then (if tk L (nx L (smF L) 33 + 1) 32 = true then match exprN L (L.size + 1) (nx L (smF L) 33 + 2) with
    | none => none
    | some (t, j) => if j < L.size then none else some ⟨nmF L, 4 * (L.size + 1) + 1, t, tk L (smF L) 33⟩
    else none) else none
/-- What a call that tells a rule answers. -/
def OutR (w : World) (q : Nat) (R : Option Rl) (e : Ending) (w' : World) : Prop := match R with
  | none => e = .panicked gave ∧ w.grownBy w' (some q)
  | some x => ∃ (k s : Nat) (a : Option Addr) (l c : Nat) (S : List Nat), e = .returned (.agg #[.string x.nm, .int .u8 k, .int .u16 s, .slice a l c, .bool x.br]) ∧ Tr w' x.n x.t ⟨k, s, a, l, c⟩ S ∧ (∀ b ∈ S, w.heap.size ≤ b) ∧ w.grownBy w' (some q)
theorem st5_grown {w w' : World} {b : Nat} {nm : ByteArray} {k s : Nat} {a : Option Addr} {l c : Nat} {br : Bool} {r : Option Nat} (h : St5 w b nm k s a l c br) (hg : w.grownBy w' r) (hr : some b ≠ r) : St5 w' b nm k s a l c br := (hg.block b (st5_lt h) hr).trans h
theorem st5_alloc {w : World} {b : Nat} {nm : ByteArray} {k s : Nat} {a : Option Addr} {l c : Nat} {br : Bool} (h : St5 w b nm k s a l c br) (o : Obj) : St5 (w.alloc o) b nm k s a l c br := (Below.heap_alloc w o b (st5_lt h)).trans h
theorem five_heap (w : World) (r : Nat) (a b c d e : Value) (k : Nat) (hk : k ≠ r) : (((((w.setCell ⟨r, 0, none⟩ a).setCell ⟨r, 1, none⟩ b).setCell ⟨r, 2, none⟩ c).setCell ⟨r, 3, none⟩ d).setCell ⟨r, 4, none⟩ e).heap[k]? = w.heap[k]? := by
  exact ((((Below.heap_setCell _ ⟨r, 4, none⟩ e k hk).trans (Below.heap_setCell _ ⟨r, 3, none⟩ d k hk)).trans (Below.heap_setCell _ ⟨r, 2, none⟩ c k hk)).trans (Below.heap_setCell _ ⟨r, 1, none⟩ b k hk)).trans (Below.heap_setCell _ ⟨r, 0, none⟩ a k hk)
theorem gb_set1 {w w1 : World} {q r : Nat} (h : w.grownBy w1 (some q)) (hr : w.heap.size ≤ r) (j : Nat) (v : Value) : w.grownBy (w1.setCell ⟨r, j, none⟩ v) (some q) :=
  ⟨h.os, h.tape, h.output, by simpa using h.size, fun k hk hq => (Below.heap_setCell _ _ _ k (by show k ≠ r; omega)).trans (h.block k hk hq)⟩
theorem five_gb {w w1 : World} {q r : Nat} (h : w.grownBy w1 (some q)) (hr : w.heap.size ≤ r) (a b c d e : Value) : w.grownBy (((((w1.setCell ⟨r, 0, none⟩ a).setCell ⟨r, 1, none⟩ b).setCell ⟨r, 2, none⟩ c).setCell ⟨r, 3, none⟩ d).setCell ⟨r, 4, none⟩ e) (some q) :=
  gb_set1 (gb_set1 (gb_set1 (gb_set1 (gb_set1 h hr _ _) hr _ _) hr _ _) hr _ _) hr _ _

set_option maxHeartbeats 6400000 in
theorem rule_any (q : Nat) (L : ByteArray) (w : World) (hL : L.size ≤ 2000) (h : Rd w q L 0) :
    Calls Tryd.prog 42 #[.pointer (some ⟨q, 0, none⟩)] w fun e w' => OutR w q (ruleF L) e w' := by
  have hq := rd_lt h
  have HRA := hide (rd_alloc h (.cells #[.string { data := #[] }, .int .u8 0, .int .u16 0, .slice none 0 0, .bool false] 42))
  have HGA := hide (gb_alloc w (.cells #[.string { data := #[] }, .int .u8 0, .int .u16 0, .slice none 0 0, .bool false] 42) (some q))
  have HSA := hide (st5_new w { data := #[] } 0 0 none 0 0 false)
  have HF0 := hide (show ruleF L = if tk L (nx L (smF L) 33) 58 = true then (if tk L (nx L (smF L) 33 + 1) 32 = true then match exprN L (L.size + 1) (nx L (smF L) 33 + 2) with
    | none => none
    | some (t, j) => if j < L.size then none else some ⟨nmF L, 4 * (L.size + 1) + 1, t, tk L (smF L) 33⟩
    else none) else none from rfl)
  have hle := smF_le L
  clear h
  go_enter Tryd.func42, Tryd.ntmps42
  go_wp2_with fail
  generalize w.alloc (.cells #[.string { data := #[] }, .int .u8 0, .int .u16 0, .slice none 0 0, .bool false] 42) = W at *
  obtain ⟨r, hr⟩ : ∃ r, w.heap.size = r := ⟨_, rfl⟩
  rw [hr] at HSA ⊢
  have HQ := hide hr
  have hqr : q ≠ r := by omega
  have HQR := hide (show q < r by omega)
  clear hr hq
  refine (name_any q L 0 W hL HRA.out).mono ?_
  rintro e w1 ⟨rfl, h1, h2⟩
  have HR1 := hide h1
  have HG1 := hide (gb_trans HGA.out h2)
  have HS1 := hide (st5_grown HSA.out h2 (by simp; omega))
  clear h1 h2 HRA HGA HSA
  go_wp2_with fail
  refine (takes_any q L (smF L) 33 w1 hle hL HR1.out).mono ?_
  rintro e w2 ⟨rfl, h1, h2⟩
  have HR2 := hide h1
  have HG2 := hide (gb_trans HG1.out h2)
  have HS2 := hide (st5_grown HS1.out h2 (by simp; omega))
  have hle2 : nx L (smF L) 33 ≤ L.size := by
    unfold nx
    by_cases hc : tk L (smF L) 33 = true
    · rw [if_pos hc]; exact tk_lt hc
    · rw [if_neg hc]; exact hle
  clear h1 h2 HR1 HG1 HS1
  obtain ⟨br, hbr⟩ : ∃ br, tk L (smF L) 33 = br := ⟨_, rfl⟩
  obtain ⟨i1, hi1⟩ : ∃ i1, nx L (smF L) 33 = i1 := ⟨_, rfl⟩
  rw [hbr, hi1] at HF0
  rw [hi1] at hle2 HR2
  rw [hbr]
  have HBR := hide (And.intro hbr hi1)
  clear hbr hi1 hle
  cases ht : tk L i1 58 with
  | false =>
    rw [ht] at HF0
    have HFE := hide (show ruleF L = none from HF0.out)
    have HT := hide ht
    clear ht HF0
    go_wp2_with fail
    refine (need_no q L i1 58 w2 hle2 hL HR2.out HT.out).mono ?_
    rintro e w3 ⟨rfl, h3⟩
    have HG3 := hide (gb_trans HG2.out h3)
    clear h3
    go_wp2
    refine ⟨rfl, ?_⟩
    rw [HFE.out]
    exact ⟨rfl, HG3.out⟩
  | true =>
    rw [ht] at HF0
    have HT := hide ht
    have hlt1 := tk_lt ht
    clear ht
    go_wp2_with fail
    refine (need_yes q L i1 58 w2 hle2 hL HR2.out HT.out).mono ?_
    rintro e w3 ⟨rfl, h1, h2⟩
    have HR3 := hide h1
    have HG3 := hide (gb_trans HG2.out h2)
    have HS3 := hide (st5_grown HS2.out h2 (by simp; omega))
    clear h1 h2 HR2 HG2 HS2
    cases ht : tk L (i1 + 1) 32 with
    | false =>
      rw [ht] at HF0
      have HFE := hide (show ruleF L = none from HF0.out)
      have HT := hide ht
      clear ht HF0
      go_wp2_with fail
      refine (need_no q L (i1 + 1) 32 w3 hlt1 hL HR3.out HT.out).mono ?_
      rintro e w4 ⟨rfl, h3⟩
      have HG4 := hide (gb_trans HG3.out h3)
      clear h3
      go_wp2
      refine ⟨rfl, ?_⟩
      rw [HFE.out]
      exact ⟨rfl, HG4.out⟩
    | true =>
      rw [ht] at HF0
      have HT := hide ht
      have hlt2 := tk_lt ht
      clear ht
      go_wp2_with fail
      refine (need_yes q L (i1 + 1) 32 w3 hlt1 hL HR3.out HT.out).mono ?_
      rintro e w4 ⟨rfl, h1, h2⟩
      have HR4 := hide (show Rd w4 q L (i1 + 2) from h1)
      have HG4 := hide (gb_trans HG3.out h2)
      have HS4 := hide (st5_grown HS3.out h2 (by simp; omega))
      clear h1 h2 HR3 HG3 HS3
      go_wp2_with fail
      refine (exprN_any q L hL (L.size + 1) (i1 + 2) w4 hlt2 (by omega) HR4.out).mono ?_
      intro e w5 hout
      cases hE : exprN L (L.size + 1) (i1 + 2) with
      | none =>
        rw [hE] at hout HF0
        obtain ⟨rfl, h3⟩ := hout
        have HFE := hide (show ruleF L = none from HF0.out)
        have HG5 := hide (gb_trans HG4.out h3)
        clear h3 hE HF0
        go_wp2
        refine ⟨rfl, ?_⟩
        rw [HFE.out]
        exact ⟨rfl, HG5.out⟩
      | some p =>
        obtain ⟨t, j⟩ := p
        rw [hE] at hout HF0
        obtain ⟨y, S, rfl, hT, hN, hS, hij, hj, h3, h4⟩ := hout
        have HG5 := hide (gb_trans (gb_trans HG4.out h4) (gb_alloc w5 (.cells #[.int .u8 y.k, .int .u16 y.s, .slice y.a y.l y.c] 40) (some q)))
        have HR5 := hide (rd_alloc h3 (.cells #[.int .u8 y.k, .int .u16 y.s, .slice y.a y.l y.c] 40))
        have HS5 := hide (st5_alloc (st5_grown HS4.out h4 (by simp; omega)) (.cells #[.int .u8 y.k, .int .u16 y.s, .slice y.a y.l y.c] 40))
        have HY := hide (st3_new w5 y.k y.s (.slice y.a y.l y.c))
        have HT5 := hide (tr_alloc hT (.cells #[.int .u8 y.k, .int .u16 y.s, .slice y.a y.l y.c] 40))
        have HSS := hide (show ∀ b ∈ S, r < b from fun b hb => by have := hS b hb; have := st5_lt HS4.out; omega)
        have HF1 := hide (show ruleF L = if j < L.size then none else some ⟨nmF L, 4 * (L.size + 1) + 1, t, br⟩ from HF0.out)
        clear hT hN hS h3 h4 hE HR4 HG4 HS4 HF0
        go_wp2_with fail
        generalize w5.alloc (.cells #[.int .u8 y.k, .int .u16 y.s, .slice y.a y.l y.c] 40) = W5 at *
        generalize w5.heap.size = z at *
        obtain ⟨p0, p1, f0, f1⟩ := rd_cells HR5.out
        obtain ⟨n0, n1, n2, -⟩ := st3_cells HY.out
        by_cases hjl : j < L.size
        · have hjl' : (j : Int) < (L.size : Int) := by omega
          have g1 : decide ((j : Int) < (L.size : Int)) = true := by simp; omega
          have HFE := hide (show ruleF L = none by rw [HF1.out, if_pos hjl])
          clear HF1 hjl
          go_quiet (fail)
          go_wp2
          refine ⟨rfl, ?_⟩
          rw [HFE.out]
          exact ⟨rfl, gb_trans HG5.out (gb_drewN _ _ _)⟩
        · have hjl' : ¬ (j : Int) < (L.size : Int) := by omega
          have g1 : decide ((j : Int) < (L.size : Int)) = false := by simp; omega
          have HFE := hide (show ruleF L = some ⟨nmF L, 4 * (L.size + 1) + 1, t, br⟩ by rw [HF1.out, if_neg hjl])
          clear HF1 hjl
          obtain ⟨m0, m1, m2, m3, m4, m5⟩ := st5_cells HS5.out
          have k0 := m5 0
          have k1 := m5 1
          have k2 := m5 2
          have k3 := m5 3
          have k4 := m5 4
          clear m5
          go_quiet (fail)
          go_wp2
          refine bodyPost_ret (v := .agg #[.string (nmF L), .int .u8 y.k, .int .u16 y.s, .slice y.a y.l y.c, .bool br]) (by simp [results, Tryd.results42, go_sem, m0, m1, m2, m3, m4]) rfl ?_
          rw [HFE.out]
          refine ⟨y.k, y.s, y.a, y.l, y.c, S, rfl, ?_, (fun b hb => by have := HSS.out b hb; have := HQ.out; omega), ?_⟩
          · have hT6 : Tr (W5.drewN nq) (4 * (L.size + 1) + 1) t y S := tr_kept HT5.out (fun b hb => HSS.out b hb) (keep_drewN (r + 1) W5 nq)
            exact tr_keep _ t y S (fun b hb => five_heap _ _ _ _ _ _ _ b (by have := HSS.out b hb; omega)) hT6
          · exact five_gb (gb_trans HG5.out (gb_drewN W5 (some q) nq)) (by have := HQ.out; omega) _ _ _ _ _
end Go.Proofs.YtgjjmcgmdlfdaaaDoor.A
