/- The program's nodeRight, and what measures an expression. -/
import Derived.Test.YtldeofdjhpfdaaaP
import Derived.Test.YtldeofdjhpfdaaaD
namespace Go.Proofs.Ytldeofdjhpfdaaa.A
open Go.RowKit

set_option maxRecDepth 100000 in
set_option maxHeartbeats 3200000 in
theorem node_any (kk ss len : Nat) (a : Option Addr) (cap : Nat) (w : World) (hl : len ≤ maxLen) :
    Calls Try.prog 52 #[.agg #[.int .u8 kk, .int .u16 ss, .slice a len cap]] w fun e w' => e = .returned (.bool (okE kk ss len)) ∧ Below w.heap.size w w' := by
  unfold maxLen at hl
  go_enter Try.func52, Try.ntmps52
  go_wp2
  all_goals
    go_ret
    refine ⟨ret_bool ?_, (Below.refl w.heap.size w).alloc (Nat.le_refl _) _⟩
    simp only [beq_iff_eq, beq_eq_false_iff_ne, ne_eq] at *
    rw [Bool.eq_iff_iff]
    simp [okE]
    try omega

/-- A number in a cell of its own. -/
def Cn (w : World) (q : Nat) (x : Nat) : Prop := w.heap[q]? = some (.cells #[.int .i64 (x : Int)] 3 (0, 0))
theorem cn_cell {w : World} {q x : Nat} (h : Cn w q x) : w.cell? ⟨q, 0, none⟩ = some (.int .i64 x) ∧ w.frozen? ⟨q, 0, none⟩ = false := by
  unfold Cn at h
  simp [World.cell?, World.frozen?, h]
theorem cn_set {w : World} {q x : Nat} (h : Cn w q x) (y : Nat) : Cn (w.setCell ⟨q, 0, none⟩ (.int .i64 y)) q y := by
  unfold Cn at h ⊢
  rw [setCell_eq_setRow _ _ _ _ _ _ _ h, setRow_heap _ _ _ _ _ _ h]
  rfl
theorem cn_other {w : World} {q x p : Nat} (h : Cn w q x) (hp : q ≠ p) (i : Nat) (u : Value) : Cn (w.setCell ⟨p, i, none⟩ u) q x := by
  unfold Cn at h ⊢
  rw [Below.heap_setCell _ _ _ _ hp]
  exact h
theorem cn_lt {w : World} {q x : Nat} (h : Cn w q x) : q < w.heap.size := (Array.getElem?_eq_some_iff.1 h).1
theorem cn_below {w w' : World} {q x B : Nat} (h : Cn w q x) (hb : Below B w w') (hq : q < B) : Cn w' q x := (hb.block q hq).trans h
theorem cn_alloc {w : World} {q x : Nat} (h : Cn w q x) (o : Obj) : Cn (w.alloc o) q x := (Below.heap_alloc _ _ _ (cn_lt h)).trans h

/-- May one go on at a node, that is the so many-eth, so deep? -/
def takeB (kk ss len d N : Nat) : Bool := decide (N + 1 ≤ 100) && (decide (d ≤ 12) && okE kk ss len)

/-- All but two cells stand. -/
def Rest (w w' : World) (p q : Nat) : Prop := ∀ k, k < w.heap.size → k ≠ p → k ≠ q → w'.heap[k]? = w.heap[k]?
theorem rest_below {w w1 w2 : World} {p q : Nat} (h : Rest w w1 p q) (hs : w.heap.size ≤ w1.heap.size) (hb : Below w1.heap.size w1 w2) : Rest w w2 p q := fun k hk h1 h2 => (hb.block k (by omega)).trans (h k hk h1 h2)
theorem take_mem {w : World} {p q N D B : Nat} (hp : Cn w p N) (hq : Cn w q D) (hpq : p ≠ q) (hBp : B ≤ p) (hBq : B ≤ q) (M E : Nat) (o : Obj) :
    Cn (((w.setCell ⟨p, 0, none⟩ (.int .i64 M)).setCell ⟨q, 0, none⟩ (.int .i64 E)).alloc o) p M ∧ Cn (((w.setCell ⟨p, 0, none⟩ (.int .i64 M)).setCell ⟨q, 0, none⟩ (.int .i64 E)).alloc o) q E ∧ Below B w (((w.setCell ⟨p, 0, none⟩ (.int .i64 M)).setCell ⟨q, 0, none⟩ (.int .i64 E)).alloc o) ∧ Rest w (((w.setCell ⟨p, 0, none⟩ (.int .i64 M)).setCell ⟨q, 0, none⟩ (.int .i64 E)).alloc o) p q := by
  have z1 := cn_lt hp
  have h1 := cn_other (cn_set hp M) hpq 0 (.int .i64 E)
  have h2 := cn_set (cn_other hq hpq.symm 0 (.int .i64 M)) E
  refine ⟨cn_alloc h1 o, cn_alloc h2 o, (((Below.refl B w).setCell hBp _).setCell hBq _).alloc (by simp; omega) o, fun k hk k1 k2 => ?_⟩
  rw [Below.heap_alloc _ _ _ (by simpa using hk), Below.heap_setCell _ _ _ _ k2, Below.heap_setCell _ _ _ _ k1]

set_option maxRecDepth 100000 in
set_option maxHeartbeats 3200000 in
theorem take_any (kk ss len : Nat) (a : Option Addr) (cap d N D p q : Nat) (w : World) (B : Nat) (hl : len ≤ maxLen) (hd : d ≤ 100) (hN : N ≤ 1000) (hD : D ≤ 1000) (hp : Cn w p N) (hq : Cn w q D) (hpq : p ≠ q) (hBp : B ≤ p) (hBq : B ≤ q) :
    Calls Try.prog 51 #[.agg #[.int .u8 kk, .int .u16 ss, .slice a len cap], .int .i64 d, .pointer (some ⟨p, 0, none⟩), .pointer (some ⟨q, 0, none⟩)] w fun e w' => e = .returned (.bool (takeB kk ss len d N)) ∧ Cn w' p (N + 1) ∧ Cn w' q (max D d) ∧ Below B w w' ∧ Rest w w' p q := by
  have z1 := cn_lt hp
  have z2 := cn_lt hq
  have HM := hide (fun (M E : Nat) (o : Obj) => take_mem hp hq hpq hBp hBq M E o)
  obtain ⟨c1, c2⟩ := cn_cell hp
  obtain ⟨c3, c4⟩ := cn_cell hq
  have n1 : p ≠ w.heap.size := by omega
  have n2 : q ≠ w.heap.size := by omega
  have hqp := hpq.symm
  have hML := hide hl
  have HT := hide (show takeB kk ss len d N = (decide (N + 1 ≤ 100) && (decide (d ≤ 12) && okE kk ss len)) from rfl)
  clear hp hq hl
  obtain ⟨M, hM⟩ : ∃ M, N + 1 = M := ⟨_, rfl⟩
  have hMi : (N : Int) + 1 = (M : Int) := by omega
  rw [hM] at HT ⊢
  have HMM := hide hM
  clear hM
  obtain ⟨E, hE⟩ : ∃ E, max D d = E := ⟨_, rfl⟩
  rw [hE]
  by_cases hm : M ≤ 100
  · by_cases hdd : d ≤ 12
    · have m1 : decide ((M : Int) ≤ 100) = true := by simp; omega
      have m2 : decide ((d : Int) ≤ 12) = true := by simp; omega
      have HR := hide (show takeB kk ss len d N = okE kk ss len from by rw [HT.out]; simp [hm, hdd])
      by_cases hlt : D < d
      · have eE : E = d := by omega
        subst eE
        clear HT hE hm hdd
        go_enter Try.func51, Try.ntmps51
        go_wp2_with fail
        obtain ⟨g1, g2, g3, g4⟩ := HM.out M E (.cells #[.int .u8 kk, .int .u16 ss, .slice a len cap] 51)
        refine (node_any kk ss len a cap _ hML.out).mono ?_
        rintro e w2 ⟨rfl, hb2⟩
        have HB2 := hide (g3.trans (hb2.mono (by have := g3.size; omega)))
        have HG1 := hide (cn_below g1 hb2 (cn_lt g1))
        have HG2 := hide (cn_below g2 hb2 (cn_lt g2))
        have HR4 := hide (rest_below g4 g3.size hb2)
        clear g1 g2 g3 g4 hb2
        go_wp2
        go_ret
        exact ⟨by rw [HR.out]; rfl, HG1.out, HG2.out, HB2.out, HR4.out⟩
      · have eE : E = D := by omega
        subst eE
        clear HT hE hm hdd
        go_enter Try.func51, Try.ntmps51
        go_wp2_with fail
        obtain ⟨g1, g2, g3, g4⟩ := HM.out M E (.cells #[.int .u8 kk, .int .u16 ss, .slice a len cap] 51)
        refine (node_any kk ss len a cap _ hML.out).mono ?_
        rintro e w2 ⟨rfl, hb2⟩
        have HB2 := hide (g3.trans (hb2.mono (by have := g3.size; omega)))
        have HG1 := hide (cn_below g1 hb2 (cn_lt g1))
        have HG2 := hide (cn_below g2 hb2 (cn_lt g2))
        have HR4 := hide (rest_below g4 g3.size hb2)
        clear g1 g2 g3 g4 hb2
        go_wp2
        go_ret
        exact ⟨by rw [HR.out]; rfl, HG1.out, HG2.out, HB2.out, HR4.out⟩
    · have m1 : decide ((M : Int) ≤ 100) = true := by simp; omega
      have m2 : decide ((d : Int) ≤ 12) = false := by simp; omega
      have HR := hide (show takeB kk ss len d N = false from by rw [HT.out]; simp [hdd])
      by_cases hlt : D < d
      · have eE : E = d := by omega
        subst eE
        clear HT hE hm hdd
        go_enter Try.func51, Try.ntmps51
        go_wp2
        go_ret
        exact ⟨by rw [HR.out]; rfl, HM.out M E (.cells #[.int .u8 kk, .int .u16 ss, .slice a len cap] 51)⟩
      · have eE : E = D := by omega
        subst eE
        clear HT hE hm hdd
        go_enter Try.func51, Try.ntmps51
        go_wp2
        go_ret
        exact ⟨by rw [HR.out]; rfl, HM.out M E (.cells #[.int .u8 kk, .int .u16 ss, .slice a len cap] 51)⟩
  · have m1 : decide ((M : Int) ≤ 100) = false := by simp; omega
    have HR := hide (show takeB kk ss len d N = false from by rw [HT.out]; simp [hm])
    by_cases hlt : D < d
    · have eE : E = d := by omega
      subst eE
      clear HT hE hm
      go_enter Try.func51, Try.ntmps51
      go_wp2
      go_ret
      exact ⟨by rw [HR.out]; rfl, HM.out M E (.cells #[.int .u8 kk, .int .u16 ss, .slice a len cap] 51)⟩
    · have eE : E = D := by omega
      subst eE
      clear HT hE hm
      go_enter Try.func51, Try.ntmps51
      go_wp2
      go_ret
      exact ⟨by rw [HR.out]; rfl, HM.out M E (.cells #[.int .u8 kk, .int .u16 ss, .slice a len cap] 51)⟩
end Go.Proofs.Ytldeofdjhpfdaaa.A
