/- readRule: what a reader gives up with is answered. -/
import Derived.Test.YtgjjmcgmdlfdaaaDoorTc
namespace Go.Proofs.YtgjjmcgmdlfdaaaDoor.A
open Go.RowKit
set_option linter.unusedVariables false

set_option maxHeartbeats 1600000 in
theorem catch_panicking (b b1 : Nat) (nm : ByteArray) (k s : Nat) (a : Option Addr) (l c : Nat) (br x : Bool) (w : World) (h : St5 w b nm k s a l c br) (h1 : w.heap[b1]? = some (.cells #[.bool x] 4 (0, 0))) (hne : b ≠ b1) :
    CallsD Tryd.prog 41 #[.pointer (some ⟨b, 0, none⟩), .pointer (some ⟨b1, 0, none⟩)] (.panicking gave) w fun e u' w' =>
      e = .returned (.tuple #[]) ∧ u' = .panicking [{ v := .iface 87 (.agg #[]), recovered := true }] ∧
      w' = (((((w.setCell ⟨b, 0, none⟩ (.string { data := #[] })).setCell ⟨b, 1, none⟩ (.int .u8 0)).setCell ⟨b, 2, none⟩ (.int .u16 0)).setCell ⟨b, 3, none⟩ (.slice none 0 0)).setCell ⟨b, 4, none⟩ (.bool false)).setCell ⟨b1, 0, none⟩ (.bool false) := by
  obtain ⟨m0, m1, m2, m3, m4, m5⟩ := st5_cells h
  have k0 := m5 0
  have k1 := m5 1
  have k2 := m5 2
  have k3 := m5 3
  have k4 := m5 4
  have n0 : w.cell? ⟨b1, 0, none⟩ = some (.bool x) := by simp [World.cell?, h1]
  have n1 : w.frozen? ⟨b1, 0, none⟩ = false := by simp [World.frozen?, h1]
  unfold gave
  clear m5 h h1
  refine callsD_of_wpS Tryd.func41 rfl fun c₀ cs hu => ?_
  apply wpS_seq
  apply wpS_region
  simp [wpOpsS, go_sem, recoverD, hu, Tryd.ntmps41, Exit.thenS]
  refine wpS_cond (t := true) (by simp [Act.eval, Array.replicate]) ?_
  simp only [if_true]
  apply wpS_region
  simp [wpOpsS, go_sem, m0, m1, m2, m3, m4, k0, k1, k2, k3, k4, n0, n1, bodyPostS, results, Tryd.results41]

theorem catch_idle (b b1 : Nat) (w : World) :
    CallsD Tryd.prog 41 #[.pointer (some ⟨b, 0, none⟩), .pointer (some ⟨b1, 0, none⟩)] .returning w fun e u' w' => e = .returned (.tuple #[]) ∧ u' = .returning ∧ w' = w := by
  refine callsD_of_wpS Tryd.func41 rfl fun c₀ cs hu => ?_
  apply wpS_seq
  apply wpS_region
  simp [wpOpsS, go_sem, recoverD, hu, Tryd.ntmps41, Exit.thenS]
  refine wpS_cond (t := false) (by simp [Act.eval, Array.replicate]) ?_
  simp only [Bool.false_eq_true, if_false]
  refine wpS_of_wp (wp_skip ?_)
  cases c₀
  simp_all [bodyPostS, results, Tryd.results41]

theorem row_set {w : World} {b : Nat} {cs : Array Value} {t : TypeId} {fr : Nat × Nat} (h : w.heap[b]? = some (.cells cs t fr)) (j : Nat) (v : Value) : (w.setCell ⟨b, j, none⟩ v).heap[b]? = some (.cells (cs.setIfInBounds j v) t fr) := by
  rw [setCell_eq_setRow _ _ _ _ _ _ _ h, setRow_heap _ _ _ _ _ _ h]
theorem five_st5 {w : World} {b : Nat} {nm : ByteArray} {k s : Nat} {a : Option Addr} {l c : Nat} {br : Bool} (h : St5 w b nm k s a l c br) (nm' : ByteArray) (k' s' : Nat) (a' : Option Addr) (l' c' : Nat) (br' : Bool) :
    St5 (((((w.setCell ⟨b, 0, none⟩ (.string nm')).setCell ⟨b, 1, none⟩ (.int .u8 k')).setCell ⟨b, 2, none⟩ (.int .u16 s')).setCell ⟨b, 3, none⟩ (.slice a' l' c')).setCell ⟨b, 4, none⟩ (.bool br')) b nm' k' s' a' l' c' br' :=
  row_set (row_set (row_set (row_set (row_set h 0 _) 1 _) 2 _) 3 _) 4 _

/-- What readRule answers. -/
def OutL (w : World) (R : Option Rl) (e : Ending) (w' : World) : Prop := match R with
  | none => e = .returned (.tuple #[.agg #[.string { data := #[] }, .int .u8 0, .int .u16 0, .slice none 0 0, .bool false], .bool false]) ∧ Below w.heap.size w w'
  | some x => ∃ (y : Nd) (S : List Nat), e = .returned (.tuple #[.agg #[.string x.nm, .int .u8 y.k, .int .u16 y.s, .slice y.a y.l y.c, .bool x.br], .bool true]) ∧ x.nm.size ≤ 2000 ∧ Tr w' x.n x.t y S ∧ (∀ b ∈ S, w.heap.size ≤ b) ∧ Below w.heap.size w w'

set_option maxHeartbeats 3200000 in
theorem readRule_any (L : ByteArray) (w : World) (hL : L.size ≤ 2000) : Calls Tryd.prog 26 #[.string L] w fun e w' => OutL w (ruleF L) e w' := by
  have hmf : ∀ (fn : Fn) (first cap : Array Value) (w : World), (Instr.makeFunc fn first cap).run Tryd.prog w = .ok (.func fn first cap) w := fun _ _ _ _ => rfl
  have HB0 := hide ((((Below.refl w.heap.size w).alloc (Nat.le_refl _) (.cells #[.string { data := #[] }, .int .u8 0, .int .u16 0, .slice none 0 0, .bool false] 42)).alloc (by simp) (.cells #[.bool false] 4)).alloc (by simp; omega) (.cells #[.string L, .int .i64 0] 71))
  have HS0 := hide (st5_alloc (st5_alloc (st5_new w { data := #[] } 0 0 none 0 0 false) (.cells #[.bool false] 4)) (.cells #[.string L, .int .i64 0] 71))
  have HO0 := hide (show (((w.alloc (.cells #[.string { data := #[] }, .int .u8 0, .int .u16 0, .slice none 0 0, .bool false] 42)).alloc (.cells #[.bool false] 4)).alloc (.cells #[.string L, .int .i64 0] 71)).heap[w.heap.size + 1]? = some (.cells #[.bool false] 4 (0, 0)) from by
    have e := heap_alloc_last (w.alloc (.cells #[.string { data := #[] }, .int .u8 0, .int .u16 0, .slice none 0 0, .bool false] 42)) (.cells #[.bool false] 4)
    rw [show (w.alloc (.cells #[.string { data := #[] }, .int .u8 0, .int .u16 0, .slice none 0 0, .bool false] 42)).heap.size = w.heap.size + 1 by simp] at e
    exact (Below.heap_alloc _ _ _ (by simp)).trans e)
  have HR0 := hide (show Rd (((w.alloc (.cells #[.string { data := #[] }, .int .u8 0, .int .u16 0, .slice none 0 0, .bool false] 42)).alloc (.cells #[.bool false] 4)).alloc (.cells #[.string L, .int .i64 0] 71)) (w.heap.size + 1 + 1) L 0 from by
    have e := heap_alloc_last ((w.alloc (.cells #[.string { data := #[] }, .int .u8 0, .int .u16 0, .slice none 0 0, .bool false] 42)).alloc (.cells #[.bool false] 4)) (.cells #[.string L, .int .i64 0] 71)
    rw [show ((w.alloc (.cells #[.string { data := #[] }, .int .u8 0, .int .u16 0, .slice none 0 0, .bool false] 42)).alloc (.cells #[.bool false] 4)).heap.size = w.heap.size + 1 + 1 by simp] at e
    exact e)
  go_enter_defers Tryd.func26, Tryd.ntmps26
  go_wp2_with fail
  generalize ((w.alloc (.cells #[.string { data := #[] }, .int .u8 0, .int .u16 0, .slice none 0 0, .bool false] 42)).alloc (.cells #[.bool false] 4)).alloc (.cells #[.string L, .int .i64 0] 71) = W at *
  obtain ⟨b, hb⟩ : ∃ b, w.heap.size = b := ⟨_, rfl⟩
  rw [hb] at HB0 HS0 HO0 HR0 ⊢
  have HQ := hide hb
  clear hb
  refine (rule_any (b + 1 + 1) L W hL HR0.out).mono ?_
  intro e w1 hout
  cases hR : ruleF L with
  | none =>
    rw [hR] at hout
    obtain ⟨rfl, hg⟩ := hout
    have hs := st5_grown HS0.out hg (by simp; omega)
    have ho := (hg.block (b + 1) (Array.getElem?_eq_some_iff.1 HO0.out).1 (by simp)).trans HO0.out
    have HBF := hide (HB0.out.grown hg (by have := HB0.out.size; rw [HQ.out] at this; exact this) (fun k hk => by simp at hk; omega))
    have HR := hide hR
    clear hR hg
    refine leaves_cons (f := 41) (args := #[.pointer (some ⟨b, 0, none⟩), .pointer (some ⟨b + 1, 0, none⟩)]) (by simp) (by simp [go_sem]) ?_
    refine (catch_panicking b (b + 1) _ _ _ _ _ _ _ _ w1 hs ho (by omega)).mono ?_
    rintro e u' w2 ⟨rfl, rfl, hw2⟩
    have hs2 : St5 w2 b { data := #[] } 0 0 none 0 0 false := by
      rw [hw2]
      exact (Below.heap_setCell _ _ _ _ (by show b ≠ b + 1; omega)).trans (five_st5 hs { data := #[] } 0 0 none 0 0 false)
    have ho2 : w2.heap[b + 1]? = some (.cells #[.bool false] 4 (0, 0)) := by
      rw [hw2]
      exact row_set ((five_heap _ _ _ _ _ _ _ _ (by omega)).trans ho) 0 (.bool false)
    have HB2 := hide (show Below w.heap.size w w2 from by
      rw [hw2, HQ.out]
      exact (((((HBF.out.setCell (by simp) _).setCell (by simp) _).setCell (by simp) _).setCell (by simp) _).setCell (by simp) _).setCell (by simp) _)
    obtain ⟨m0, m1, m2, m3, m4, -⟩ := st5_cells hs2
    have n0 : w2.cell? ⟨b + 1, 0, none⟩ = some (.bool false) := by simp [World.cell?, ho2]
    clear hw2 hs ho
    simp [Leaves, settle, results, Tryd.results26, go_sem, m0, m1, m2, m3, m4, n0]
    rw [HR.out]
    exact ⟨rfl, HB2.out⟩
  | some x =>
    rw [hR] at hout
    obtain ⟨k, s, a, l, c, S, rfl, hT, hS, hg⟩ := hout
    have hs := st5_grown HS0.out hg (by simp; omega)
    have ho := (hg.block (b + 1) (Array.getElem?_eq_some_iff.1 HO0.out).1 (by simp)).trans HO0.out
    have HBF := hide (HB0.out.grown hg (by have := HB0.out.size; rw [HQ.out] at this; exact this) (fun k hk => by simp at hk; omega))
    have HR := hide hR
    have HT := hide hT
    have HSS := hide (show ∀ z ∈ S, b + 2 ≤ z from fun z hz => by have := hS z hz; have := rd_lt HR0.out; omega)
    have HNM := hide (show x.nm.size ≤ 2000 from by
      have e : x.nm = nmF L := by
        have := hR
        unfold ruleF at this
        split at this
        · split at this
          · split at this
            · cases this
            · split at this
              · cases this
              · cases this; rfl
          · cases this
        · cases this
      rw [e]
      unfold nmF
      simp
      omega)
    obtain ⟨m0, m1, m2, m3, m4, m5⟩ := st5_cells hs
    have k0 := m5 0
    have k1 := m5 1
    have k2 := m5 2
    have k3 := m5 3
    have k4 := m5 4
    have n0 : w1.cell? ⟨b + 1, 0, none⟩ = some (.bool false) := by simp [World.cell?, ho]
    have n1 : w1.frozen? ⟨b + 1, 0, none⟩ = false := by simp [World.frozen?, ho]
    have HS1 := hide hs
    have HO1 := hide ho
    clear hR hg hT hS m5 hs ho
    have HS3 := hide (show St5 ((((((w1.setCell ⟨b, 0, none⟩ (.string x.nm)).setCell ⟨b, 1, none⟩ (.int .u8 k)).setCell ⟨b, 2, none⟩ (.int .u16 s)).setCell ⟨b, 3, none⟩ (.slice a l c)).setCell ⟨b, 4, none⟩ (.bool x.br)).setCell ⟨b + 1, 0, none⟩ (.bool true)) b x.nm k s a l c x.br from (Below.heap_setCell _ _ _ _ (by show b ≠ b + 1; omega)).trans (five_st5 HS1.out x.nm k s a l c x.br))
    have HO3 := hide (show ((((((w1.setCell ⟨b, 0, none⟩ (.string x.nm)).setCell ⟨b, 1, none⟩ (.int .u8 k)).setCell ⟨b, 2, none⟩ (.int .u16 s)).setCell ⟨b, 3, none⟩ (.slice a l c)).setCell ⟨b, 4, none⟩ (.bool x.br)).setCell ⟨b + 1, 0, none⟩ (.bool true)).heap[b + 1]? = some (.cells #[.bool true] 4 (0, 0)) from row_set ((five_heap _ _ _ _ _ _ _ _ (by omega)).trans HO1.out) 0 (.bool true))
    have HB3 := hide (show Below w.heap.size w ((((((w1.setCell ⟨b, 0, none⟩ (.string x.nm)).setCell ⟨b, 1, none⟩ (.int .u8 k)).setCell ⟨b, 2, none⟩ (.int .u16 s)).setCell ⟨b, 3, none⟩ (.slice a l c)).setCell ⟨b, 4, none⟩ (.bool x.br)).setCell ⟨b + 1, 0, none⟩ (.bool true)) from by
      rw [HQ.out]
      exact (((((HBF.out.setCell (by simp) _).setCell (by simp) _).setCell (by simp) _).setCell (by simp) _).setCell (by simp) _).setCell (by simp) _)
    have HT3 := hide (show Tr ((((((w1.setCell ⟨b, 0, none⟩ (.string x.nm)).setCell ⟨b, 1, none⟩ (.int .u8 k)).setCell ⟨b, 2, none⟩ (.int .u16 s)).setCell ⟨b, 3, none⟩ (.slice a l c)).setCell ⟨b, 4, none⟩ (.bool x.br)).setCell ⟨b + 1, 0, none⟩ (.bool true)) x.n x.t ⟨k, s, a, l, c⟩ S from tr_keep _ _ _ _ (fun z hz => (Below.heap_setCell _ _ _ _ (by show z ≠ b + 1; have := HSS.out z hz; omega)).trans (five_heap _ _ _ _ _ _ _ z (by have := HSS.out z hz; omega))) HT.out)
    go_wp2
    generalize (((((w1.setCell ⟨b, 0, none⟩ (.string x.nm)).setCell ⟨b, 1, none⟩ (.int .u8 k)).setCell ⟨b, 2, none⟩ (.int .u16 s)).setCell ⟨b, 3, none⟩ (.slice a l c)).setCell ⟨b, 4, none⟩ (.bool x.br)).setCell ⟨b + 1, 0, none⟩ (.bool true) = W3 at *
    obtain ⟨r0, r1, r2, r3, r4, -⟩ := st5_cells HS3.out
    have t0 : W3.cell? ⟨b + 1, 0, none⟩ = some (.bool true) := by simp [World.cell?, HO3.out]
    refine leaves_cons (f := 41) (args := #[.pointer (some ⟨b, 0, none⟩), .pointer (some ⟨b + 1, 0, none⟩)]) (by simp) (by simp [go_sem]) ?_
    refine (catch_idle b (b + 1) _).mono ?_
    rintro e u' w4 ⟨rfl, rfl, rfl⟩
    simp [Leaves, settle, results, Tryd.results26, go_sem, r0, r1, r2, r3, r4, t0]
    rw [HR.out]
    exact ⟨⟨k, s, a, l, c⟩, S, rfl, HNM.out, HT3.out, (fun z hz => by have := HSS.out z hz; have := HQ.out; omega), HB3.out⟩
end Go.Proofs.YtgjjmcgmdlfdaaaDoor.A
