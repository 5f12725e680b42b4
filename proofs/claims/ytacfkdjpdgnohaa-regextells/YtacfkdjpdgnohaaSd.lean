/- The program's Same; the example. -/
import Derived.Test.YtacfkdjpdgnohaaSc
import Derived.Carry
namespace Go.Proofs.Ytacfkdjpdgnohaa.A
open Go.RowKit

theorem env_start (w : World) (o1 o2 : Obj) :
    Env w (((((w.alloc o1).alloc o2).alloc (.map #[] 0)).alloc (.cells #[.map (some (w.heap.size + 1 + 1))] 43)).alloc (.cells #[.func (.func 31) #[] #[.pointer (some ⟨w.heap.size + 1 + 1 + 1, 0, none⟩), .pointer (some ⟨w.heap.size + 1 + 1 + 1 + 1, 0, none⟩)]] 35)) (w.heap.size + 1 + 1 + 1) (w.heap.size + 1 + 1 + 1 + 1) (w.heap.size + 1 + 1) (fun _ => False) := by
  have z1 : (w.alloc o1).heap.size = w.heap.size + 1 := by simp
  have z2 : ((w.alloc o1).alloc o2).heap.size = w.heap.size + 1 + 1 := by simp
  have z3 : (((w.alloc o1).alloc o2).alloc (.map #[] 0)).heap.size = w.heap.size + 1 + 1 + 1 := by simp
  have z4 : ((((w.alloc o1).alloc o2).alloc (.map #[] 0)).alloc (.cells #[.map (some (w.heap.size + 1 + 1))] 43)).heap.size = w.heap.size + 1 + 1 + 1 + 1 := by simp
  have e3 := heap_alloc_last ((w.alloc o1).alloc o2) (.map #[] 0)
  rw [z2] at e3
  have e4 := heap_alloc_last (((w.alloc o1).alloc o2).alloc (.map #[] 0)) (.cells #[.map (some (w.heap.size + 1 + 1))] 43)
  rw [z3] at e4
  have e5 := heap_alloc_last ((((w.alloc o1).alloc o2).alloc (.map #[] 0)).alloc (.cells #[.map (some (w.heap.size + 1 + 1))] 43)) (.cells #[.func (.func 31) #[] #[.pointer (some ⟨w.heap.size + 1 + 1 + 1, 0, none⟩), .pointer (some ⟨w.heap.size + 1 + 1 + 1 + 1, 0, none⟩)]] 35)
  rw [z4] at e5
  refine ⟨((((((Below.refl w.heap.size w).alloc (Nat.le_refl _) _).alloc (by omega) _).alloc (by omega) _).alloc (by omega) _).alloc (by omega) _), by omega, by omega, by omega, (Below.heap_alloc _ _ _ (by omega)).trans e4, e5, #[], 0, (Below.heap_alloc _ _ _ (by omega)).trans ((Below.heap_alloc _ _ _ (by omega)).trans e3), fun e he => by simp at he, fun e he => by simp at he⟩
set_option maxRecDepth 100000 in
set_option maxHeartbeats 3200000 in
theorem same_yes (n : Nat) (t : Ex n) (x : Nd) (S : List Nat) (v : Value) (w : World) (ht : Tr w n t x S) (hS : S.Nodup) (hr : Rx w n t v) :
    Calls Try.prog 23 #[.agg #[.int .u8 x.k, .int .u16 x.s, .slice x.a x.l x.c], v] w fun e w' => e = .returned (.bool true) ∧ Below w.heap.size w w' := by
  obtain ⟨c0, c1, c2, rfl⟩ := rx_form hr
  obtain ⟨kx, sx, ax, lx, cx, rfl, rfl, rfl⟩ := rx_cells hr
  have hmf : ∀ (fn : Fn) (first cap : Array Value) (w : World), (Instr.makeFunc fn first cap).run Try.prog w = .ok (.func fn first cap) w := fun _ _ _ _ => rfl
  have hmm := @run_makeMap Try.prog
  have hstf : ∀ (a : Addr) (fn : Fn) (first cap : Array Value) (m : Mode) (w : World), Sem.run Try.prog (store a (.func fn first cap) m) w = stored Try.prog w a (.func fn first cap) m := fun a fn first cap m w => run_store Try.prog w a _ m rfl
  have HT := hide ht
  have HS := hide hS
  have HR := hide hr
  clear ht hS hr
  go_enter Try.func23, Try.ntmps23
  go_wp2_with fail
  have HE := hide (env_start w (.cells #[.int .u8 x.k, .int .u16 x.s, .slice x.a x.l x.c] 25) (.cells #[.int .u8 kx, .int .u16 sx, .slice ax lx cx] 25))
  refine (alike_any w _ _ _ n t x S _ _ _ HT.out HS.out (fun _ _ h => h) HR.out HE.out).mono ?_
  rintro e w1 ⟨rfl, henv⟩
  have HB := hide henv.1
  clear henv HE
  go_wp2
  go_ret
  exact ⟨rfl, HB.out⟩

/-- The example. -/
def ex0 : Ex 3 := (2, 0, [(1, 2, []), (4, 0, [(1, 4, [])])])
theorem ex_tr {w : World} {b2 b3 : Nat} (h2 : w.heap[b2]? = some (.cells #[.int .u8 1, .int .u16 4, .slice none 0 0] 25 (0, 0))) (h3 : w.heap[b3]? = some (.cells #[.int .u8 1, .int .u16 2, .slice none 0 0, .int .u8 4, .int .u16 0, .slice (some ⟨b2, 0, none⟩) 1 1] 25 (0, 0))) : Tr w 3 ex0 ⟨2, 0, some ⟨b3, 0, none⟩, 2, 2⟩ [b3, b2] := by
  have hm : (2 : Nat) ≤ maxLen := by unfold maxLen; omega
  have hm1 : (1 : Nat) ≤ maxLen := by unfold maxLen; omega
  have hm0 : (0 : Nat) ≤ maxLen := Nat.zero_le _
  have t1 : Tr w 2 ((1, 2, []) : Ex 2) ⟨1, 2, none, 0, 0⟩ [] := ⟨rfl, rfl, by decide, by decide, Nat.le_refl _, hm0, rfl, .inl ⟨rfl, rfl⟩⟩
  have t2 : Tr w 1 ((1, 4, []) : Ex 1) ⟨1, 4, none, 0, 0⟩ [] := ⟨rfl, rfl, by decide, by decide, Nat.le_refl _, hm0, rfl, .inl ⟨rfl, rfl⟩⟩
  have t3 : Tr w 2 ((4, 0, [(1, 4, [])]) : Ex 2) ⟨4, 0, some ⟨b2, 0, none⟩, 1, 1⟩ [b2] := by
    refine ⟨rfl, rfl, by decide, by decide, Nat.le_refl _, hm1, rfl, .inr ⟨b2, _, [⟨1, 4, none, 0, 0⟩], [[]], rfl, h2, rfl, rfl, rfl, rfl, ?_⟩⟩
    intro i e y T he hy hT
    match i with
    | 0 =>
      obtain rfl : ((1, 4, []) : Ex 1) = e := Option.some.inj he
      obtain rfl : (⟨1, 4, none, 0, 0⟩ : Nd) = y := Option.some.inj hy
      obtain rfl : ([] : List Nat) = T := Option.some.inj hT
      exact t2
    | i + 1 => simp at hy
  refine ⟨rfl, rfl, by decide, by decide, Nat.le_refl _, hm, rfl, .inr ⟨b3, _, [⟨1, 2, none, 0, 0⟩, ⟨4, 0, some ⟨b2, 0, none⟩, 1, 1⟩], [[], [b2]], rfl, h3, rfl, rfl, rfl, rfl, ?_⟩⟩
  intro i e y T he hy hT
  match i with
  | 0 =>
    obtain rfl : ((1, 2, []) : Ex 2) = e := Option.some.inj he
    obtain rfl : (⟨1, 2, none, 0, 0⟩ : Nd) = y := Option.some.inj hy
    obtain rfl : ([] : List Nat) = T := Option.some.inj hT
    exact t1
  | 1 =>
    obtain rfl : ((4, 0, [(1, 4, [])]) : Ex 2) = e := Option.some.inj he
    obtain rfl : (⟨4, 0, some ⟨b2, 0, none⟩, 1, 1⟩ : Nd) = y := Option.some.inj hy
    obtain rfl : [b2] = T := Option.some.inj hT
    exact t3
  | i + 2 => simp at hy
set_option maxRecDepth 100000 in
set_option maxHeartbeats 3200000 in
theorem example_any (w : World) : Calls Try.prog 24 #[] w fun e w' => Makes w 3 ex0 e w' := by
  go_enter Try.func24, Try.ntmps24
  go_wp2
  refine bodyPost_ret (v := .agg #[.int .u8 2, .int .u16 0, .slice (some ⟨w.heap.size + 1 + 1 + 1, 0, none⟩) 2 2]) (by simp [results, Try.results24, go_sem]) rfl ?_
  refine ⟨⟨2, 0, some ⟨w.heap.size + 1 + 1 + 1, 0, none⟩, 2, 2⟩, [w.heap.size + 1 + 1 + 1, w.heap.size + 1 + 1], rfl, ex_tr ?_ ?_, by simp, fun b hb => by simp at hb; omega, ?_⟩
  · refine (Below.heap_alloc _ _ _ (by simp)).trans ?_
    have e := heap_alloc_last ((w.alloc (.cells #[.int .u8 2, .int .u16 0, .slice (some ⟨w.heap.size + 1 + 1 + 1, 0, none⟩) 2 2] 25)).alloc (.cells #[.int .u8 1, .int .u16 4, .slice none 0 0] 25)) (.cells #[.int .u8 1, .int .u16 4, .slice none 0 0] 25)
    rw [show ((w.alloc (.cells #[.int .u8 2, .int .u16 0, .slice (some ⟨w.heap.size + 1 + 1 + 1, 0, none⟩) 2 2] 25)).alloc (.cells #[.int .u8 1, .int .u16 4, .slice none 0 0] 25)).heap.size = w.heap.size + 1 + 1 by simp] at e
    exact e
  · have e := heap_alloc_last (((w.alloc (.cells #[.int .u8 2, .int .u16 0, .slice (some ⟨w.heap.size + 1 + 1 + 1, 0, none⟩) 2 2] 25)).alloc (.cells #[.int .u8 1, .int .u16 4, .slice none 0 0] 25)).alloc (.cells #[.int .u8 1, .int .u16 4, .slice none 0 0] 25)) (.cells #[.int .u8 1, .int .u16 2, .slice none 0 0, .int .u8 4, .int .u16 0, .slice (some ⟨w.heap.size + 1 + 1, 0, none⟩) 1 1] 25)
    rw [show (((w.alloc (.cells #[.int .u8 2, .int .u16 0, .slice (some ⟨w.heap.size + 1 + 1 + 1, 0, none⟩) 2 2] 25)).alloc (.cells #[.int .u8 1, .int .u16 4, .slice none 0 0] 25)).alloc (.cells #[.int .u8 1, .int .u16 4, .slice none 0 0] 25)).heap.size = w.heap.size + 1 + 1 + 1 by simp] at e
    exact e
  · exact ((((Below.refl _ w).alloc (Nat.le_refl _) _).alloc (by simp) _).alloc (by simp; omega) _).alloc (by simp; omega) _
theorem ex_right : rightE 3 ex0 = true := by decide
theorem ex_nodes : nodesR 3 ex0 = 4 := by decide
theorem ex_deep : deepR 3 ex0 = 3 := by decide
theorem ex_empty : emptyE 3 ex0 = false := by decide
theorem ex_first : firstR 3 ex0 = 2 := by decide
end Go.Proofs.Ytacfkdjpdgnohaa.A
