/- The program's measure, Right. -/
import Derived.Test.YtldeofdjhpfdaaaR
import Derived.Test.YtldeofdjhpfdaaaK
namespace Go.Proofs.Ytldeofdjhpfdaaa.A
open Go.RowKit

theorem ret_meas {a b c d : Nat} {x y : Bool} (h1 : a = b) (h2 : c = d) (h3 : x = y) : Ending.returned (.tuple #[.int .i64 (a : Int), .int .i64 (c : Int), .bool x]) = .returned (.tuple #[.int .i64 (b : Int), .int .i64 (d : Int), .bool y]) := by rw [h1, h2, h3]
set_option maxRecDepth 100000 in
set_option maxHeartbeats 1600000 in
theorem measure_any (n : Nat) (t : Ex n) (v : Value) (w : World) (h : Rx w n t v) :
    Calls Try.prog 42 #[v] w fun e w' => e = .returned (.tuple #[.int .i64 (nodesR n t : Nat), .int .i64 (deepR n t : Nat), .bool (rightE n t)]) ∧ Below w.heap.size w w' := by
  obtain ⟨c0, c1, c2, rfl⟩ := rx_form h
  obtain ⟨kx, sx, ax, lx, cx, rfl, rfl, rfl⟩ := rx_cells h
  have hmf : ∀ (fn : Fn) (first cap : Array Value) (w : World), (Instr.makeFunc fn first cap).run Try.prog w = .ok (.func fn first cap) w := fun _ _ _ _ => rfl
  have HW := hide (walk_right (rx_full n t _ h))
  have HX := hide h
  clear h
  have HN := hide (show nodesR n t = if rightE n t = true then nodesE n t else 0 from rfl)
  have HD := hide (show deepR n t = if rightE n t = true then deepE n t 12 else 0 from rfl)
  have HB0 := hide ((((Below.refl w.heap.size w).alloc (Nat.le_refl _) (.cells #[.int .u8 kx, .int .u16 sx, .slice ax lx cx] 51)).alloc (by simp) (.cells #[.int .i64 0] 3)).alloc (by simp; omega) (.cells #[.int .i64 0] 3))
  have HC1 := hide (show Cn (((w.alloc (.cells #[.int .u8 kx, .int .u16 sx, .slice ax lx cx] 51)).alloc (.cells #[.int .i64 0] 3)).alloc (.cells #[.int .i64 0] 3)) (w.heap.size + 1) 0 from by
    have e := heap_alloc_last (w.alloc (.cells #[.int .u8 kx, .int .u16 sx, .slice ax lx cx] 51)) (.cells #[.int .i64 0] 3)
    rw [show (w.alloc (.cells #[.int .u8 kx, .int .u16 sx, .slice ax lx cx] 51)).heap.size = w.heap.size + 1 by simp] at e
    exact cn_alloc (x := 0) e _)
  have HC2 := hide (show Cn (((w.alloc (.cells #[.int .u8 kx, .int .u16 sx, .slice ax lx cx] 51)).alloc (.cells #[.int .i64 0] 3)).alloc (.cells #[.int .i64 0] 3)) (w.heap.size + 2) 0 from by
    have e := heap_alloc_last ((w.alloc (.cells #[.int .u8 kx, .int .u16 sx, .slice ax lx cx] 51)).alloc (.cells #[.int .i64 0] 3)) (.cells #[.int .i64 0] 3)
    rw [show ((w.alloc (.cells #[.int .u8 kx, .int .u16 sx, .slice ax lx cx] 51)).alloc (.cells #[.int .i64 0] 3)).heap.size = w.heap.size + 2 by simp] at e
    exact e)
  go_enter Try.func42, Try.ntmps42
  go_wp2_with fail
  refine (walk_any w (w.heap.size + 1) (w.heap.size + 2) (by omega) (by omega) (by omega) n t _ 1 0 0 _ (by omega) (by omega) (by omega) HX.out ⟨HB0.out, HC1.out, HC2.out⟩).mono ?_
  rintro e w1 ⟨rfl, hb1, hc1, hc2⟩
  have HB1 := hide hb1
  obtain ⟨d1, _⟩ := cn_cell hc1
  obtain ⟨d2, _⟩ := cn_cell hc2
  clear hb1 hc1 hc2 HB0 HC1 HC2
  rw [HW.out.1]
  have HW2 := hide HW.out.2
  clear HW
  cases hr : rightE n t with
  | false =>
    rw [hr] at HN HD
    have HR := hide hr
    clear hr
    go_wp2
    go_ret3
    exact ⟨by rw [HN.out, HD.out, HR.out]; rfl, HB1.out⟩
  | true =>
    rw [hr] at HN HD
    obtain ⟨e1, e2⟩ := HW2.out hr
    rw [e1] at d1
    rw [e2] at d2
    have HR := hide hr
    clear hr e1 e2 HW2
    go_wp2
    go_quiet (fail)
    go_wp2
    go_ret3
    exact ⟨by rw [HN.out, HD.out, HR.out]; rfl, below_drewN HB1.out _⟩
set_option maxHeartbeats 800000 in
theorem right_any (n : Nat) (t : Ex n) (v : Value) (w : World) (h : Rx w n t v) :
    Calls Try.prog 26 #[v] w fun e w' => e = .returned (.bool (rightE n t)) ∧ Below w.heap.size w w' := by
  obtain ⟨c0, c1, c2, rfl⟩ := rx_form h
  have HX := hide h
  have HB0 := hide ((Below.refl w.heap.size w).alloc (Nat.le_refl _) (.cells #[c0, c1, c2] 51))
  clear h
  go_enter Try.func26, Try.ntmps26
  go_wp2_with fail
  refine (measure_any n t _ _ (rx_below HB0.out n t _ HX.out)).mono ?_
  rintro e w1 ⟨rfl, hb1⟩
  have HB1 := hide (HB0.out.trans (hb1.mono HB0.out.size))
  clear hb1
  go_wp2
  go_ret
  exact ⟨rfl, HB1.out⟩
end Go.Proofs.Ytldeofdjhpfdaaa.A
