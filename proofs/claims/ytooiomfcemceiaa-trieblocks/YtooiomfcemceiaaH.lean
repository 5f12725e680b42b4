/- Contract: what every right program answers. -/
import Derived.Test.YtooiomfcemceiaaK
namespace Go.Proofs.Ytooiomfcemceiaa.A
open Go.RowKit Go.Maps

theorem below_grown {w0 w w' : World} {B tb : Nat} (h : Below B w0 w) (hg : w.grownBy w' (some tb)) (hB : B ≤ w.heap.size) (ht : B ≤ tb) : Below B w0 w' := h.grown hg hB (fun k e => by cases e; exact ht)

theorem kept_two {h : Int → Int} (hz : ∀ i, 1 ≤ i → bl h i = bl h 1) (hne : bl h 1 ≠ bl h 0) : ∀ k, kept h (k + 2) = [bl h 0, bl h 1]
  | 0 => by
    have e1 : kept h 1 = [bl h 0] := kept_new (k := 0) (by simp [kept])
    have e2 : kept h 2 = kept h 1 ++ [bl h 1] := kept_new (k := 1) (by rw [e1]; simpa using hne)
    rw [e2, e1]; rfl
  | k + 1 => by
    have ih := kept_two hz hne k
    have e := kept_old (h := h) (k := k + 2) (by rw [ih, hz (k + 2) (by omega)]; simp)
    rw [show k + 1 + 2 = k + 2 + 1 by omega, e, ih]
def l1 : List Rg := [⟨65, 90, 3⟩]
theorem l1_right : rightB 255 l1 1 = true := by decide
theorem l1_rt : Rt 255 l1 1 := rt_of_right l1_right
theorem l1_66 : hv l1 1 66 = 3 := by decide
theorem l1_64 : hv l1 1 64 = 0 := by decide
theorem l1_far {c : Int} (hc : 128 ≤ c) : hv l1 1 c = 0 := by
  have : hv l1 (0 + 1) c = hv l1 0 c := hv_out (by show ¬ ((65 : Int) ≤ c ∧ c ≤ 90); omega)
  rw [show (1 : Nat) = 0 + 1 by rfl, this, hv_zero]
theorem l1_blocks : (kept (hv l1 1) 8704).length = 2 := by
  have e := kept_two (h := hv l1 1) (fun i hi => ?_) ?_ 8702
  · rw [e]; rfl
  · unfold bl
    refine List.map_congr_left fun j hj => ?_
    rw [l1_far (by omega), l1_far (by omega)]
  · intro e
    have := congrArg (fun l : List Int => l[66]?) e
    simp only [bl_at _ _ 66 (by omega), Option.some.injEq] at this
    have h1 : hv l1 1 (((1 : Nat) : Int) * 128 + ((66 : Nat) : Int)) = 0 := l1_far (by omega)
    have h2 : hv l1 1 (((0 : Nat) : Int) * 128 + ((66 : Nat) : Int)) = 3 := l1_66
    omega
def l2 : List Rg := [⟨1, 0, 0⟩]
theorem l2_right : rightB 255 l2 1 = false := by decide
theorem seg_one (w : World) (r : Rg) (t : TypeId) : SegR (w.alloc (.cells #[.int .i32 r.f, .int .i32 r.t, .int .i64 r.v] t)) (some ⟨w.heap.size, 0, none⟩) 1 [r] := by
  refine ⟨rfl, .inr ⟨w.heap.size, 0, rfl, fun i hi => ?_⟩⟩
  obtain rfl : i = 0 := by omega
  obtain ⟨a, b, c⟩ := box3 w (.int .i32 r.f) (.int .i32 r.t) (.int .i64 r.v) t
  exact ⟨a, b, c⟩

set_option maxRecDepth 100000 in
set_option maxHeartbeats 1600000 in
theorem alive_any (w : World) : Calls Try.prog 7 #[] w fun e w' => e = .returned (.bool true) ∧ Below w.heap.size w w' := by
  have hb0 := (Below.refl w.heap.size w).alloc (Nat.le_refl _) (.cells #[.int .i32 65, .int .i32 90, .int .i64 3] 32)
  have hs0 : SegR (w.alloc (.cells #[.int .i32 65, .int .i32 90, .int .i64 3] 32)) (some ⟨w.heap.size, 0, none⟩) 1 l1 := seg_one w ⟨65, 90, 3⟩ 32
  have hsz : w.heap.size ≤ (w.alloc (.cells #[.int .i32 65, .int .i32 90, .int .i64 3] 32)).heap.size := by simp
  have HB0 := hide hb0
  have HS0 := hide hs0
  have HSZ := hide hsz
  clear hb0 hs0 hsz
  go_enter Try.func7, Try.ntmps7
  go_wp2_with fail
  refine (new_yes _ 1 1 l1 _ (by omega) HS0.out l1_right).mono ?_
  rintro e w1 ⟨tb, rfl, ht1, hb1, hlt⟩
  have hb := hide (HB0.out.trans (hb1.mono HSZ.out))
  have hle := hide (Nat.le_trans HSZ.out hlt)
  clear HB0 HS0 hb1 hlt HSZ
  go_wp2_with fail
  refine (get_any l1 1 _ tb 0 false 66 ht1 (by omega) l1_rt (by omega) (by omega)).mono ?_
  rintro e w2 ⟨rfl, ht2, hg2⟩
  rw [l1_66]
  have hb2 := hide (below_grown hb.out hg2 hb.out.size hle.out)
  clear hg2 hb ht1
  go_wp2_with fail
  refine (get_any l1 1 _ tb _ true 64 ht2 (by omega) l1_rt (by omega) (by omega)).mono ?_
  rintro e w3 ⟨rfl, ht3, hg3⟩
  rw [l1_64]
  have hb3 := hide (below_grown hb2.out hg3 hb2.out.size hle.out)
  clear hg3 hb2 ht2
  go_wp2_with fail
  refine (asked_any l1 1 _ tb _ true ht3).mono ?_
  rintro e w4 ⟨rfl, hw⟩
  rw [hw]
  go_wp2_with fail
  refine (blocks_any l1 1 _ tb _ true ht3 (by omega) l1_rt).mono ?_
  rintro e w5 ⟨rfl, ht5, hg5⟩
  rw [l1_blocks]
  have hb5 := hide (below_grown hb3.out hg5 hb3.out.size hle.out)
  clear hg5 hb3 ht3 hw
  go_wp2_with fail
  refine (built_any l1 1 _ tb _ true ht5).mono ?_
  rintro e w6 ⟨rfl, hw⟩
  rw [hw]
  clear hw
  have hs7 : SegR (w5.alloc (.cells #[.int .i32 1, .int .i32 0, .int .i64 0] 32)) (some ⟨w5.heap.size, 0, none⟩) 1 l2 := seg_one w5 ⟨1, 0, 0⟩ 32
  have HS7 := hide hs7
  clear hs7
  have hb7 := hide (hb5.out.alloc hb5.out.size (.cells #[.int .i32 1, .int .i32 0, .int .i64 0] 32))
  go_wp2_with fail
  refine (new_no _ 1 1 l2 _ (by unfold maxLen; omega) HS7.out l2_right).mono ?_
  rintro e w8 ⟨rfl, hb8⟩
  have hb9 := hide (hb7.out.trans (hb8.mono hb7.out.size))
  clear hb8
  go_wp2
  go_ret
  exact ⟨rfl, hb9.out⟩
end Go.Proofs.Ytooiomfcemceiaa.A
