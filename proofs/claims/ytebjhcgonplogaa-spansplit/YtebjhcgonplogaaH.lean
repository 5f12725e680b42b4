/- The law's own look: what every right program answers. -/
import Derived.Test.YtebjhcgonplogaaF
namespace Go.Proofs.Ytebjhcgonplogaa.A
open Go.RowKit

theorem seg_own' {w : World} {base n cap : Nat} {x : Option Addr} {l : List Rg} (h : w.ownsRow base 28 3 (.slice x n cap) n (cellsR l)) : SegR w x n l ∧ n ≤ cap ∧ cap ≤ maxLen := by
  obtain ⟨x', cap', e, _, h1, h2, h3⟩ := seg_own h
  simp only [Value.slice.injEq, true_and] at e
  obtain ⟨rfl, rfl⟩ := e
  exact ⟨h3, h1, h2⟩
def l3 : List Rg := [⟨0, 4, 1⟩, ⟨5, 9, 1⟩, ⟨20, 20, 2⟩]
theorem l3_rt : Rt 2 l3 3 := (rtB_iff _ _ _).1 (by decide)
theorem l3_fnd : fnd l3 7 3 = (1, true) := by decide
theorem l3_join : (joined l3 3).length = 2 := by decide
theorem l3_cnt : cnt l3 3 = 11 := by decide

set_option maxHeartbeats 800000 in
theorem alive_any (w : World) : Calls Try.prog 8 #[] w fun e w' => e = .returned (.bool true) ∧ Below w.heap.size w w' := by
  have F := hide l3_fnd
  go_enter Try.func8, Try.ntmps8
  go_wp2_with fail
  have hs : SegR (w.alloc (.cells #[.int .i32 0, .int .i32 4, .int .i64 1, .int .i32 5, .int .i32 9, .int .i64 1, .int .i32 20, .int .i32 20, .int .i64 2] 28)) (some ⟨w.heap.size, 0, none⟩) 3 l3 :=
    (seg_own' (World.ownsRow_lit (base := w.heap.size) (e := 28) (size := 3) w _ 3 (Nat.le_refl _) (by decide) rfl)).1
  have hb0 : Below w.heap.size w (w.alloc (.cells #[.int .i32 0, .int .i32 4, .int .i64 1, .int .i32 5, .int .i32 9, .int .i64 1, .int .i32 20, .int .i32 20, .int .i64 2] 28)) := (Below.refl _ _).alloc (Nat.le_refl _) _
  generalize hw : w.alloc (.cells #[.int .i32 0, .int .i32 4, .int .i64 1, .int .i32 5, .int .i32 9, .int .i64 1, .int .i32 20, .int .i32 20, .int .i64 2] 28) = W at *
  clear hw
  refine (find_yes _ 3 3 7 l3 _ (by decide) hs (rt_more l3_rt (by decide))).mono ?_
  rintro e w1 ⟨rfl, h1⟩
  rw [F.out]
  have hb1 := hb0.trans (h1.mono hb0.size)
  have hs1 := hs.below h1
  clear h1 hs hb0
  go_wp2_with fail
  refine (join_yes _ 3 3 l3 _ (by decide) hs1 (rt_more l3_rt (by decide))).mono ?_
  rintro e w2 ⟨v, rfl, ho, h2⟩
  rw [l3_join] at ho
  obtain ⟨x2, c2, rfl, -, -, -, -⟩ := seg_own ho
  have hb2 := hb1.trans (h2.mono hb1.size)
  have hs2 := hs1.below h2
  clear h2 hs1 hb1 ho
  go_wp2_with fail
  refine (count_yes _ 3 3 l3 _ (by decide) hs2 (rt_more l3_rt (by decide))).mono ?_
  rintro e w3 ⟨rfl, h3⟩
  rw [l3_cnt]
  have hb3 := hb2.trans (h3.mono hb2.size)
  have hs3 := hs2.below h3
  clear h3 hs2 hb2
  go_wp2_with fail
  refine (right_any _ 3 3 2 l3 _ (by decide) hs3).mono ?_
  rintro e w4 ⟨rfl, h4⟩
  rw [right_same l3_rt (by decide)]
  have hb4 := hb3.trans (h4.mono hb3.size)
  clear h4 hs3 hb3
  go_wp2_with fail
  refine (valid_any 65 _).mono ?_
  rintro e w5 ⟨rfl, rfl⟩
  rw [show validB 65 = true by decide]
  go_wp2_with fail
  refine (valid_any 55296 _).mono ?_
  rintro e w6 ⟨rfl, rfl⟩
  rw [show validB 55296 = false by decide]
  go_wp2
  go_ret
  exact ⟨rfl, hb4⟩
end Go.Proofs.Ytebjhcgonplogaa.A
