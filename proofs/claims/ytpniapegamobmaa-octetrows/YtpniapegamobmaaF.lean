/- The law's own look: what every right program answers. -/
import Derived.Test.YtpniapegamobmaaE
import Derived.Lib.SlBytesConst
namespace Go.Proofs.Ytpniapegamobmaa.A
open Go.RowKit

theorem cells_new (w : World) (C : Array Value) (m : Nat × Nat) (i : Nat) : (w.alloc (.cells C 5 m)).cell? ⟨w.heap.size, i, none⟩ = C[i]? := by
  have : (w.alloc (.cells C 5 m)).heap[w.heap.size]? = some (.cells C 5 m) := by
    show (w.heap.push _)[w.heap.size]? = _
    simp
  unfold World.cell?
  rw [this]
  rfl
/-- A new block of written-out bytes. -/
theorem seg_new (w : World) (l : List Int) (m : Nat × Nat) (hb : Byt l) : Seg (w.alloc (.cells (l.map (Value.int .u8)).toArray 5 m)) (some ⟨w.heap.size, 0, none⟩) l.length l := by
  refine ⟨rfl, hb, .inr ⟨_, _, rfl, fun i hi => ?_⟩⟩
  rw [Nat.zero_add, cells_new]
  simp [hi]
theorem byt_cons {x : Int} {l : List Int} (h0 : 0 ≤ x) (h1 : x ≤ 255) (h : Byt l) : Byt (x :: l) := by
  intro i
  match i with
  | 0 => exact ⟨h0, h1⟩
  | i + 1 => exact h i
theorem byt_nil : Byt [] := by intro i; simp

set_option maxHeartbeats 800000 in
theorem alive_any (w : World) : Calls Try.prog 8 #[] w fun e w' => e = .returned (.bool true) ∧ Below w.heap.size w w' := by
  have kc := fun (w : World) (C : Array Value) (n c : Nat) => Lib.run_convert_bytes_const (P := Try.prog) w 26 5 C n c Try.underlying26 Try.underlying5
  go_enter Try.func8, Try.ntmps8
  go_wp2_with fail
  have hs : Seg (w.alloc (.cells #[.int .u8 1, .int .u8 2, .int .u8 3] 5)) (some ⟨w.heap.size, 0, none⟩) 3 [1, 2, 3] :=
    seg_new w [1, 2, 3] (0, 0) (byt_cons (by decide) (by decide) (byt_cons (by decide) (by decide) (byt_cons (by decide) (by decide) byt_nil)))
  refine (u16_any _ _ _ _ _ _ hs (by decide) (by decide)).mono ?_
  rintro e w1 ⟨rfl, hw1⟩
  have hb1 : Below w.heap.size w w1 := by rw [hw1]; exact (Below.refl _ _).alloc (Nat.le_refl _) _
  clear hs hw1
  have e1 : numAt [1, 2, 3] 1 2 = 515 := by decide
  have e2 : inB 3 1 2 = true := by decide
  rw [e1, e2]
  clear e1 e2
  go_wp2_with fail
  have hs : Seg (w1.alloc (.cells #[.int .u8 71, .int .u8 83, .int .u8 85, .int .u8 66] 5 (4, 5))) (some ⟨w1.heap.size, 0, none⟩) 4 [71, 83, 85, 66] :=
    seg_new w1 [71, 83, 85, 66] (4, 5) (byt_cons (by decide) (by decide) (byt_cons (by decide) (by decide) (byt_cons (by decide) (by decide) (byt_cons (by decide) (by decide) byt_nil))))
  refine (tag_any _ _ _ _ _ _ hs (by decide) (by decide)).mono ?_
  rintro e w2 ⟨rfl, hw2⟩
  have hb2 : Below w.heap.size w w2 := by rw [hw2]; exact hb1.alloc hb1.size _
  clear hs hw2 hb1
  have e1 : tagAt [71, 83, 85, 66] 0 = ⟨#[71, 83, 85, 66]⟩ := by decide +kernel
  have e2 : inB 4 0 4 = true := by decide
  rw [e1, e2]
  clear e1 e2
  go_wp2_with fail
  refine (wrap_any _ _).mono ?_
  rintro e w3 ⟨rfl, hw3⟩
  subst hw3
  have e1 : wrap32 2147483648 = -2147483648 := by unfold wrap32; omega
  rw [e1]
  clear e1
  go_wp2_with fail
  have hs : Seg (w3.alloc (.cells #[.int .u8 1] 5)) (some ⟨w3.heap.size, 0, none⟩) 1 [1] :=
    seg_new w3 [1] (0, 0) (byt_cons (by decide) (by decide) byt_nil)
  refine (sum_any _ _ _ _ _ hs (by decide) (by decide) (by decide)).mono ?_
  rintro e w4 ⟨rfl, hw4⟩
  have hb4 : Below w.heap.size w w4 := by rw [hw4]; exact hb2.alloc hb2.size _
  clear hs hw4 hb2
  have e1 : sumTo [1] ((1 + 3) / 4) = 16777216 := by decide
  rw [e1]
  clear e1
  go_wp2_with fail
  refine (put_in 258 2 _ (by decide)).mono ?_
  rintro e w5 ⟨rfl, _, hb5⟩
  have hb6 : Below w.heap.size w w5 := hb4.trans (hb5.mono hb4.size)
  clear hb5 hb4
  go_wp2_with fail
  go_ret
  exact ⟨rfl, hb6⟩
end Go.Proofs.Ytpniapegamobmaa.A
