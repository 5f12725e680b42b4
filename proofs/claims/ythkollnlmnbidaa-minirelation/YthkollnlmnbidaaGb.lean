/- slices.Repeat of one truth. -/
import Derived.Test.YthkollnlmnbidaaGa
import Derived.Test.YthkollnlmnbidaaShelf
import Derived.Laws.CopyOwn
namespace Go.Proofs.Ythkollnlmnbidaa.A
open Go.RowKit
set_option linter.unusedVariables false

theorem sz4 : (Try.prog.info? 4).map (·.size) = some 1 := by kernel_rfl
theorem mul1_any (n : Nat) (hn : n ≤ 10000) (w : World) : Calls Try.prog 36 #[.int .u64 1, .int .u64 (n : Int)] w fun e w' => e = .returned (.tuple #[.int .u64 0, .int .u64 (n : Int)]) ∧ w' = w := by
  have h := Try.bits_Mul 1 n (by omega) (by omega) w
  have e1 : 1 * n / 18446744073709551616 = 0 := by omega
  have e2 : 1 * n % 18446744073709551616 = n := by omega
  rw [e1, e2] at h
  exact h

/-- The first k of n are true. -/
def upL (n k : Nat) : List Value := (List.range n).map fun (j : Nat) => Value.bool (decide (j < k))
theorem upL_len (n k : Nat) : (upL n k).length = n := by simp [upL]
theorem upL_at (n k j : Nat) (hj : j < n) : (upL n k)[j]? = some (.bool (decide (j < k))) := by simp [upL, hj]
theorem upL_row (n k : Nat) : (upL n k).toArray = rowB n (fun j => decide (j < k)) := rfl
theorem upL_splice (n k m : Nat) (h : k + m ≤ n) : splice (upL n k) k (List.replicate m (.bool true)) = upL n (k + m) := by
  apply List.ext_getElem?
  intro i
  unfold splice
  by_cases h1 : i < k
  · rw [List.getElem?_append_left (by simp [upL_len]; omega), List.getElem?_take_of_lt h1, upL_at n k i (by omega), upL_at n (k + m) i (by omega)]
    simp [h1]; omega
  · rw [List.getElem?_append_right (by simp [upL_len]; omega)]
    have e : (List.take k (upL n k)).length = k := by simp [upL_len]; omega
    rw [e]
    by_cases h2 : i < k + m
    · rw [List.getElem?_append_left (by simp; omega), upL_at n (k + m) i (by omega)]
      simp [List.getElem?_replicate]; omega
    · rw [List.getElem?_append_right (by simp; omega), List.length_replicate, List.getElem?_drop, show k + m + (i - k - m) = i by omega]
      by_cases h3 : i < n
      · rw [upL_at n k i h3, upL_at n (k + m) i h3]
        simp; omega
      · rw [List.getElem?_eq_none (by rw [upL_len]; omega), List.getElem?_eq_none (by rw [upL_len]; omega)]

set_option maxRecDepth 100000 in
set_option maxHeartbeats 800000 in
theorem repeat_any (b o c n : Nat) (w : World) (hn1 : 1 ≤ n) (hn : n ≤ 10000) (hc : w.cell? ⟨b, o, none⟩ = some (.bool true)) :
    Calls Try.prog 32 #[.slice (some ⟨b, o, none⟩) 1 c, .int .i64 (n : Int)] w fun e w' => Gives w n (fun _ => true) e w' := by
  have hmk := make39 n hn
  have d0 : decide ((n : Int) < 0) = false := by simp
  have d1 : decide ((9223372036854775807 : Int) < (n : Int)) = false := by simp; omega
  have u0 : IntKind.u64.wrap (n : Int) = (n : Int) := by rw [IntKind.wrap_u64]; omega
  have u1 : IntKind.i64.wrap (n : Int) = (n : Int) := by rw [IntKind.wrap_i64]; omega
  have hm0 := mk_new1 w n
  have HB0 := hide ((Below.refl w.heap.size w).alloc (Nat.le_refl _) (.cells (rowB n fun _ => false) 4))
  have HG := hide (show (w.alloc (.cells (rowB n fun _ => false) 4)).heap[w.heap.size]? = some (.cells (upL n 0).toArray 4 (0, 0)) from by rw [upL_row]; exact mk_congr hm0 (fun j hj => by simp))
  have HC := hide (show (w.alloc (.cells (rowB n fun _ => false) 4)).cell? ⟨b, o, none⟩ = some (.bool true) from (HB0.out.cell (p := ⟨b, o, none⟩) (cell_lt hc)).trans hc)
  have HSRC := hide (show ∀ j v, [Value.bool true][j]? = some v → (w.alloc (.cells (rowB n fun _ => false) 4)).cell? ((⟨b, o, none⟩ : Addr).add j) = some v from fun j v hj => by
    cases j with
    | zero =>
      have e : Value.bool true = v := by simpa using hj
      subst e
      rw [add_at]
      exact HC.out
    | succ j => simp at hj)
  clear hm0 hc
  go_enter Try.func32, Try.ntmps32
  go_wp2_with fail
  refine (mul1_any n hn w).mono ?_
  rintro e w1 ⟨rfl, hw1⟩
  rw [hw1]
  clear w1 hw1
  go_wp2_with ((refine wpList_copy_splice rfl _ _ 30 30 rfl 4 Try.underlying30 sz4 _ _ _ _ _ _ rfl rfl w.heap.size 0 (upL n 0) 4 HG.out [.bool true] (show 1 = Nat.min 1 n by show 1 = min 1 n; omega) (fun _ => ⟨rfl, ⟨b, o, none⟩, rfl, HSRC.out⟩) (by rw [upL_len]; exact hn1) (fun v hv => by simp at hv; subst hv; rfl) w.heap.size w HB0.out (Nat.le_refl _) ?_; intro w2 HG2 hB2))
  have HB2 := hide hB2
  have HG3 := hide (show w2.heap[w.heap.size]? = some (.cells (upL n 1).toArray 4 (0, 0)) from by
    have h := HG2.out
    rw [show ([Value.bool true] : List Value) = List.replicate 1 (Value.bool true) from rfl, upL_splice n 0 1 (by omega)] at h
    exact h)
  clear hB2 HG2 HG HB0 HC hmk
  generalize hB : w.heap.size = B at *
  go_loopw [8] (fun i wr => ∃ k : Nat, 1 ≤ k ∧ k ≤ n ∧ i = .int .i64 k ∧ wr.heap[B]? = some (.cells (upL n k).toArray 4 (0, 0)) ∧ Below B w wr) (fun i _ => n - (intOf i).toNat)
  case atStart => exact ⟨1, Nat.le_refl _, hn1, rfl, HG3.out, HB2.out⟩
  case round =>
    obtain ⟨k, hk1, hk2, rfl, hg, hb⟩ := hrel
    have HGK := hide hg
    have HBK := hide hb
    clear hg hb
    by_cases hlt : k < n
    · have i3 : (0 : Int) ≤ (k : Int) := by omega
      have i4 : (k : Int) < (n : Int) := by omega
      have i5 : (k : Int) ≤ (n : Int) := by omega
      have i6 : (n = k) = False := by simp; omega
      have i7 : ((n : Int) = (k : Int)) = False := by simp; omega
      have i8 : (0 : Int) ≤ (n : Int) := by omega
      obtain ⟨m, hm⟩ : ∃ m, Nat.min k (n - k) = m := ⟨_, rfl⟩
      have HMM := hide hm
      clear hm
      have hmk : k + m ≤ n := by have := HMM.out; have h2 : Nat.min k (n - k) ≤ n - k := Nat.min_le_right _ _; omega
      have hm1 : 1 ≤ m := by have h1 := HMM.out; have h2 : Nat.min k (n - k) = min k (n - k) := rfl; omega
      have hmk2 : m ≤ k := by have := HMM.out; have h2 : Nat.min k (n - k) ≤ k := Nat.min_le_left _ _; omega
      have u2 : IntKind.i64.wrap ((k : Int) + (m : Int)) = ((k + m : Nat) : Int) := by rw [IntKind.wrap_i64]; omega
      have HS := hide (show ∀ j v, (List.replicate m (Value.bool true))[j]? = some v → wr.cell? ((⟨B, 0, none⟩ : Addr).add j) = some v from fun j v hj => by
        rw [List.getElem?_replicate] at hj
        split at hj
        · obtain rfl := Option.some.inj hj
          rw [add_at, Nat.zero_add]
          rw [cell_of_row _ _ j _ _ _ HGK.out, List.getElem?_toArray, upL_at n k j (by omega), decide_eq_true (show j < k by omega)]
        · cases hj)
      go_wp2_with fail
      go_region_law (refine step_copy_splice rfl (.tmp 41) (.tmp 44) 30 30 rfl 4 Try.underlying30 sz4 (some ⟨B, k, none⟩) (some ⟨B, 0, none⟩) (n - k) (n - k) k n (by simp [Act.eval, Act.put]) (by simp [Act.eval, Act.put]) B k (upL n k) 4 HGK.out (List.replicate m (.bool true)) (by rw [List.length_replicate]; exact HMM.out.symm) (fun _ => ⟨rfl, ⟨B, 0, none⟩, rfl, HS.out⟩) (by rw [upL_len, List.length_replicate]; exact hmk) (fun v hv => by rw [List.eq_of_mem_replicate hv]; rfl) B w HBK.out.drew (Nat.le_refl _) ?_; intro w4 hg4 hb4)
      all_goals
        have HB4 := hide hb4
        have HG4 := hide (show w4.heap[B]? = some (.cells (upL n (k + m)).toArray 4 (0, 0)) from by rw [← upL_splice n k m hmk]; exact hg4.out)
        clear hg4 hb4
        go_wp2
        refine ⟨⟨.int .i64 ((k : Int) + (m : Int)), _, _, _, _, _, _, _, _, _, _, _, _, _, ⟨k + m, by omega, hmk, by simp, HG4.out, HB4.out⟩, rfl⟩, ?_⟩
        simp [intOf, Act.put]
        omega
    · have e : k = n := by omega
      subst e
      go_wp2
      go_ret
      exact ⟨B, by omega, rfl, mk_congr (show Mk wr B k (fun j => decide (j < k)) from HGK.out) (fun j hj => by simp [hj]), by rw [hB]; exact HBK.out⟩
end Go.Proofs.Ythkollnlmnbidaa.A
