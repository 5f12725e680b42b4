/- Beginnings of words: plain mathematics. -/
import Derived.Test.YtccaknabpnpjaaaDoorPk20
namespace Go.Proofs.YtccaknabpnpjaaaDoor.A
open Go.RowKit

theorem run_take {nx : List (List Int)} {word : List Int} {m : Nat} : ∀ k, k ≤ m → m ≤ word.length → runF nx (word.take m) k = runF nx word k
  | 0, _, _ => rfl
  | k + 1, hk, hm => by
    show stepF nx (runF nx (word.take m) k) ((word.take m).getD k 0) = stepF nx (runF nx word k) (word.getD k 0)
    rw [run_take k (by omega) hm, List.getD_eq_getElem?_getD, List.getD_eq_getElem?_getD, List.getElem?_take_of_lt (by omega)]
theorem lg_take {nx : List (List Int)} {ru word : List Int} {f : Int} {m : Nat} : ∀ k, k ≤ m → m ≤ word.length → lgF nx ru (word.take m) f k = lgF nx ru word f k
  | 0, _, _ => rfl
  | k + 1, hk, hm => by
    show (if 0 ≤ runF nx (word.take m) (k + 1) ∧ ru.getD (runF nx (word.take m) (k + 1)).toNat 0 ≠ -1 then (f + (k : Int) + 1, ru.getD (runF nx (word.take m) (k + 1)).toNat 0) else lgF nx ru (word.take m) f k) = _
    rw [run_take (k + 1) hk hm, lg_take k (by omega) hm]; rfl
theorem lg_le {nx : List (List Int)} {ru word : List Int} {f : Int} (hf : 0 ≤ f) : ∀ k : Nat, -1 ≤ (lgF nx ru word f k).1 ∧ (lgF nx ru word f k).1 ≤ f + (k : Int)
  | 0 => by
    show -1 ≤ (-1 : Int) ∧ (-1 : Int) ≤ f + ((0 : Nat) : Int)
    omega
  | k + 1 => by
    have ih := lg_le (nx := nx) (ru := ru) (word := word) hf k
    unfold lgF
    split
    · simp only; omega
    · omega
theorem lg_mono {nx : List (List Int)} {ru word : List Int} {f : Int} (hf : 0 ≤ f) (k : Nat) : ∀ m : Nat, (lgF nx ru word f k).1 ≤ (lgF nx ru word f (k + m)).1
  | 0 => Int.le_refl _
  | m + 1 => by
    have ih := lg_mono (nx := nx) (ru := ru) (word := word) hf k m
    have h1 := lg_le (nx := nx) (ru := ru) (word := word) hf k
    show _ ≤ (if 0 ≤ runF nx word (k + m + 1) ∧ ru.getD (runF nx word (k + m + 1)).toNat 0 ≠ -1 then (f + ((k + m : Nat) : Int) + 1, ru.getD (runF nx word (k + m + 1)).toNat 0) else lgF nx ru word f (k + m)).1
    split
    · simp only; omega
    · exact ih
/-- Who is nowhere stays nowhere. -/
theorem runR_take {nx : List (List Int)} {ru word : List Int} {k : Nat} (hk : k ≤ word.length) (h16 : ∀ x ∈ nx, x.length = 16) (h : runR nx ru (word.take k) < 0) : runR nx ru word < 0 := by
  unfold runR at h ⊢
  split
  · rename_i hr
    rw [if_pos hr, List.length_take, Nat.min_eq_left hk, run_take k (Nat.le_refl _) hk] at h
    have := run_rng hr h16 word k
    rw [run_dead' (show runF nx word k = -1 by omega) hk]; omega
  · omega
theorem longR_take {nx : List (List Int)} {ru word : List Int} {k : Nat} (hk : k ≤ word.length) : (longR nx ru (word.take k) 0).1 ≤ (longR nx ru word 0).1 ∧ (longR nx ru (word.take k) 0).1 ≤ (k : Int) := by
  unfold longR
  by_cases hr : rightD nx ru = true
  · rw [if_pos ⟨hr, by omega, by omega⟩, if_pos ⟨hr, by omega, by omega⟩]
    simp only [Int.toNat_zero, List.drop_zero, Nat.sub_zero, List.length_take, Nat.min_eq_left hk]
    rw [lg_take k (Nat.le_refl _) hk]
    have h1 := lg_mono (nx := nx) (ru := ru) (word := word) (f := 0) (by omega) k (word.length - k)
    rw [show k + (word.length - k) = word.length by omega] at h1
    have h2 := lg_le (nx := nx) (ru := ru) (word := word) (f := 0) (by omega) k
    exact ⟨h1, by omega⟩
  · rw [if_neg (fun h => hr h.1), if_neg (fun h => hr h.1)]
    simp only; omega
end Go.Proofs.YtccaknabpnpjaaaDoor.A
