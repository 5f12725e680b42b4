/- A range that is parted in two: plain mathematics. -/
import Derived.Test.YtebjhcgonplogaaP
namespace Go.Proofs.Ytebjhcgonplogaa.A

/-- The list with the range i parted behind the code c. -/
def split (l : List Rg) (i : Nat) (c : Int) : List Rg := l.take i ++ [⟨(at' l i).f, c, (at' l i).v⟩, ⟨c + 1, (at' l i).t, (at' l i).v⟩] ++ l.drop (i + 1)
theorem split_len (l : List Rg) (i : Nat) (c : Int) (hi : i < l.length) : (split l i c).length = l.length + 1 := by
  simp [split]; omega
theorem split_lo (l : List Rg) (i j : Nat) (c : Int) (hi : i < l.length) (hj : j < i) : at' (split l i c) j = at' l j := by
  have h1 : j < (l.take i).length := by simp; omega
  simp [split, at', List.getD_eq_getElem?_getD, List.getElem?_append_left h1, hj]
theorem split_one (l : List Rg) (i : Nat) (c : Int) (hi : i < l.length) : at' (split l i c) i = ⟨(at' l i).f, c, (at' l i).v⟩ := by
  have h1 : (l.take i).length = i := by simp; omega
  unfold split
  rw [List.append_assoc]
  show (l.take i ++ _).getD i rz = _
  rw [List.getD_eq_getElem?_getD, List.getElem?_append_right (by omega), h1]
  simp
theorem split_two (l : List Rg) (i : Nat) (c : Int) (hi : i < l.length) : at' (split l i c) (i + 1) = ⟨c + 1, (at' l i).t, (at' l i).v⟩ := by
  have h1 : (l.take i).length = i := by simp; omega
  unfold split
  rw [List.append_assoc]
  show (l.take i ++ _).getD (i + 1) rz = _
  rw [List.getD_eq_getElem?_getD, List.getElem?_append_right (by omega), h1]
  simp
theorem split_hi (l : List Rg) (i j : Nat) (c : Int) (hi : i < l.length) (hj : i < j) : at' (split l i c) (j + 1) = at' l j := by
  have h1 : (l.take i).length = i := by simp; omega
  unfold split
  rw [List.append_assoc]
  show (l.take i ++ _).getD (j + 1) rz = _
  rw [List.getD_eq_getElem?_getD, List.getElem?_append_right (by omega), h1]
  obtain ⟨d, rfl⟩ : ∃ d, j = i + 1 + d := ⟨j - i - 1, by omega⟩
  rw [show i + 1 + d + 1 - i = d + 1 + 1 by omega]
  simp [at', List.getD_eq_getElem?_getD]

/-- Of which range each one of the parted list is. -/
def whence (i j : Nat) : Nat := if j ≤ i then j else j - 1
theorem split_in {m : Int} {l : List Rg} {i : Nat} {c : Int} (hr : Rt m l l.length) (hi : i < l.length) (h1 : (at' l i).f ≤ c) (h2 : c < (at' l i).t) (j : Nat) (hj : j < l.length + 1) :
    whence i j < l.length ∧ (at' l (whence i j)).f ≤ (at' (split l i c) j).f ∧ (at' (split l i c) j).f ≤ (at' (split l i c) j).t ∧ (at' (split l i c) j).t ≤ (at' l (whence i j)).t ∧ (at' (split l i c) j).v = (at' l (whence i j)).v := by
  unfold whence
  by_cases c1 : j < i
  · rw [if_pos (by omega), split_lo l i j c hi c1]
    exact ⟨by omega, by omega, (hr.1 j (by omega)).2.1, by omega, rfl⟩
  · by_cases c2 : j = i
    · subst c2
      rw [if_pos (by omega), split_one l j c hi]
      exact ⟨by omega, Int.le_refl _, h1, by show c ≤ _; omega, rfl⟩
    · rw [if_neg (by omega)]
      by_cases c3 : j = i + 1
      · subst c3
        rw [split_two l i c hi, show i + 1 - 1 = i by omega]
        exact ⟨hi, by show _ ≤ c + 1; omega, by show c + 1 ≤ (at' l i).t; omega, Int.le_refl _, rfl⟩
      · obtain ⟨d, rfl⟩ : ∃ d, j = d + 1 := ⟨j - 1, by omega⟩
        rw [split_hi l i d c hi (by omega), show d + 1 - 1 = d by omega]
        exact ⟨by omega, by omega, (hr.1 d (by omega)).2.1, by omega, rfl⟩
theorem split_rt {m : Int} {l : List Rg} {i : Nat} {c : Int} (hr : Rt m l l.length) (hi : i < l.length) (h1 : (at' l i).f ≤ c) (h2 : c < (at' l i).t) : Rt m (split l i c) (l.length + 1) := by
  refine ⟨fun j hj => ?_, fun a b hab hb => ?_⟩
  · obtain ⟨p0, p1, p2, p3, p4⟩ := split_in hr hi h1 h2 j hj
    obtain ⟨o1, o2, o3, o4, o5⟩ := hr.1 _ p0
    exact ⟨by omega, by omega, by omega, by omega, by omega⟩
  · by_cases e : a = i ∧ b = i + 1
    · obtain ⟨rfl, rfl⟩ := e
      rw [split_one l a c hi, split_two l a c hi]
      show c < c + 1
      omega
    · obtain ⟨p0, p1, p2, p3, p4⟩ := split_in hr hi h1 h2 a (by omega)
      obtain ⟨q0, q1, q2, q3, q4⟩ := split_in hr hi h1 h2 b hb
      have hw : whence i a < whence i b := by unfold whence; split <;> split <;> omega
      have := hr.2 _ _ hw q0
      omega
theorem split_joined (l : List Rg) (i : Nat) (c : Int) (hi : i < l.length) : ∀ d, joined (split l i c) (i + 2 + d) = joined l (i + 1 + d)
  | 0 => by
    show push (push (joined (split l i c) i) (at' (split l i c) i)) (at' (split l i c) (i + 1)) = push (joined l i) (at' l i)
    rw [split_one l i c hi, split_two l i c hi, push_push, joined_congr i (fun j hj => split_lo l i j c hi hj)]
  | d + 1 => by
    show push (joined (split l i c) (i + 2 + d)) (at' (split l i c) (i + 2 + d)) = push (joined l (i + 1 + d)) (at' l (i + 1 + d))
    rw [split_joined l i c hi d, show i + 2 + d = i + 1 + d + 1 by omega, split_hi l i (i + 1 + d) c hi (by omega)]
theorem split_cnt (l : List Rg) (i : Nat) (c : Int) (hi : i < l.length) : ∀ d, cnt (split l i c) (i + 2 + d) = cnt l (i + 1 + d)
  | 0 => by
    show cnt (split l i c) i + _ + _ = cnt l i + _
    rw [split_one l i c hi, split_two l i c hi, cnt_congr i (fun j hj => split_lo l i j c hi hj)]
    show cnt l i + (c - (at' l i).f + 1) + ((at' l i).t - (c + 1) + 1) = _
    omega
  | d + 1 => by
    show cnt (split l i c) (i + 2 + d) + ((at' (split l i c) (i + 2 + d)).t - (at' (split l i c) (i + 2 + d)).f + 1) = cnt l (i + 1 + d) + ((at' l (i + 1 + d)).t - (at' l (i + 1 + d)).f + 1)
    rw [split_cnt l i c hi d, show i + 2 + d = i + 1 + d + 1 by omega, split_hi l i (i + 1 + d) c hi (by omega)]
theorem split_all {l : List Rg} {i : Nat} {c : Int} (hi : i < l.length) : joined (split l i c) (l.length + 1) = joined l l.length ∧ cnt (split l i c) (l.length + 1) = cnt l l.length := by
  obtain ⟨d, hd⟩ : ∃ d, l.length = i + 1 + d := ⟨l.length - i - 1, by omega⟩
  have a := split_joined l i c hi d
  have b := split_cnt l i c hi d
  rw [hd, show i + 1 + d + 1 = i + 2 + d by omega]
  exact ⟨a, b⟩
theorem split_fnd {m : Int} {l : List Rg} {i : Nat} {c : Int} (hr : Rt m l l.length) (hi : i < l.length) (h1 : (at' l i).f ≤ c) (h2 : c < (at' l i).t) : fnd (split l i c) c (l.length + 1) = ((at' l i).v, true) ∧ fnd (split l i c) (c + 1) (l.length + 1) = ((at' l i).v, true) := by
  have hs := split_rt hr hi h1 h2
  refine ⟨found_fnd hs (.inl ⟨rfl, i, by omega, ?_⟩), found_fnd hs (.inl ⟨rfl, i + 1, by omega, ?_⟩)⟩
  · rw [split_one l i c hi]; exact ⟨h1, Int.le_refl _, rfl⟩
  · rw [split_two l i c hi]; exact ⟨Int.le_refl _, by show c + 1 ≤ (at' l i).t; omega, rfl⟩
end Go.Proofs.Ytebjhcgonplogaa.A
