/- What codes have, in blocks: plain mathematics. -/
import Derived.Test.YtooiomfcemceiaaC
namespace Go.Proofs.Ytooiomfcemceiaa.A

/-- What a code has, by the first k ranges. -/
def hv (l : List Rg) (k : Nat) (c : Int) : Int := if validB c then (fnd l c k).1 else 0

theorem has_pos {m : Int} {l : List Rg} {k : Nat} {c v : Int} (h : Rt m l k) (hh : Has l k c v) : 0 ≤ v ∧ v ≤ m := by
  obtain ⟨i, hi, _, _, rfl⟩ := hh
  obtain ⟨_, _, _, d, e⟩ := h.1 i hi
  exact ⟨d, e⟩
theorem fnd_bd {m : Int} {l : List Rg} {k : Nat} (c : Int) (h : Rt m l k) (hm : 0 ≤ m) : 0 ≤ (fnd l c k).1 ∧ (fnd l c k).1 ≤ m := by
  rcases fnd_found l c k with ⟨_, hh⟩ | ⟨_, h0, _⟩
  · exact has_pos h hh
  · rw [h0]; exact ⟨Int.le_refl _, hm⟩
theorem hv_bd {l : List Rg} {k : Nat} (c : Int) (h : Rt 255 l k) : 0 ≤ hv l k c ∧ hv l k c ≤ 255 := by
  unfold hv
  split
  · exact fnd_bd c h (by omega)
  · omega
theorem hv_zero (l : List Rg) (c : Int) : hv l 0 c = 0 := by unfold hv; split <;> rfl
/-- One range more. -/
theorem hv_in {m : Int} {l : List Rg} {k : Nat} {c : Int} (h : Rt m l (k + 1)) (h1 : (at' l k).f ≤ c) (h2 : c ≤ (at' l k).t) : hv l (k + 1) c = if validB c then (at' l k).v else 0 := by
  unfold hv
  split
  · rw [found_fnd h (v := (at' l k).v) (b := true) (.inl ⟨rfl, k, by omega, h1, h2, rfl⟩)]
  · rfl
theorem hv_out {l : List Rg} {k : Nat} {c : Int} (h : ¬ ((at' l k).f ≤ c ∧ c ≤ (at' l k).t)) : hv l (k + 1) c = hv l k c := by
  unfold hv
  split
  · show (if (fnd l c k).2 then fnd l c k else _).1 = _
    split
    · rfl
    · rename_i hn
      rcases fnd_found l c k with ⟨h', _⟩ | ⟨_, h0, _⟩
      · exact absurd h' hn
      · exact h0.symm
  · rfl
/-- Ranges that begin behind a code turn nothing. -/
theorem hv_past {m : Int} {l : List Rg} {k n : Nat} {c : Int} (h : Rt m l n) (hk : k ≤ n) (hc : ∀ i, k ≤ i → i < n → c < (at' l i).f) : hv l n c = hv l k c := by
  induction n with
  | zero => rw [show k = 0 by omega]
  | succ n ih =>
    by_cases e : k = n + 1
    · rw [e]
    · rw [hv_out (fun q => by have := hc n (by omega) (by omega); omega)]
      exact ih (rt_le h (by omega)) (by omega) (fun i h1 h2 => hc i h1 (by omega))
/-- Ranges that end ahead of a code turn nothing. -/
theorem at_drop (l : List Rg) (d i : Nat) : at' (l.drop d) i = at' l (d + i) := by simp [at', List.getD_eq_getElem?_getD]
theorem rt_drop {m : Int} {l : List Rg} {n d : Nat} (h : Rt m l n) (hd : d ≤ n) : Rt m (l.drop d) (n - d) :=
  ⟨fun i hi => by rw [at_drop]; exact h.1 _ (by omega), fun i j h1 h2 => by rw [at_drop, at_drop]; exact h.2 _ _ (by omega) (by omega)⟩
theorem hv_drop {m : Int} {l : List Rg} {n d : Nat} {c : Int} (h : Rt m l n) (hd : d ≤ n) (hc : ∀ i, i < d → (at' l i).t < c) : hv (l.drop d) (n - d) c = hv l n c := by
  unfold hv
  split
  · rw [found_fnd (rt_drop h hd) (found_congr (l := l) (k := n) ?_ (fnd_found l c n))]
    intro u
    constructor
    · rintro ⟨i, hi, p1, p2, p3⟩
      have : ¬ i < d := fun q => by have := hc i q; omega
      exact ⟨i - d, by omega, by rw [at_drop, show d + (i - d) = i by omega]; exact ⟨p1, p2, p3⟩⟩
    · rintro ⟨i, hi, p⟩
      rw [at_drop] at p
      exact ⟨d + i, by omega, p⟩
  · rfl
theorem hv_joined {m : Int} {l : List Rg} {n : Nat} (h : Rt m l n) (c : Int) : hv (joined l n) (joined l n).length c = hv l n c := by
  unfold hv
  split
  · rw [found_fnd h (found_congr (fun u => joined_has c u n h) (fnd_found _ c _))]
  · rfl

/-- What the codes of a block have, one by one. -/
def bl (h : Int → Int) (i : Nat) : List Int := (List.range 128).map fun (j : Nat) => h ((i : Int) * 128 + (j : Int))
theorem bl_len (h : Int → Int) (i : Nat) : (bl h i).length = 128 := by simp [bl]
theorem bl_at (h : Int → Int) (i j : Nat) (hj : j < 128) : (bl h i)[j]? = some (h (i * 128 + j)) := by simp [bl, hj]
/-- The blocks that are unlike, among the first k. -/
def kept (h : Int → Int) : Nat → List (List Int) | 0 => [] | k + 1 => if bl h k ∈ kept h k then kept h k else kept h k ++ [bl h k]
theorem kept_mem (h : Int → Int) (x : List Int) : ∀ k, x ∈ kept h k ↔ ∃ i, i < k ∧ x = bl h i
  | 0 => by simp [kept]
  | k + 1 => by
    unfold kept
    have ih := kept_mem h x k
    split
    · rename_i hk
      rw [ih]
      constructor
      · rintro ⟨i, hi, e⟩; exact ⟨i, by omega, e⟩
      · rintro ⟨i, hi, e⟩
        by_cases q : i = k
        · subst q; rw [e] at ih ⊢; exact (ih.1 hk)
        · exact ⟨i, by omega, e⟩
    · rw [List.mem_append, ih, List.mem_singleton]
      constructor
      · rintro (⟨i, hi, e⟩ | e)
        · exact ⟨i, by omega, e⟩
        · exact ⟨k, by omega, e⟩
      · rintro ⟨i, hi, e⟩
        by_cases q : i = k
        · subst q; exact .inr e
        · exact .inl ⟨i, by omega, e⟩
theorem kept_len (h : Int → Int) : ∀ k, (kept h k).length ≤ k
  | 0 => by simp [kept]
  | k + 1 => by
    have := kept_len h k
    unfold kept
    split
    · omega
    · simp; omega
theorem kept_len128 (h : Int → Int) (k : Nat) : ∀ x ∈ kept h k, x.length = 128 := by
  intro x hx
  obtain ⟨i, _, rfl⟩ := (kept_mem h x k).1 hx
  exact bl_len h i
theorem kept_pos (h : Int → Int) (k : Nat) (hk : 0 < k) : 0 < (kept h k).length := List.length_pos_of_mem ((kept_mem h (bl h 0) k).2 ⟨0, hk, rfl⟩)
theorem kept_congr {h g : Int → Int} (e : ∀ c, h c = g c) (k : Nat) : kept h k = kept g k := by rw [show h = g from funext e]
theorem kept_old {h : Int → Int} {k : Nat} (hm : bl h k ∈ kept h k) : kept h (k + 1) = kept h k := by unfold kept; rw [if_pos hm]; cases k <;> rfl
theorem kept_new {h : Int → Int} {k : Nat} (hm : ¬ bl h k ∈ kept h k) : kept h (k + 1) = kept h k ++ [bl h k] := by
  show (if _ then _ else _) = _
  rw [if_neg hm]
/-- The cells of blocks. -/
def cellsB (l : List (List Int)) : List Value := l.flatMap fun b => b.map (Value.int .u8)
theorem cellsB_app (a b : List (List Int)) : cellsB (a ++ b) = cellsB a ++ cellsB b := by simp [cellsB]
theorem cellsB_len : ∀ l : List (List Int), (∀ x ∈ l, x.length = 128) → (cellsB l).length = l.length * 128
  | [], _ => rfl
  | x :: r, h => by
    have ih := cellsB_len r (fun y hy => h y (by simp [hy]))
    have := h x (by simp)
    simp only [cellsB, List.flatMap_cons, List.length_append, List.length_map, List.length_cons] at ih ⊢
    omega
theorem cellsB_at : ∀ (l : List (List Int)) (_ : ∀ x ∈ l, x.length = 128) (i j : Nat) (_ : i < l.length) (_ : j < 128), (cellsB l)[i * 128 + j]? = some (.int .u8 ((l.getD i []).getD j 0))
  | [], _, i, j, hi, _ => by simp at hi
  | x :: r, h, i, j, hi, hj => by
    have hx := h x (by simp)
    have e : cellsB (x :: r) = x.map (Value.int .u8) ++ cellsB r := by simp [cellsB]
    rw [e]
    cases i with
    | zero =>
      rw [List.getElem?_append_left (by simp; omega)]
      simp [List.getD_eq_getElem?_getD, show j < x.length by omega]
    | succ i =>
      rw [List.getElem?_append_right (by simp; omega)]
      have := cellsB_at r (fun y hy => h y (by simp [hy])) i j (by simpa using hi) hj
      rw [show (i + 1) * 128 + j - (x.map (Value.int IntKind.u8)).length = i * 128 + j by simp [hx]; omega, this]
      simp [List.getD_eq_getElem?_getD]
end Go.Proofs.Ytooiomfcemceiaa.A
