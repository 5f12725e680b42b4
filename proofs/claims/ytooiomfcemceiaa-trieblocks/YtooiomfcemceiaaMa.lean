/- Blocks that are unlike, counted the document's way: plain mathematics. -/
import Derived.Test.YtooiomfcemceiaaLb
namespace Go.Proofs.Ytooiomfcemceiaa.A

/-- Does one of the first k ranges begin or end in a block? -/
def seenB (zs : List Rg) (b : Nat) : Nat → Bool | 0 => false | k + 1 => seenB zs b k || decide ((at' zs k).f / 128 = (b : Int)) || decide ((at' zs k).t / 128 = (b : Int))
theorem seenB_no {zs : List Rg} {b : Nat} : ∀ {k : Nat}, seenB zs b k = false → ∀ i, i < k → (at' zs i).f / 128 ≠ (b : Int) ∧ (at' zs i).t / 128 ≠ (b : Int)
  | 0, _, i, hi => by omega
  | k + 1, h, i, hi => by
    simp only [seenB, Bool.or_eq_false_iff, decide_eq_false_iff_not] at h
    by_cases e : i = k
    · subst e; exact ⟨h.1.2, h.2⟩
    · exact seenB_no h.1.1 i (by omega)
def edgeB (zs : List Rg) (len b : Nat) : Bool := seenB zs b len || decide (b = 432)
theorem found_code {l : List Rg} {k : Nat} {c c' v : Int} {b : Bool} (e : ∀ u, Has l k c u ↔ Has l k c' u) (h : Found l k c v b) : Found l k c' v b := by
  rcases h with ⟨rfl, h⟩ | ⟨rfl, rfl, h⟩
  · exact .inl ⟨rfl, (e _).1 h⟩
  · exact .inr ⟨rfl, rfl, fun u hu => h u ((e u).2 hu)⟩
/-- All codes of a block have the same. -/
def Con (h : Int → Int) (i : Nat) : Prop := ∀ j : Nat, j < 128 → h ((i : Int) * 128 + (j : Int)) = h ((i : Int) * 128)
theorem edge_con {zs : List Rg} {len b : Nat} (hr : Rt 255 zs len) (hb : b < 8704) (he : edgeB zs len b = false) : Con (hv zs len) b := by
  intro j hj
  simp only [edgeB, Bool.or_eq_false_iff, decide_eq_false_iff_not] at he
  by_cases hs : 432 ≤ b ∧ b < 448
  · rw [hv_bad (by unfold validB; simp; omega), hv_bad (by unfold validB; simp; omega)]
  · have v1 : validB ((b : Int) * 128 + (j : Int)) = true := by unfold validB; simp; omega
    have v2 : validB ((b : Int) * 128) = true := by unfold validB; simp; omega
    unfold hv
    rw [v1, v2]
    simp only [if_true]
    have hno := seenB_no he.1
    have key : ∀ u, Has zs len ((b : Int) * 128) u ↔ Has zs len ((b : Int) * 128 + (j : Int)) u := by
     intro u
     constructor
     · rintro ⟨i, hi, p1, p2, p3⟩
       obtain ⟨n1, n2⟩ := hno i hi
       exact ⟨i, hi, by omega, by omega, p3⟩
     · rintro ⟨i, hi, p1, p2, p3⟩
       obtain ⟨n1, n2⟩ := hno i hi
       exact ⟨i, hi, by omega, by omega, p3⟩
    have e := found_fnd hr (found_code key (fnd_found zs ((b : Int) * 128) len))
    rw [e]
/-- The blocks below n in which something turns. -/
def edges (zs : List Rg) (len n : Nat) : List Nat := (List.range n).filter (edgeB zs len)
theorem edges_yes {zs : List Rg} {len n : Nat} (h : edgeB zs len n = true) : edges zs len (n + 1) = edges zs len n ++ [n] := by simp [edges, List.range_succ, h]
theorem edges_no {zs : List Rg} {len n : Nat} (h : edgeB zs len n = false) : edges zs len (n + 1) = edges zs len n := by simp [edges, List.range_succ, h]
theorem edges_len (zs : List Rg) (len n : Nat) : (edges zs len n).length ≤ n := by
  have := List.length_filter_le (edgeB zs len) (List.range n)
  simpa [edges] using this
theorem edges_split (zs : List Rg) (len : Nat) : ∀ m n, n ≤ m → ∃ r, edges zs len m = edges zs len n ++ r ∧ ∀ x ∈ r, n ≤ x
  | 0, n, h => ⟨[], by rw [show n = 0 by omega]; simp, fun x hx => by simp at hx⟩
  | m + 1, n, h => by
    by_cases e : n = m + 1
    · exact ⟨[], by rw [e]; simp, fun x hx => by simp at hx⟩
    · obtain ⟨r, h1, h2⟩ := edges_split zs len m n (by omega)
      cases q : edgeB zs len m
      · exact ⟨r, by rw [edges_no q, h1], h2⟩
      · refine ⟨r ++ [m], by rw [edges_yes q, h1, List.append_assoc], fun x hx => ?_⟩
        rw [List.mem_append, List.mem_singleton] at hx
        rcases hx with hx | hx
        · exact h2 x hx
        · omega
/-- The next block of those, at a block. -/
theorem edges_at_yes {zs : List Rg} {len n : Nat} (hn : n < 8704) (h : edgeB zs len n = true) : (edges zs len n).length < (edges zs len 8704).length ∧ (edges zs len 8704).getD (edges zs len n).length 0 = n := by
  obtain ⟨r, h1, _⟩ := edges_split zs len 8704 (n + 1) (by omega)
  rw [edges_yes h] at h1
  rw [h1]
  constructor
  · simp only [List.length_append, List.length_singleton]; omega
  · simp [List.getD_eq_getElem?_getD]
theorem edges_at_no {zs : List Rg} {len n : Nat} (hn : n < 8704) (h : edgeB zs len n = false) : (edges zs len n).length = (edges zs len 8704).length ∨ ((edges zs len n).length < (edges zs len 8704).length ∧ (edges zs len 8704).getD (edges zs len n).length 0 ≠ n) := by
  obtain ⟨r, h1, h2⟩ := edges_split zs len 8704 (n + 1) (by omega)
  rw [edges_no h] at h1
  rw [h1]
  cases r with
  | nil => left; simp
  | cons x r =>
    right
    have := h2 x (by simp)
    constructor
    · simp only [List.length_append, List.length_cons]; omega
    · simp [List.getD_eq_getElem?_getD]; omega

/-- Is a block of one value? -/
def isC (x : List Int) : Bool := x.all (fun v => v == x.getD 0 0)
theorem isC_iff (h : Int → Int) (i : Nat) : isC (bl h i) = true ↔ Con h i := by
  have h0 : (bl h i).getD 0 0 = h ((i : Int) * 128) := by
    rw [List.getD_eq_getElem?_getD, bl_at _ _ 0 (by omega)]; simp
  unfold isC
  rw [List.all_eq_true, h0]
  constructor
  · intro a j hj
    have := a (h ((i : Int) * 128 + (j : Int))) (List.mem_of_getElem? (bl_at h i j hj))
    simpa using this
  · intro c x hx
    simp only [bl, List.mem_map, List.mem_range] at hx
    obtain ⟨j, hj, rfl⟩ := hx
    simpa using c j hj
def oddk (h : Int → Int) (k : Nat) : List (List Int) := (kept h k).filter (fun x => !isC x)
def plk (h : Int → Int) : Nat → Nat → Bool | 0, _ => false | k + 1, v => plk h k v || (isC (bl h k) && decide (h ((k : Int) * 128) = (v : Int)))
theorem plk_iff (h : Int → Int) (v : Nat) : ∀ k, plk h k v = true ↔ ∃ i, i < k ∧ isC (bl h i) = true ∧ h ((i : Int) * 128) = (v : Int)
  | 0 => by simp [plk]
  | k + 1 => by
    simp only [plk, Bool.or_eq_true, Bool.and_eq_true, decide_eq_true_eq, plk_iff h v k]
    constructor
    · rintro (⟨i, hi, p⟩ | p)
      · exact ⟨i, by omega, p⟩
      · exact ⟨k, by omega, p⟩
    · rintro ⟨i, hi, p⟩
      by_cases e : i = k
      · subst e; exact .inr p
      · exact .inl ⟨i, by omega, p⟩
theorem con_same {h : Int → Int} {i k : Nat} (hi : isC (bl h i) = true) (hk : isC (bl h k) = true) (e : h ((i : Int) * 128) = h ((k : Int) * 128)) : bl h i = bl h k := by
  rw [isC_iff] at hi hk
  unfold bl
  exact List.map_congr_left fun j hj => by rw [hi j (by simpa using hj), hk j (by simpa using hj), e]
theorem first_same {h : Int → Int} {i k : Nat} (e : bl h i = bl h k) : h ((i : Int) * 128) = h ((k : Int) * 128) := by
  have := bf_of_bl e 0 (by omega)
  simpa [bf] using this
/-- How many of the first n numbers are marked. -/
def cntB (p : Nat → Bool) : Nat → Nat | 0 => 0 | n + 1 => cntB p n + (if p n then 1 else 0)
theorem cntB_congr {p q : Nat → Bool} : ∀ n, (∀ i, i < n → p i = q i) → cntB p n = cntB q n
  | 0, _ => rfl
  | n + 1, h => by unfold cntB; rw [cntB_congr n (fun i hi => h i (by omega)), h n (by omega)]
theorem cntB_le (p : Nat → Bool) : ∀ n, cntB p n ≤ n
  | 0 => Nat.le_refl _
  | n + 1 => by have := cntB_le p n; unfold cntB; split <;> omega
theorem cntB_zero : ∀ n, cntB (fun _ => false) n = 0
  | 0 => rfl
  | n + 1 => by unfold cntB; rw [cntB_zero n]; rfl
theorem cntB_more {p q : Nat → Bool} {v : Nat} (hv : p v = false) (hq : q v = true) (ho : ∀ i, i ≠ v → q i = p i) : ∀ n, cntB q n = cntB p n + if v < n then 1 else 0
  | 0 => by simp [cntB]
  | n + 1 => by
    have ih := cntB_more hv hq ho n
    unfold cntB
    by_cases e : n = v
    · subst e
      rw [ih, hv, hq]; simp
    · rw [ih, ho n e]
      by_cases c : v < n
      · rw [if_pos c, if_pos (show v < n + 1 by omega)]; omega
      · rw [if_neg c, if_neg (show ¬ v < n + 1 by omega)]; omega
theorem kept_count {h : Int → Int} (hb : ∀ c, 0 ≤ h c ∧ h c ≤ 255) : ∀ k, (kept h k).length = (oddk h k).length + cntB (plk h k) 256
  | 0 => by
    have : cntB (plk h 0) 256 = 0 := (cntB_congr 256 (fun i _ => rfl)).trans (cntB_zero 256)
    simp [kept, oddk, this]
  | k + 1 => by
    have ih := kept_count hb k
    by_cases hm : bl h k ∈ kept h k
    · have e1 : oddk h (k + 1) = oddk h k := by unfold oddk; rw [kept_old hm]
      have e2 : cntB (plk h (k + 1)) 256 = cntB (plk h k) 256 := cntB_congr 256 (fun v _ => by
        show (plk h k v || (isC (bl h k) && decide (h ((k : Int) * 128) = (v : Int)))) = plk h k v
        cases hp : plk h k v
        · rw [Bool.false_or, Bool.and_eq_false_iff]
          cases hc : isC (bl h k)
          · exact .inl rfl
          · right
            rw [decide_eq_false_iff_not]
            intro e
            obtain ⟨i, hi, q⟩ := (kept_mem h _ k).1 hm
            have := (plk_iff h v k).2 ⟨i, hi, q ▸ hc, (first_same q.symm).trans e⟩
            rw [hp] at this
            cases this
        · simp)
      rw [kept_old hm, e1, e2, ih]
    · rw [kept_new hm, List.length_append, List.length_singleton, ih]
      cases hc : isC (bl h k)
      · have e1 : oddk h (k + 1) = oddk h k ++ [bl h k] := by unfold oddk; rw [kept_new hm, List.filter_append]; simp [hc]
        have e2 : cntB (plk h (k + 1)) 256 = cntB (plk h k) 256 := cntB_congr 256 (fun v _ => by
          show (plk h k v || (isC (bl h k) && decide (h ((k : Int) * 128) = (v : Int)))) = plk h k v
          rw [hc]; simp)
        rw [e1, e2, List.length_append, List.length_singleton]; omega
      · have e1 : oddk h (k + 1) = oddk h k := by unfold oddk; rw [kept_new hm, List.filter_append]; simp [hc]
        obtain ⟨v, hv⟩ : ∃ v : Nat, h ((k : Int) * 128) = (v : Int) := ⟨(h ((k : Int) * 128)).toNat, by have := (hb ((k : Int) * 128)).1; omega⟩
        have hv2 : v < 256 := by have := (hb ((k : Int) * 128)).2; omega
        have e2 := cntB_more (p := plk h k) (q := plk h (k + 1)) (v := v) (by
          rw [Bool.eq_false_iff]
          intro q
          obtain ⟨i, hi, q1, q2⟩ := (plk_iff h v k).1 q
          exact hm ((kept_mem h _ k).2 ⟨i, hi, con_same hc q1 (by rw [hv, q2])⟩)) (by
          show (plk h k v || (isC (bl h k) && decide (h ((k : Int) * 128) = (v : Int)))) = true
          rw [hc, hv]; simp) (fun i hi => by
          show (plk h k i || (isC (bl h k) && decide (h ((k : Int) * 128) = (i : Int)))) = plk h k i
          rw [hv]
          have : ¬ ((v : Int) = (i : Int)) := by omega
          simp [this]) 256
        rw [if_pos hv2] at e2
        rw [e1, e2]; omega
theorem odd_const {h : Int → Int} {k : Nat} (hc : isC (bl h k) = true) : oddk h (k + 1) = oddk h k := by
  unfold oddk
  by_cases hm : bl h k ∈ kept h k
  · rw [kept_old hm]
  · rw [kept_new hm, List.filter_append]; simp [hc]
theorem odd_mem {h : Int → Int} {k : Nat} (hc : isC (bl h k) = false) : bl h k ∈ oddk h k ↔ bl h k ∈ kept h k := by
  unfold oddk; rw [List.mem_filter]; simp [hc]
theorem odd_old {h : Int → Int} {k : Nat} (hc : isC (bl h k) = false) (hm : bl h k ∈ oddk h k) : oddk h (k + 1) = oddk h k := by
  have := (odd_mem hc).1 hm
  unfold oddk; rw [kept_old this]
theorem odd_new {h : Int → Int} {k : Nat} (hc : isC (bl h k) = false) (hm : ¬ bl h k ∈ oddk h k) : oddk h (k + 1) = oddk h k ++ [bl h k] := by
  have : ¬ bl h k ∈ kept h k := fun q => hm ((odd_mem hc).2 q)
  unfold oddk; rw [kept_new this, List.filter_append]; simp [hc]
theorem odd_len128 (h : Int → Int) (k : Nat) : ∀ x ∈ oddk h k, x.length = 128 := fun x hx => kept_len128 h k x (List.mem_filter.1 hx).1
theorem odd_len (h : Int → Int) (k : Nat) : (oddk h k).length ≤ k := Nat.le_trans (List.length_filter_le _ _) (kept_len h k)
end Go.Proofs.Ytooiomfcemceiaa.A
