/- Lists of ranges: plain mathematics, by index. -/
import Derived.Test.YtooiomfcemceiaaRows
namespace Go.Proofs.Ytooiomfcemceiaa.A

/-- A range of codes, with its value. -/
structure Rg where
  f : Int
  t : Int
  v : Int

def rz : Rg := ⟨0, 0, 0⟩
/-- The range at a place of a list. -/
def at' (l : List Rg) (i : Nat) : Rg := l.getD i rz
theorem at_snoc_lt (l : List Rg) (x : Rg) (i : Nat) (h : i < l.length) : at' (l ++ [x]) i = at' l i := by
  simp [at', List.getD_eq_getElem?_getD, List.getElem?_append_left h]
theorem at_snoc (l : List Rg) (x : Rg) (i : Nat) (h : i = l.length) : at' (l ++ [x]) i = x := by
  subst h; simp [at', List.getD_eq_getElem?_getD]
theorem at_set (l : List Rg) (x : Rg) (i j : Nat) (h : i ≠ j) : at' (l.set i x) j = at' l j := by
  simp [at', List.getD_eq_getElem?_getD, h]
theorem at_set_same (l : List Rg) (x : Rg) (i : Nat) (h : i < l.length) : at' (l.set i x) i = x := by
  simp [at', List.getD_eq_getElem?_getD, h]
theorem list_at {a b : List Rg} (hl : a.length = b.length) (h : ∀ i, i < a.length → at' a i = at' b i) : a = b := by
  apply List.ext_getElem hl
  intro i h1 h2
  have := h i h1
  simpa [at', List.getD_eq_getElem?_getD, h1, h2] using this

/-- A range that may be. -/
def Ok (m : Int) (r : Rg) : Prop := 0 ≤ r.f ∧ r.f ≤ r.t ∧ r.t ≤ 1114111 ∧ 0 ≤ r.v ∧ r.v ≤ m
/-- The first k ranges are right, for a greatest value. -/
def Rt (m : Int) (l : List Rg) (k : Nat) : Prop := (∀ i, i < k → Ok m (at' l i)) ∧ ∀ i j, i < j → j < k → (at' l i).t < (at' l j).f

theorem rt_zero (m : Int) (l : List Rg) : Rt m l 0 := ⟨fun i h => by omega, fun i j h1 h2 => by omega⟩
theorem rt_le {m : Int} {l : List Rg} {k j : Nat} (h : Rt m l k) (hj : j ≤ k) : Rt m l j :=
  ⟨fun i hi => h.1 i (by omega), fun a b h1 h2 => h.2 a b h1 (by omega)⟩
theorem rt_more {m n : Int} {l : List Rg} {k : Nat} (h : Rt m l k) (hm : m ≤ n) : Rt n l k :=
  ⟨fun i hi => by obtain ⟨a, b, c, d, e⟩ := h.1 i hi; exact ⟨a, b, c, d, by omega⟩, h.2⟩
theorem rt_congr {m : Int} {a b : List Rg} {k : Nat} (e : ∀ i, i < k → at' a i = at' b i) (h : Rt m a k) : Rt m b k :=
  ⟨fun i hi => by rw [← e i hi]; exact h.1 i hi, fun i j h1 h2 => by rw [← e i (by omega), ← e j h2]; exact h.2 i j h1 h2⟩
/-- What the range ahead ends at; -1 ahead of the first. -/
def lastT (l : List Rg) (k : Nat) : Int := if k = 0 then -1 else (at' l (k - 1)).t
theorem rt_succ (m : Int) (l : List Rg) (k : Nat) : Rt m l (k + 1) ↔ Rt m l k ∧ Ok m (at' l k) ∧ lastT l k < (at' l k).f := by
  constructor
  · intro h
    refine ⟨rt_le h (by omega), h.1 k (by omega), ?_⟩
    unfold lastT
    split
    · have := (h.1 k (by omega)).1; omega
    · exact h.2 (k - 1) k (by omega) (by omega)
  · rintro ⟨h, ho, hl⟩
    refine ⟨fun i hi => ?_, fun i j h1 h2 => ?_⟩
    · by_cases e : i = k
      · rw [e]; exact ho
      · exact h.1 i (by omega)
    · by_cases e : j = k
      · subst e
        unfold lastT at hl
        rw [if_neg (by omega)] at hl
        by_cases e2 : i = j - 1
        · rw [e2]; exact hl
        · have a := h.2 i (j - 1) (by omega) (by omega)
          have b := (h.1 (j - 1) (by omega)).2.1
          omega
      · exact h.2 i j h1 (by omega)

/-- The same by a program. -/
def okB (m last : Int) (r : Rg) : Bool := decide (last < r.f ∧ 0 ≤ r.f ∧ r.f ≤ r.t ∧ r.t ≤ 1114111 ∧ 0 ≤ r.v ∧ r.v ≤ m)
def rtB (m : Int) (l : List Rg) : Nat → Bool | 0 => true | k + 1 => rtB m l k && okB m (lastT l k) (at' l k)
def rightB (m : Int) (l : List Rg) (len : Nat) : Bool := decide (len ≤ 5000) && rtB m l len
theorem rtB_iff (m : Int) (l : List Rg) : ∀ k, rtB m l k = true ↔ Rt m l k
  | 0 => ⟨fun _ => rt_zero _ _, fun _ => rfl⟩
  | k + 1 => by
    rw [rt_succ, ← rtB_iff m l k]
    show (rtB m l k && okB m (lastT l k) (at' l k)) = true ↔ _
    unfold okB Ok
    simp
    omega
theorem right_iff (m : Int) (l : List Rg) (len : Nat) : rightB m l len = true ↔ len ≤ 5000 ∧ Rt m l len := by
  unfold rightB; rw [Bool.and_eq_true, rtB_iff, decide_eq_true_iff]
theorem right_no {m : Int} {l : List Rg} {len k : Nat} (hk : k < len) (h : okB m (lastT l k) (at' l k) = false) : rightB m l len = false := by
  rw [Bool.eq_false_iff]
  intro c
  have c2 := ((right_iff m l len).1 c).2
  have := (rtB_iff m l (k + 1)).2 (rt_le c2 (by omega))
  simp [rtB, h] at this
theorem right_ok {m : Int} {l : List Rg} {k : Nat} (hr : Rt m l k) (h : okB m (lastT l k) (at' l k) = true) : Rt m l (k + 1) := by
  rw [← rtB_iff] at *
  simp [rtB, h, hr]
theorem right_far {m : Int} {l : List Rg} {len : Nat} (h : ¬ len ≤ 5000) : rightB m l len = false := by unfold rightB; simp [h]
theorem right_same {m : Int} {l : List Rg} {len : Nat} (h : Rt m l len) (h5 : len ≤ 5000) : rightB m l len = true := (right_iff _ _ _).2 ⟨h5, h⟩
theorem rt_of_right {m : Int} {l : List Rg} {len : Nat} (h : rightB m l len = true) : Rt m l len := ((right_iff _ _ _).1 h).2

/-- A code has a value. -/
def Has (l : List Rg) (k : Nat) (c v : Int) : Prop := ∃ i, i < k ∧ (at' l i).f ≤ c ∧ c ≤ (at' l i).t ∧ (at' l i).v = v
theorem has_one {m : Int} {l : List Rg} {k : Nat} {c u v : Int} (h : Rt m l k) (hu : Has l k c u) (hv : Has l k c v) : u = v := by
  obtain ⟨i, hi, a, b, rfl⟩ := hu
  obtain ⟨j, hj, a', b', rfl⟩ := hv
  rcases Nat.lt_trichotomy i j with e | e | e
  · have := h.2 i j e hj; omega
  · rw [e]
  · have := h.2 j i e hi; omega
/-- What a code finds. -/
def Found (l : List Rg) (k : Nat) (c v : Int) (b : Bool) : Prop := (b = true ∧ Has l k c v) ∨ (b = false ∧ v = 0 ∧ ∀ u, ¬ Has l k c u)
theorem found_one {m : Int} {l : List Rg} {k : Nat} {c u v : Int} {a b : Bool} (h : Rt m l k) (hu : Found l k c u a) (hv : Found l k c v b) : u = v ∧ a = b := by
  rcases hu with ⟨rfl, hu⟩ | ⟨rfl, rfl, hu⟩ <;> rcases hv with ⟨rfl, hv⟩ | ⟨rfl, rfl, hv⟩
  · exact ⟨has_one h hu hv, rfl⟩
  · exact absurd hu (hv _)
  · exact absurd hv (hu _)
  · exact ⟨rfl, rfl⟩
theorem found_congr {l l' : List Rg} {k k' : Nat} {c v : Int} {b : Bool} (e : ∀ u, Has l k c u ↔ Has l' k' c u) (h : Found l k c v b) : Found l' k' c v b := by
  rcases h with ⟨rfl, h⟩ | ⟨rfl, rfl, h⟩
  · exact .inl ⟨rfl, (e _).1 h⟩
  · exact .inr ⟨rfl, rfl, fun u hu => h u ((e u).2 hu)⟩

/-- The first of the first k ranges that has a code: its value, and whether there is one. -/
def fnd (l : List Rg) (c : Int) : Nat → Int × Bool | 0 => (0, false) | k + 1 => if (fnd l c k).2 then fnd l c k else if (at' l k).f ≤ c ∧ c ≤ (at' l k).t then ((at' l k).v, true) else (0, false)
theorem fnd_found (l : List Rg) (c : Int) : ∀ k, Found l k c (fnd l c k).1 (fnd l c k).2
  | 0 => .inr ⟨rfl, rfl, fun u ⟨i, hi, _⟩ => by omega⟩
  | k + 1 => by
    unfold fnd
    rcases fnd_found l c k with ⟨h, i, hi, p⟩ | ⟨h, h0, hn⟩
    · rw [if_pos h]
      exact .inl ⟨h, i, by omega, p⟩
    · rw [if_neg (by rw [h]; simp)]
      by_cases q : (at' l k).f ≤ c ∧ c ≤ (at' l k).t
      · rw [if_pos q]
        exact .inl ⟨rfl, k, by omega, q.1, q.2, rfl⟩
      · rw [if_neg q]
        refine .inr ⟨rfl, rfl, fun u ⟨i, hi, p1, p2, p3⟩ => ?_⟩
        by_cases e : i = k
        · subst e; exact q ⟨p1, p2⟩
        · exact hn u ⟨i, by omega, p1, p2, p3⟩
theorem fnd_stays {l : List Rg} {c : Int} {k : Nat} (h : (fnd l c k).2 = true) : ∀ n, k ≤ n → fnd l c n = fnd l c k
  | 0, hn => by rw [show k = 0 by omega]
  | n + 1, hn => by
    by_cases e : k = n + 1
    · rw [e]
    · have ih := fnd_stays h n (by omega)
      show (if (fnd l c n).2 then fnd l c n else _) = _
      rw [if_pos (by rw [ih]; exact h), ih]
theorem fnd_hit {l : List Rg} {c : Int} {k n : Nat} (h : (fnd l c k).2 = false) (hk : k < n) (h1 : (at' l k).f ≤ c) (h2 : c ≤ (at' l k).t) : fnd l c n = ((at' l k).v, true) := by
  have e : fnd l c (k + 1) = ((at' l k).v, true) := by unfold fnd; rw [if_neg (by rw [h]; simp), if_pos ⟨h1, h2⟩]
  rw [fnd_stays (k := k + 1) (by rw [e]) n (by omega), e]
theorem fnd_miss {l : List Rg} {c : Int} {k : Nat} (h : fnd l c k = (0, false)) (hn : ¬ ((at' l k).f ≤ c ∧ c ≤ (at' l k).t)) : fnd l c (k + 1) = (0, false) := by
  unfold fnd; rw [h, if_neg (by simp), if_neg hn]
theorem found_fnd {m : Int} {l : List Rg} {k : Nat} {c v : Int} {b : Bool} (h : Rt m l k) (hf : Found l k c v b) : fnd l c k = (v, b) := by
  have := found_one h (fnd_found l c k) hf
  exact Prod.ext this.1 this.2

/-- How many codes the first k ranges have. -/
def cnt (l : List Rg) : Nat → Int | 0 => 0 | k + 1 => cnt l k + ((at' l k).t - (at' l k).f + 1)
theorem cnt_congr {a b : List Rg} : ∀ k, (∀ i, i < k → at' a i = at' b i) → cnt a k = cnt b k
  | 0, _ => rfl
  | k + 1, h => by
    show cnt a k + _ = cnt b k + _
    rw [cnt_congr k (fun i hi => h i (by omega)), h k (by omega)]
theorem cnt_bd {m : Int} {l : List Rg} : ∀ k, Rt m l k → 0 ≤ cnt l k ∧ cnt l k ≤ 1114112 * k
  | 0, _ => ⟨by simp [cnt], by simp [cnt]⟩
  | k + 1, h => by
    have ih := cnt_bd k (rt_le h (by omega))
    obtain ⟨a, b, c, _, _⟩ := h.1 k (by omega)
    show 0 ≤ cnt l k + _ ∧ cnt l k + _ ≤ _
    omega

/-- One range more of joined ones. -/
def push (o : List Rg) (x : Rg) : List Rg :=
  if 0 < o.length ∧ x.f = (at' o (o.length - 1)).t + 1 ∧ x.v = (at' o (o.length - 1)).v then o.set (o.length - 1) ⟨(at' o (o.length - 1)).f, x.t, (at' o (o.length - 1)).v⟩ else o ++ [x]
/-- The first k ranges, joined. -/
def joined (l : List Rg) : Nat → List Rg | 0 => [] | k + 1 => push (joined l k) (at' l k)
theorem joined_congr {a b : List Rg} : ∀ k, (∀ i, i < k → at' a i = at' b i) → joined a k = joined b k
  | 0, _ => rfl
  | k + 1, h => by
    show push (joined a k) _ = push (joined b k) _
    rw [joined_congr k (fun i hi => h i (by omega)), h k (by omega)]

theorem push_goes {o : List Rg} {x : Rg} (h0 : 0 < o.length) (h1 : x.f = (at' o (o.length - 1)).t + 1) (h2 : x.v = (at' o (o.length - 1)).v) :
    push o x = o.set (o.length - 1) ⟨(at' o (o.length - 1)).f, x.t, (at' o (o.length - 1)).v⟩ := by unfold push; rw [if_pos ⟨h0, h1, h2⟩]
theorem push_stays {o : List Rg} {x : Rg} (h : ¬ (0 < o.length ∧ x.f = (at' o (o.length - 1)).t + 1 ∧ x.v = (at' o (o.length - 1)).v)) : push o x = o ++ [x] := by unfold push; rw [if_neg h]
theorem push_len (o : List Rg) (x : Rg) : 0 < (push o x).length ∧ (push o x).length ≤ o.length + 1 := by
  unfold push; split
  · simp; omega
  · simp
theorem push_last (o : List Rg) (x : Rg) : (at' (push o x) ((push o x).length - 1)).t = x.t ∧ (at' (push o x) ((push o x).length - 1)).v = x.v := by
  by_cases h : 0 < o.length ∧ x.f = (at' o (o.length - 1)).t + 1 ∧ x.v = (at' o (o.length - 1)).v
  · obtain ⟨h0, h1, h2⟩ := h
    rw [push_goes h0 h1 h2, List.length_set, at_set_same _ _ _ (by omega)]
    exact ⟨rfl, h2.symm⟩
  · rw [push_stays h, at_snoc _ _ _ (by simp)]
    exact ⟨rfl, rfl⟩
theorem push_push (o : List Rg) (f c t v : Int) : push (push o ⟨f, c, v⟩) ⟨c + 1, t, v⟩ = push o ⟨f, t, v⟩ := by
  by_cases h : 0 < o.length ∧ f = (at' o (o.length - 1)).t + 1 ∧ v = (at' o (o.length - 1)).v
  · obtain ⟨h0, h1, h2⟩ := h
    rw [push_goes (x := ⟨f, c, v⟩) h0 h1 h2, push_goes (x := ⟨f, t, v⟩) h0 h1 h2]
    have hl : (o.set (o.length - 1) ⟨(at' o (o.length - 1)).f, c, (at' o (o.length - 1)).v⟩).length = o.length := by simp
    have e : at' (o.set (o.length - 1) ⟨(at' o (o.length - 1)).f, c, (at' o (o.length - 1)).v⟩) (o.length - 1) = ⟨(at' o (o.length - 1)).f, c, (at' o (o.length - 1)).v⟩ := at_set_same _ _ _ (by omega)
    rw [push_goes (by rw [hl]; exact h0) (by rw [hl, e]) (by rw [hl, e]; exact h2), hl, e, List.set_set]
  · rw [push_stays (x := ⟨f, c, v⟩) h, push_stays (x := ⟨f, t, v⟩) h]
    have hl : (o ++ [⟨f, c, v⟩] : List Rg).length - 1 = o.length := by simp
    have e : at' (o ++ [⟨f, c, v⟩]) o.length = ⟨f, c, v⟩ := at_snoc _ _ _ rfl
    rw [push_goes (by simp) (by rw [hl, e]) (by rw [hl, e]), hl, e]
    simp

/-- No two neighbours go on in one another. -/
def Norm (o : List Rg) : Prop := ∀ i, i + 1 < o.length → ¬ ((at' o (i + 1)).f = (at' o i).t + 1 ∧ (at' o (i + 1)).v = (at' o i).v)

theorem push_rt {m : Int} {o : List Rg} {x : Rg} (h : Rt m o o.length) (hx : Ok m x) (hl : lastT o o.length < x.f) : Rt m (push o x) (push o x).length := by
  by_cases c : 0 < o.length ∧ x.f = (at' o (o.length - 1)).t + 1 ∧ x.v = (at' o (o.length - 1)).v
  · obtain ⟨h0, h1, h2⟩ := c
    rw [push_goes h0 h1 h2, List.length_set]
    obtain ⟨a1, a2, a3, a4, a5⟩ := h.1 (o.length - 1) (by omega)
    obtain ⟨b1, b2, b3, b4, b5⟩ := hx
    refine ⟨fun i hi => ?_, fun i j hij hj => ?_⟩
    · by_cases e : o.length - 1 = i
      · subst e; rw [at_set_same _ _ _ (by omega)]
        exact ⟨a1, by show (at' o (o.length - 1)).f ≤ x.t; omega, b3, a4, a5⟩
      · rw [at_set _ _ _ _ e]; exact h.1 i hi
    · rw [at_set _ _ _ i (by omega)]
      by_cases e : o.length - 1 = j
      · subst e; rw [at_set_same _ _ _ (by omega)]; exact h.2 i _ hij hj
      · rw [at_set _ _ _ _ e]; exact h.2 i j hij hj
  · rw [push_stays c]
    simp only [List.length_append, List.length_singleton]
    rw [rt_succ]
    have e : ∀ i, i < o.length → at' o i = at' (o ++ [x]) i := fun i hi => (at_snoc_lt o x i hi).symm
    refine ⟨rt_congr e h, by rw [at_snoc _ _ _ rfl]; exact hx, ?_⟩
    rw [at_snoc _ _ _ rfl]
    unfold lastT at *
    split
    · rename_i h0; rw [if_pos h0] at hl; exact hl
    · rename_i h0; rw [if_neg h0] at hl; rw [← e _ (by omega)]; exact hl
theorem push_norm {o : List Rg} {x : Rg} (h : Norm o) : Norm (push o x) := by
  by_cases c : 0 < o.length ∧ x.f = (at' o (o.length - 1)).t + 1 ∧ x.v = (at' o (o.length - 1)).v
  · obtain ⟨h0, h1, h2⟩ := c
    rw [push_goes h0 h1 h2]
    intro i hi
    rw [List.length_set] at hi
    rw [at_set _ _ _ i (by omega)]
    by_cases e : o.length - 1 = i + 1
    · rw [e, at_set_same _ _ _ (by omega)]; exact h i hi
    · rw [at_set _ _ _ _ e]; exact h i hi
  · rw [push_stays c]
    intro i hi
    simp only [List.length_append, List.length_singleton] at hi
    rw [at_snoc_lt _ _ i (by omega)]
    by_cases e : i + 1 = o.length
    · rw [at_snoc _ _ _ e]
      have e2 : o.length - 1 = i := by omega
      rw [e2] at c
      exact fun k => c ⟨by omega, k.1, k.2⟩
    · rw [at_snoc_lt _ _ _ (by omega)]; exact h i (by omega)
theorem push_cnt (o : List Rg) (x : Rg) : cnt (push o x) (push o x).length = cnt o o.length + (x.t - x.f + 1) := by
  by_cases c : 0 < o.length ∧ x.f = (at' o (o.length - 1)).t + 1 ∧ x.v = (at' o (o.length - 1)).v
  · obtain ⟨h0, h1, h2⟩ := c
    rw [push_goes h0 h1 h2, List.length_set]
    obtain ⟨n, hn⟩ : ∃ n, o.length = n + 1 := ⟨o.length - 1, by omega⟩
    have e : o.length - 1 = n := by omega
    rw [e] at h1 h2 ⊢
    rw [hn]
    show cnt (o.set n _) n + _ = (cnt o n + _) + _
    rw [cnt_congr (b := o) n (fun i hi => at_set _ _ _ _ (by omega)), at_set_same _ _ _ (by omega)]
    show cnt o n + (x.t - (at' o n).f + 1) = _
    omega
  · rw [push_stays c]
    simp only [List.length_append, List.length_singleton]
    show cnt (o ++ [x]) o.length + _ = _
    rw [cnt_congr (b := o) o.length (fun i hi => at_snoc_lt o x i hi), at_snoc _ _ _ rfl]
theorem push_has {m : Int} {o : List Rg} {x : Rg} (h : Rt m o o.length) (hx : Ok m x) (c v : Int) : Has (push o x) (push o x).length c v ↔ Has o o.length c v ∨ (x.f ≤ c ∧ c ≤ x.t ∧ x.v = v) := by
  by_cases q : 0 < o.length ∧ x.f = (at' o (o.length - 1)).t + 1 ∧ x.v = (at' o (o.length - 1)).v
  · obtain ⟨h0, h1, h2⟩ := q
    rw [push_goes h0 h1 h2, List.length_set]
    obtain ⟨a1, a2, a3, a4, a5⟩ := h.1 (o.length - 1) (by omega)
    obtain ⟨b1, b2, b3, b4, b5⟩ := hx
    constructor
    · rintro ⟨i, hi, p⟩
      by_cases e : o.length - 1 = i
      · subst e
        rw [at_set_same _ _ _ (by omega)] at p
        obtain ⟨p1, p2, p3⟩ := p
        have p1' : (at' o (o.length - 1)).f ≤ c := p1
        have p2' : c ≤ x.t := p2
        have p3' : (at' o (o.length - 1)).v = v := p3
        by_cases k : c ≤ (at' o (o.length - 1)).t
        · exact .inl ⟨o.length - 1, by omega, p1', k, p3'⟩
        · exact .inr ⟨by omega, p2', by omega⟩
      · rw [at_set _ _ _ _ e] at p
        exact .inl ⟨i, hi, p⟩
    · rintro (⟨i, hi, p⟩ | ⟨p1, p2, p3⟩)
      · by_cases e : o.length - 1 = i
        · subst e
          refine ⟨o.length - 1, hi, ?_⟩
          rw [at_set_same _ _ _ (by omega)]
          exact ⟨p.1, by have := p.2.1; show c ≤ x.t; omega, p.2.2⟩
        · exact ⟨i, hi, by rw [at_set _ _ _ _ e]; exact p⟩
      · refine ⟨o.length - 1, by omega, ?_⟩
        rw [at_set_same _ _ _ (by omega)]
        exact ⟨by show (at' o (o.length - 1)).f ≤ c; omega, p2, by show (at' o (o.length - 1)).v = v; omega⟩
  · rw [push_stays q]
    simp only [List.length_append, List.length_singleton]
    constructor
    · rintro ⟨i, hi, p⟩
      by_cases e : i = o.length
      · rw [at_snoc _ _ _ e] at p; exact .inr p
      · rw [at_snoc_lt _ _ _ (by omega)] at p; exact .inl ⟨i, by omega, p⟩
    · rintro (⟨i, hi, p⟩ | p)
      · exact ⟨i, by omega, by rw [at_snoc_lt _ _ _ hi]; exact p⟩
      · exact ⟨o.length, by omega, by rw [at_snoc _ _ _ rfl]; exact p⟩

theorem joined_len (l : List Rg) : ∀ k, (joined l k).length ≤ k
  | 0 => by simp [joined]
  | k + 1 => by have := joined_len l k; have := (push_len (joined l k) (at' l k)).2; show (push _ _).length ≤ _; omega
theorem joined_pos (l : List Rg) (k : Nat) (h : 0 < k) : 0 < (joined l k).length := by
  obtain ⟨n, rfl⟩ : ∃ n, k = n + 1 := ⟨k - 1, by omega⟩
  exact (push_len _ _).1
theorem joined_last (l : List Rg) (k : Nat) (h : 0 < k) : (at' (joined l k) ((joined l k).length - 1)).t = (at' l (k - 1)).t ∧ (at' (joined l k) ((joined l k).length - 1)).v = (at' l (k - 1)).v := by
  obtain ⟨n, rfl⟩ : ∃ n, k = n + 1 := ⟨k - 1, by omega⟩
  exact push_last _ _
theorem joined_lastT (l : List Rg) (k : Nat) : lastT (joined l k) (joined l k).length = lastT l k := by
  unfold lastT
  by_cases h : k = 0
  · subst h; simp [joined]
  · have := joined_pos l k (by omega)
    rw [if_neg (by omega), if_neg h]
    exact (joined_last l k (by omega)).1
theorem joined_rt {m : Int} {l : List Rg} : ∀ k, Rt m l k → Rt m (joined l k) (joined l k).length
  | 0, _ => rt_zero _ _
  | k + 1, h => by
    have h' := (rt_succ m l k).1 h
    exact push_rt (joined_rt k h'.1) h'.2.1 (by rw [joined_lastT]; exact h'.2.2)
theorem joined_norm (l : List Rg) : ∀ k, Norm (joined l k)
  | 0 => by intro i hi; simp [joined] at hi
  | k + 1 => push_norm (joined_norm l k)
theorem joined_cnt (l : List Rg) : ∀ k, cnt (joined l k) (joined l k).length = cnt l k
  | 0 => rfl
  | k + 1 => by
    show cnt (push _ _) (push _ _).length = _
    rw [push_cnt, joined_cnt l k]; rfl
theorem has_succ (l : List Rg) (k : Nat) (c v : Int) : Has l (k + 1) c v ↔ Has l k c v ∨ ((at' l k).f ≤ c ∧ c ≤ (at' l k).t ∧ (at' l k).v = v) := by
  constructor
  · rintro ⟨i, hi, p⟩
    by_cases e : i = k
    · rw [e] at p; exact .inr p
    · exact .inl ⟨i, by omega, p⟩
  · rintro (⟨i, hi, p⟩ | p)
    · exact ⟨i, by omega, p⟩
    · exact ⟨k, by omega, p⟩
theorem joined_has {m : Int} {l : List Rg} (c v : Int) : ∀ k, Rt m l k → (Has (joined l k) (joined l k).length c v ↔ Has l k c v)
  | 0, _ => by constructor <;> rintro ⟨i, hi, _⟩ <;> simp [joined] at hi
  | k + 1, h => by
    have h' := (rt_succ m l k).1 h
    rw [has_succ, ← joined_has c v k h'.1]
    exact push_has (joined_rt k h'.1) h'.2.1 c v
theorem take_at (l : List Rg) (k : Nat) (h : k < l.length) : l.take (k + 1) = l.take k ++ [at' l k] := by
  rw [List.take_succ_eq_append_getElem h]
  simp [at', List.getD_eq_getElem?_getD, h]
theorem at_take (l : List Rg) (k i : Nat) (h : i < k) : at' (l.take k) i = at' l i := by
  simp [at', List.getD_eq_getElem?_getD, h]
theorem joined_same {l : List Rg} (h : Norm l) : ∀ k, k ≤ l.length → joined l k = l.take k
  | 0, _ => by simp [joined]
  | k + 1, hk => by
    show push (joined l k) _ = _
    rw [joined_same h k (by omega), take_at l k (by omega), push_stays]
    rintro ⟨h0, h1, h2⟩
    have hl : (l.take k).length = k := by simp; omega
    rw [hl] at h0 h1 h2
    rw [at_take _ _ _ (by omega)] at h1 h2
    have := h (k - 1) (by omega)
    rw [show k - 1 + 1 = k by omega] at this
    exact this ⟨h1, h2⟩
theorem joined_again (l : List Rg) (k : Nat) : joined (joined l k) (joined l k).length = joined l k := by
  rw [joined_same (joined_norm l k) _ (Nat.le_refl _), List.take_length]
end Go.Proofs.Ytooiomfcemceiaa.A
