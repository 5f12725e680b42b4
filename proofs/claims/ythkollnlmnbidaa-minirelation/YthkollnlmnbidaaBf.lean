/- Pairs of states that are told apart; tables of them in memory. -/
import Derived.Test.YthkollnlmnbidaaBe
namespace Go.Proofs.Ythkollnlmnbidaa.A
open Go.RowKit
set_option linter.unusedVariables false

/-- A state, or nowhere. -/
def sI (n i : Nat) : Int := if i < n then (i : Int) else -1
theorem sI_lt {n i : Nat} (h : i < n) : sI n i = i := by unfold sI; rw [if_pos h]
theorem sI_n (n : Nat) : sI n n = -1 := by unfold sI; rw [if_neg (by omega)]
section
variable {nx : List (List Int)} {ru : List Int} {n : Nat} {g : Nat → Bool}
theorem out_rng (h : Mx nx ru n) : ∀ (word : List Nat) (a : Int), a < (n : Int) → -1 ≤ outc nx ru a word
  | [], a, ha => by
    by_cases h0 : 0 ≤ a
    · obtain ⟨r, _, h1, _, e⟩ := mx_rule h (i := a.toNat) (by omega)
      rw [show ((a.toNat : Nat) : Int) = a by omega] at e
      rw [e]; exact h1
    · rw [out_dead [] a (by omega)]; omega
  | c :: r, a, ha => out_rng h r (stepF nx a c) (step_in h a ha c)
theorem outc_to (h : Mx nx ru n) (hg : IsLive nx ru n g) {i : Nat} (hi : i ≤ n) (c : Nat) (word : List Nat) : outc nx ru (stepF nx (sI n i) c) word = outc nx ru (sI n (toF nx g n i c)) word := by
  by_cases hin : i = n
  · subst hin
    have e : toF nx g i i c = i := by unfold toF; rw [if_pos (.inl rfl)]
    rw [e, sI_n, out_dead word (-1) (by omega), out_dead word _ (by unfold stepF; rw [if_neg (by omega)]; omega)]
  · have hlt : i < n := by omega
    rw [sI_lt hlt]
    by_cases hz : stepF nx i c < 0
    · have e : toF nx g n i c = n := by unfold toF; rw [if_pos (.inr (.inl hz))]
      rw [e, sI_n, out_dead word (-1) (by omega), out_dead word _ hz]
    · have htn : (stepF nx i c).toNat < n := by have := step_in h i (by omega) c; omega
      cases hgt : g (stepF nx i c).toNat
      · have e : toF nx g n i c = n := by unfold toF; rw [if_pos (.inr (.inr hgt))]
        rw [e, sI_n, out_dead word (-1) (by omega)]
        have h1 := out_rng h word (stepF nx i c) (step_in h i (by omega) c)
        have h2 : ¬ 0 ≤ outc nx ru (stepF nx i c) word := fun q => by
          have := (hg _ htn).2 ⟨word, by rw [show (((stepF nx i c).toNat : Nat) : Int) = stepF nx i c by omega]; exact q⟩
          rw [hgt] at this; cases this
        omega
      · have e : toF nx g n i c = (stepF nx i c).toNat := by
          unfold toF
          rw [if_neg]
          rintro (q | q | q)
          · exact hin q
          · exact hz q
          · rw [hgt] at q; cases q
        rw [e, sI_lt htn, show (((stepF nx i c).toNat : Nat) : Int) = stepF nx i c by omega]
end

/-- A table of pairs that are told apart by some word. -/
structure Ai (nx : List (List Int)) (ru : List Int) (n : Nat) (A : Nat → Nat → Bool) : Prop where
  sym : ∀ i k, i ≤ n → k ≤ n → A i k = A k i
  diag : ∀ i, i ≤ n → A i i = false
  sound : ∀ i k, i ≤ n → k ≤ n → A i k = true → ∃ w, outc nx ru (sI n i) w ≠ outc nx ru (sI n k) w
  start : ∀ i k, i ≤ n → k ≤ n → A i k = false → outc nx ru (sI n i) [] = outc nx ru (sI n k) []
def ClsA (nx : List (List Int)) (g : Nat → Bool) (n : Nat) (A : Nat → Nat → Bool) (i k s : Nat) : Prop := A i k = false → ∀ c, c < s → A (toF nx g n i c) (toF nx g n k c) = false
/-- Which of two states are alike. -/
def IsAlk (nx : List (List Int)) (ru : List Int) (n : Nat) (T : Nat → Nat → Bool) : Prop := ∀ i k, i < n → k < n → (T i k = true ↔ Alk nx ru i k)
def cnt2 (A : Nat → Nat → Bool) (N : Nat) : Nat → Nat
  | 0 => 0
  | k + 1 => cnt2 A N k + cntF (A k) N
theorem cnt2_mono {A B : Nat → Nat → Bool} {N : Nat} : ∀ m, (∀ i k, i < m → k < N → A i k = true → B i k = true) → cnt2 B N m ≤ cnt2 A N m
  | 0, _ => Nat.le_refl _
  | m + 1, h => by
    have h1 := cnt2_mono m (fun i k hi hk => h i k (by omega) hk)
    have h2 := cntF_mono N (fun k hk => h m k (by omega) hk)
    unfold cnt2; omega
theorem cnt2_lt {A B : Nat → Nat → Bool} {N : Nat} : ∀ m, (∀ i k, i < m → k < N → A i k = true → B i k = true) → ∀ i k, i < m → k < N → A i k = false → B i k = true → cnt2 B N m < cnt2 A N m
  | 0, _, i, k, hi, _, _, _ => by omega
  | m + 1, h, i, k, hi, hk, h0, h1 => by
    have q2 := cntF_mono N (fun k hk => h m k (by omega) hk)
    have q1 := cnt2_mono m (fun i k hi hk => h i k (by omega) hk)
    by_cases e : i = m
    · subst e
      have := cntF_lt N (fun k hk => h i k (by omega) hk) k hk h0 h1
      unfold cnt2; omega
    · have := cnt2_lt m (fun i k hi hk => h i k (by omega) hk) i k (by omega) hk h0 h1
      unfold cnt2; omega
section
variable {nx : List (List Int)} {ru : List Int} {n : Nat} {g : Nat → Bool} {A : Nat → Nat → Bool}
theorem closed_alk (h : Mx nx ru n) (hg : IsLive nx ru n g) (ha : Ai nx ru n A) (hc : ∀ i, i ≤ n → ∀ k, k < i → ClsA nx g n A i k 16) : ∀ (word : List Nat) (i k : Nat), i ≤ n → k ≤ n → A i k = false → outc nx ru (sI n i) word = outc nx ru (sI n k) word
  | [], i, k, hi, hk, hf => ha.start i k hi hk hf
  | c :: r, i, k, hi, hk, hf => by
    show outc nx ru (stepF nx (sI n i) c) r = outc nx ru (stepF nx (sI n k) c) r
    rcases Nat.lt_or_ge c 16 with hc16 | hc16
    · rw [outc_to h hg hi, outc_to h hg hk]
      refine closed_alk h hg ha hc r _ _ (toF_le h hi) (toF_le h hk) ?_
      rcases Nat.lt_trichotomy i k with q | q | q
      · rw [ha.sym _ _ (toF_le h hi) (toF_le h hk)]
        exact hc k hk i q (by rw [ha.sym _ _ hk hi]; exact hf) c hc16
      · subst q; exact ha.diag _ (toF_le h hi)
      · exact hc i hi k q hf c hc16
    · rw [step_far hc16, step_far hc16]
theorem alk_of (h : Mx nx ru n) (hg : IsLive nx ru n g) (ha : Ai nx ru n A) (hc : ∀ i, i ≤ n → ∀ k, k < i → ClsA nx g n A i k 16) : IsAlk nx ru n (fun i k => !A i k) := fun i k hi hk => by
  constructor
  · intro q word
    have := closed_alk h hg ha hc word i k (by omega) (by omega) (by simpa using q)
    rw [sI_lt hi, sI_lt hk] at this
    exact this
  · intro q
    cases e : A i k
    · show (!A i k) = true
      rw [e]; rfl
    · obtain ⟨w, hw⟩ := ha.sound i k (by omega) (by omega) e
      rw [sI_lt hi, sI_lt hk] at hw
      exact absurd (q w) hw
/-- A round over the pairs on its way. -/
structure Pa (nx : List (List Int)) (ru : List Int) (n : Nat) (g : Nat → Bool) (A0 A : Nat → Nat → Bool) (m : Bool) (i k s : Nat) : Prop where
  inv : Ai nx ru n A
  more : ∀ a b, a < n + 1 → b < n + 1 → A0 a b = true → A a b = true
  told : (m = true ∧ cnt2 A (n + 1) (n + 1) < cnt2 A0 (n + 1) (n + 1)) ∨ (m = false ∧ (∀ a b, a < n + 1 → b < n + 1 → A a b = A0 a b) ∧ (∀ a, a < i → ∀ b, b < a → ClsA nx g n A a b 16) ∧ (∀ b, b < k → ClsA nx g n A i b 16) ∧ ClsA nx g n A i k s)
theorem pa_start (ha : Ai nx ru n A) : Pa nx ru n g A A false 0 0 0 := ⟨ha, fun _ _ _ _ q => q, .inr ⟨rfl, fun _ _ _ _ => rfl, fun a h => by omega, fun b h => by omega, fun _ c h => by omega⟩⟩
theorem pa_skip {A0 : Nat → Nat → Bool} {m : Bool} {i k c : Nat} (hp : Pa nx ru n g A0 A m i k c) (hn : A (toF nx g n i c) (toF nx g n k c) = false) : Pa nx ru n g A0 A m i k (c + 1) :=
  ⟨hp.inv, hp.more, by
    rcases hp.told with q | ⟨q0, q1, q2, q3, q4⟩
    · exact .inl q
    · exact .inr ⟨q0, q1, q2, q3, fun hf c' hc' => by
        by_cases e : c' = c
        · subst e; exact hn
        · exact q4 hf c' (by omega)⟩⟩
theorem pa_k {A0 : Nat → Nat → Bool} {m : Bool} {i k c : Nat} (hp : Pa nx ru n g A0 A m i k c) (hc : A i k = true ∨ c = 16) : Pa nx ru n g A0 A m i (k + 1) 0 :=
  ⟨hp.inv, hp.more, by
    rcases hp.told with q | ⟨q0, q1, q2, q3, q4⟩
    · exact .inl q
    · refine .inr ⟨q0, q1, q2, fun b hb => ?_, fun _ c h => by omega⟩
      by_cases e : b = k
      · subst e
        rcases hc with q | q
        · intro hf; rw [q] at hf; cases hf
        · rw [← q]; exact q4
      · exact q3 b (by omega)⟩
theorem pa_i {A0 : Nat → Nat → Bool} {m : Bool} {i c : Nat} (hp : Pa nx ru n g A0 A m i i c) : Pa nx ru n g A0 A m (i + 1) 0 0 :=
  ⟨hp.inv, hp.more, by
    rcases hp.told with q | ⟨q0, q1, q2, q3, q4⟩
    · exact .inl q
    · refine .inr ⟨q0, q1, fun a ha => ?_, fun b hb => by omega, fun _ c h => by omega⟩
      by_cases e : a = i
      · subst e; exact q3
      · exact q2 a (by omega)⟩
def setA (A : Nat → Nat → Bool) (i k : Nat) (v : Bool) (a b : Nat) : Bool := if a = i ∧ b = k then v else A a b
theorem pa_set (h : Mx nx ru n) (hg : IsLive nx ru n g) {A0 : Nat → Nat → Bool} {m : Bool} {i k c : Nat} (hi : i ≤ n) (hk : k < i) (hp : Pa nx ru n g A0 A m i k c) (hf : A i k = false) (ht : A (toF nx g n i c) (toF nx g n k c) = true) (s : Nat) :
    Pa nx ru n g A0 (setA (setA A i k true) k i true) true i k s := by
  have hval : ∀ a b, setA (setA A i k true) k i true a b = (A a b || ((decide (a = i) && decide (b = k)) || (decide (a = k) && decide (b = i)))) := fun a b => by
    unfold setA
    by_cases q1 : a = k ∧ b = i
    · rw [if_pos q1]; simp [q1.1, q1.2]
    · rw [if_neg q1]
      by_cases q2 : a = i ∧ b = k
      · rw [if_pos q2]; simp [q2.1, q2.2]
      · rw [if_neg q2]
        have e1 : (decide (a = i) && decide (b = k)) = false := by simpa [Bool.and_eq_false_iff] using fun x y => q2 ⟨x, y⟩
        have e2 : (decide (a = k) && decide (b = i)) = false := by simpa [Bool.and_eq_false_iff] using fun x y => q1 ⟨x, y⟩
        rw [e1, e2]; simp
  have hap : ∃ w, outc nx ru (sI n i) w ≠ outc nx ru (sI n k) w := by
    obtain ⟨w, hw⟩ := hp.inv.sound _ _ (toF_le h hi) (toF_le h (by omega)) ht
    refine ⟨c :: w, fun e => hw ?_⟩
    have e' : outc nx ru (stepF nx (sI n i) c) w = outc nx ru (stepF nx (sI n k) c) w := e
    rw [outc_to h hg hi, outc_to h hg (by omega)] at e'
    exact e'
  have hgrow : ∀ a b, a < n + 1 → b < n + 1 → A a b = true → setA (setA A i k true) k i true a b = true := fun a b _ _ q => by rw [hval, q]; rfl
  refine ⟨⟨fun a b ha hb => ?_, fun a ha => ?_, fun a b ha hb q => ?_, fun a b ha hb q => ?_⟩, fun a b ha hb q => hgrow a b ha hb (hp.more a b ha hb q), .inl ⟨rfl, ?_⟩⟩
  · rw [hval, hval, hp.inv.sym a b ha hb, Bool.or_comm (decide (a = i) && _), Bool.and_comm (decide (a = k)), Bool.and_comm (decide (a = i))]
  · rw [hval, hp.inv.diag a ha]
    by_cases q : a = i
    · have : ¬ a = k := by omega
      simp [this]
    · simp [q]
  · rw [hval, Bool.or_eq_true, Bool.or_eq_true, Bool.and_eq_true, Bool.and_eq_true, decide_eq_true_eq, decide_eq_true_eq, decide_eq_true_eq, decide_eq_true_eq] at q
    rcases q with q | ⟨q1, q2⟩ | ⟨q1, q2⟩
    · exact hp.inv.sound a b ha hb q
    · subst q1; subst q2; exact hap
    · subst q1; subst q2
      obtain ⟨w, hw⟩ := hap
      exact ⟨w, fun e => hw e.symm⟩
  · rw [hval, Bool.or_eq_false_iff] at q
    exact hp.inv.start a b ha hb q.1
  · have hlt := cnt2_lt (A := A) (B := setA (setA A i k true) k i true) (n + 1) hgrow i k (by omega) (by omega) hf (by rw [hval]; simp)
    have h1 := cnt2_mono (A := A0) (B := A) (N := n + 1) (n + 1) hp.more
    omega
theorem pa_end {A0 : Nat → Nat → Bool} (hp : Pa nx ru n g A0 A false (n + 1) 0 0) : ∀ i, i ≤ n → ∀ k, k < i → ClsA nx g n A i k 16 := by
  rcases hp.told with ⟨q, _⟩ | ⟨_, _, q, _⟩
  · cases q
  · exact fun i hi k hk => q i (by omega) k hk
theorem pa_less {A0 : Nat → Nat → Bool} {i k s : Nat} (hp : Pa nx ru n g A0 A true i k s) : cnt2 A (n + 1) (n + 1) < cnt2 A0 (n + 1) (n + 1) := by
  rcases hp.told with ⟨_, q⟩ | ⟨q, _⟩
  · exact q
  · cases q
theorem pa_same {A0 : Nat → Nat → Bool} {m : Bool} {i k s : Nat} (hp : Pa nx ru n g A0 A m i k s) : cnt2 A (n + 1) (n + 1) ≤ cnt2 A0 (n + 1) (n + 1) := cnt2_mono (n + 1) hp.more
/-- What the table begins with. -/
def A1 (nx : List (List Int)) (ru : List Int) (n i k : Nat) : Bool := outc nx ru (sI n i) [] != outc nx ru (sI n k) []
theorem ai_start (nx : List (List Int)) (ru : List Int) (n : Nat) : Ai nx ru n (A1 nx ru n) :=
  ⟨fun i k _ _ => by unfold A1; rw [Bool.eq_iff_iff]; simp only [bne_iff_ne, ne_eq]; exact ⟨fun q e => q e.symm, fun q e => q e.symm⟩, fun i _ => by simp [A1], fun i k _ _ q => ⟨[], by simpa [A1] using q⟩, fun i k _ _ q => by simpa [A1] using q⟩
end

/-- The table in memory: its rows, in blocks one behind the other. -/
def rowT (N T k : Nat) : Array Value := ((List.range N).map fun (i : Nat) => if i < k then Value.slice (some ⟨T + 1 + i, 0, none⟩) N N else .slice none 0 0).toArray
theorem rowT_at (N T k i : Nat) (hi : i < N) : (rowT N T k)[i]? = some (if i < k then Value.slice (some ⟨T + 1 + i, 0, none⟩) N N else .slice none 0 0) := by simp [rowT, hi]
theorem rowT_set (N T k : Nat) (hk : k < N) : (rowT N T k).setIfInBounds k (.slice (some ⟨T + 1 + k, 0, none⟩) N N) = rowT N T (k + 1) := by
  apply Array.ext_getElem?
  intro i
  by_cases hi : i < N
  · rw [Array.getElem?_setIfInBounds, rowT_at _ _ _ _ hi, rowT_at _ _ _ _ hi]
    by_cases e : k = i
    · subst e; simp [rowT, hk]
    · rw [if_neg e]
      by_cases q : i < k
      · rw [if_pos q, if_pos (by omega)]
      · rw [if_neg q, if_neg (by omega)]
  · rw [Array.getElem?_eq_none (by simp [rowT]; omega), Array.getElem?_eq_none (by simp [rowT]; omega)]
structure Tm (w : World) (T N k : Nat) (A : Nat → Nat → Bool) : Prop where
  t : w.heap[T]? = some (.cells (rowT N T k) 30 (0, 0))
  m : ∀ i, i < k → Mk w (T + 1 + i) N (A i)
section
variable {w w' : World} {T N k : Nat} {A : Nat → Nat → Bool}
theorem tm_below (hb : Below w.heap.size w w') (h : Tm w T N k A) : Tm w' T N k A :=
  ⟨(hb.block T (Array.getElem?_eq_some_iff.1 h.t).1).trans h.t, fun i hi => (hb.block _ (mk_lt (h.m i hi))).trans (h.m i hi)⟩
theorem tm_row (h : Tm w T N k A) {i : Nat} (hi : i < k) (hN : i < N) : w.cell? ⟨T, i, none⟩ = some (.slice (some ⟨T + 1 + i, 0, none⟩) N N) := by
  rw [cell_of_row _ _ _ _ _ _ h.t, rowT_at _ _ _ _ hN, if_pos hi]
theorem tm_set (h : Tm w T N k A) {i j : Nat} (hi : i < k) (hj : j < N) (v : Bool) : Tm (w.setCell ⟨T + 1 + i, j, none⟩ (.bool v)) T N k (setA A i j v) := by
  refine ⟨by rw [Below.heap_setCell _ _ _ _ (by simp; omega)]; exact h.t, fun a ha => ?_⟩
  by_cases e : a = i
  · subst e
    exact mk_congr (mk_set (h.m a ha) hj v) (fun b _ => by unfold setA; by_cases q : b = j <;> simp [q])
  · exact mk_congr (mk_other (h.m a ha) (by omega) j (.bool v)) (fun b _ => by unfold setA; rw [if_neg (fun q => e q.1)])
theorem tm_congr {A' : Nat → Nat → Bool} (h : Tm w T N k A) (e : ∀ i j, i < k → j < N → A i j = A' i j) : Tm w T N k A' := ⟨h.t, fun i hi => mk_congr (h.m i hi) (fun j hj => e i j hi hj)⟩
end
/-- How many marks of a table aren't set, as it lies in memory. -/
def undn (w : World) (B : Nat) : Nat → Nat
  | 0 => 0
  | k + 1 => undn w B k + (match w.cell? ⟨B, k, none⟩ with | some (.bool true) => 0 | _ => 1)
def und2 (w : World) (T N : Nat) : Nat → Nat
  | 0 => 0
  | k + 1 => und2 w T N k + undn w (T + 1 + k) N
theorem undn_of {w : World} {B N : Nat} {g : Nat → Bool} (h : Mk w B N g) : ∀ k, k ≤ N → undn w B k = cntF g k
  | 0, _ => rfl
  | k + 1, hk => by
    have h1 := undn_of h k (by omega)
    have h2 := (mk_cell h (j := k) (by omega)).1
    unfold undn cntF
    rw [h1, h2]
    cases g k <;> rfl
theorem und2_of {w : World} {T N m : Nat} {A : Nat → Nat → Bool} (h : Tm w T N m A) : ∀ k, k ≤ m → und2 w T N k = cnt2 A N k
  | 0, _ => rfl
  | k + 1, hk => by
    unfold und2 cnt2
    rw [und2_of h k (by omega), undn_of (h.m k (by omega)) N (Nat.le_refl _)]
end Go.Proofs.Ythkollnlmnbidaa.A
