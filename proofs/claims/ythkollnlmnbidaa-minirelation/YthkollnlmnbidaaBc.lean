/- States' outcomes; which are dead, which alike: plain mathematics. -/
import Derived.Test.YthkollnlmnbidaaBa
namespace Go.Proofs.Ythkollnlmnbidaa.A
open Go.RowKit
set_option linter.unusedVariables false

/-- A state's outcome by a word; -1: none. -/
def outc (nx : List (List Int)) (ru : List Int) : Int → List Nat → Int
  | a, [] => if 0 ≤ a then ru.getD a.toNat (-1) else -1
  | a, c :: r => outc nx ru (stepF nx a c) r
def Live (nx : List (List Int)) (ru : List Int) (a : Int) : Prop := ∃ word, 0 ≤ outc nx ru a word
def Alk (nx : List (List Int)) (ru : List Int) (a b : Int) : Prop := ∀ word, outc nx ru a word = outc nx ru b word
theorem alk_refl (nx : List (List Int)) (ru : List Int) (a : Int) : Alk nx ru a a := fun _ => rfl
theorem alk_symm {nx : List (List Int)} {ru : List Int} {a b : Int} (h : Alk nx ru a b) : Alk nx ru b a := fun w => (h w).symm
theorem alk_trans {nx : List (List Int)} {ru : List Int} {a b c : Int} (h : Alk nx ru a b) (k : Alk nx ru b c) : Alk nx ru a c := fun w => (h w).trans (k w)
theorem alk_step {nx : List (List Int)} {ru : List Int} {a b : Int} (h : Alk nx ru a b) (c : Nat) : Alk nx ru (stepF nx a c) (stepF nx b c) := fun w => h (c :: w)
theorem alk_live {nx : List (List Int)} {ru : List Int} {a b : Int} (h : Alk nx ru a b) : Live nx ru a ↔ Live nx ru b := ⟨fun ⟨w, q⟩ => ⟨w, by rw [← h w]; exact q⟩, fun ⟨w, q⟩ => ⟨w, by rw [h w]; exact q⟩⟩
theorem out_dead {nx : List (List Int)} {ru : List Int} : ∀ (word : List Nat) (a : Int), a < 0 → outc nx ru a word = -1
  | [], a, h => by unfold outc; rw [if_neg (by omega)]
  | c :: r, a, h => by
    have e : stepF nx a c = -1 := by unfold stepF; rw [if_neg (by omega)]
    unfold outc
    rw [e]
    exact out_dead r (-1) (by omega)
theorem dead_neg {nx : List (List Int)} {ru : List Int} {a : Int} (h : a < 0) : ¬ Live nx ru a := fun ⟨w, q⟩ => by rw [out_dead w a h] at q; omega
theorem live_step {nx : List (List Int)} {ru : List Int} {a : Int} {c : Nat} (h : Live nx ru (stepF nx a c)) : Live nx ru a := by
  obtain ⟨w, q⟩ := h
  exact ⟨c :: w, q⟩
theorem step_far {nx : List (List Int)} {a : Int} {c : Nat} (h : 16 ≤ c) : stepF nx a c = -1 := by unfold stepF; rw [if_neg (by omega)]

/-- A machine's lists. -/
structure Mx (nx : List (List Int)) (ru : List Int) (n : Nat) : Prop where
  ln : nx.length = n
  lr : ru.length = n
  pos : 1 ≤ n
  most : n ≤ 200
  row : ∀ x ∈ nx, x.length = 16
  rule : ∀ (i : Nat) (r : Int), ru[i]? = some r → -1 ≤ r ∧ r ≤ 15
  next : ∀ (i : Nat) (x : List Int), nx[i]? = some x → ∀ z ∈ x, -1 ≤ z ∧ z < (n : Int)
theorem mx_of {nx : List (List Int)} {ru : List Int} (h : rightD nx ru = true) (h16 : ∀ x ∈ nx, x.length = 16) : Mx nx ru nx.length := by
  obtain ⟨h1, h2, h3, h4, h5⟩ := right_open h
  exact ⟨rfl, h3, h1, h2, h16, h4, h5⟩
section
variable {nx : List (List Int)} {ru : List Int} {n : Nat}
theorem mx_rule (h : Mx nx ru n) {i : Nat} (hi : i < n) : ∃ r, ru[i]? = some r ∧ -1 ≤ r ∧ r ≤ 15 ∧ outc nx ru i [] = r := by
  obtain ⟨r, e⟩ : ∃ r, ru[i]? = some r := ⟨_, List.getElem?_eq_getElem (by rw [h.lr]; exact hi)⟩
  refine ⟨r, e, (h.rule i _ e).1, (h.rule i _ e).2, ?_⟩
  unfold outc
  rw [if_pos (by omega), List.getD_eq_getElem?_getD, show ((i : Nat) : Int).toNat = i by omega, e]; rfl
theorem mx_next (h : Mx nx ru n) {i c : Nat} (hi : i < n) (hc : c < 16) : ∃ row z, nx[i]? = some row ∧ row.length = 16 ∧ row[c]? = some z ∧ -1 ≤ z ∧ z < (n : Int) ∧ stepF nx i c = z := by
  obtain ⟨row, e⟩ : ∃ row, nx[i]? = some row := ⟨_, List.getElem?_eq_getElem (by rw [h.ln]; exact hi)⟩
  have hl := h.row _ (List.mem_of_getElem? e)
  obtain ⟨z, e2⟩ : ∃ z, row[c]? = some z := ⟨_, List.getElem?_eq_getElem (by rw [hl]; exact hc)⟩
  have hz := h.next i _ e _ (List.mem_of_getElem? e2)
  exact ⟨row, z, e, hl, e2, hz.1, hz.2, dstep_in e e2 hc⟩
theorem step_in (h : Mx nx ru n) (a : Int) (ha : a < (n : Int)) (c : Nat) : stepF nx a c < (n : Int) := by
  by_cases h0 : 0 ≤ a
  · by_cases hc : c < 16
    · obtain ⟨_, z, _, _, _, _, hz, e⟩ := mx_next h (i := a.toNat) (c := c) (by omega) hc
      rw [show ((a.toNat : Nat) : Int) = a by omega] at e
      rw [e]; exact hz
    · rw [step_far (by omega)]; omega
  · unfold stepF
    rw [if_neg (by omega)]; omega

/-- Marks of states that have an outcome. -/
def Sound (nx : List (List Int)) (ru : List Int) (n : Nat) (g : Nat → Bool) : Prop := ∀ i, i < n → g i = true → Live nx ru i
/-- .. of just these. -/
def IsLive (nx : List (List Int)) (ru : List Int) (n : Nat) (g : Nat → Bool) : Prop := ∀ i, i < n → (g i = true ↔ Live nx ru i)
/-- What a round has told of a state: by its rule, and by the first s - 1 categories. -/
def Cs (nx : List (List Int)) (ru : List Int) (g : Nat → Bool) (i s : Nat) : Prop := g i = false → (0 < s → ∀ r, ru[i]? = some r → r < 0) ∧ ∀ c, c + 1 < s → ∀ t : Nat, stepF nx i c = (t : Int) → g t = false
theorem cs_zero (nx : List (List Int)) (ru : List Int) (g : Nat → Bool) (i : Nat) : Cs nx ru g i 0 := fun _ => ⟨fun h => by omega, fun c h => by omega⟩
theorem cs_rule {g : Nat → Bool} {i : Nat} (h : ∀ r, ru[i]? = some r → r < 0) : Cs nx ru g i 1 := fun _ => ⟨fun _ => h, fun c h => by omega⟩
theorem cs_next {g : Nat → Bool} {i c : Nat} (h : Cs nx ru g i (c + 1)) (k : ∀ t : Nat, stepF nx i c = (t : Int) → g t = false) : Cs nx ru g i (c + 2) := fun q => ⟨fun _ => (h q).1 (by omega), fun c' hc' => by
  by_cases e : c' = c
  · subst e; exact k
  · exact (h q).2 c' (by omega)⟩
theorem cls_full (h : Mx nx ru n) {g : Nat → Bool} (hc : ∀ i, i < n → Cs nx ru g i 17) (hs : Sound nx ru n g) : IsLive nx ru n g := by
  have key : ∀ (word : List Nat) (i : Nat), i < n → 0 ≤ outc nx ru i word → g i = true := by
    intro word
    induction word with
    | nil =>
      intro i hi ho
      obtain ⟨r, e, _, _, er⟩ := mx_rule h hi
      rw [er] at ho
      by_cases q : g i = true
      · exact q
      · have := (hc i hi (by simpa using q)).1 (by omega) r e
        omega
    | cons c r ih =>
      intro i hi ho
      have ho' : 0 ≤ outc nx ru (stepF nx i c) r := ho
      by_cases q : g i = true
      · exact q
      · have q' : g i = false := by simpa using q
        by_cases hneg : stepF nx i c < 0
        · rw [out_dead r _ hneg] at ho'; omega
        · obtain ⟨t, ht⟩ : ∃ t : Nat, stepF nx i c = (t : Int) := ⟨(stepF nx i c).toNat, by omega⟩
          have hc16 : c < 16 := by
            rcases Nat.lt_or_ge c 16 with q | q
            · exact q
            · rw [step_far q] at hneg; omega
          have htn : t < n := by have := step_in h i (by omega) c; omega
          rw [ht] at ho'
          have h1 := ih t htn ho'
          rw [(hc i hi q').2 c (by omega) t ht] at h1
          cases h1
  exact fun i hi => ⟨hs i hi, fun ⟨w, q⟩ => key w i hi q⟩
theorem full_more {g g' : Nat → Bool} (h : IsLive nx ru n g) (hs : Sound nx ru n g') (hm : ∀ i, i < n → g i = true → g' i = true) : IsLive nx ru n g' := fun i hi => ⟨hs i hi, fun q => hm i hi ((h i hi).2 q)⟩
/-- A round on its way: something was added, or what is gone through is told. -/
structure Ps (nx : List (List Int)) (ru : List Int) (n : Nat) (g0 g : Nat → Bool) (i s : Nat) : Prop where
  sound : Sound nx ru n g
  more : ∀ j, j < n → g0 j = true → g j = true
  told : cntF g n < cntF g0 n ∨ ((∀ j, j < n → g j = g0 j) ∧ (∀ j, j < i → Cs nx ru g j 17) ∧ Cs nx ru g i s)
theorem ps_start {g : Nat → Bool} (h : Sound nx ru n g) : Ps nx ru n g g 0 0 := ⟨h, fun _ _ q => q, .inr ⟨fun _ _ => rfl, fun j hj => by omega, cs_zero _ _ _ _⟩⟩
theorem cs_congr {g g' : Nat → Bool} {i s : Nat} (h16 : ∀ c, c + 1 < s → ∀ t : Nat, stepF nx i c = (t : Int) → t < n) (hi : i < n) (e : ∀ j, j < n → g j = g' j) (h : Cs nx ru g i s) : Cs nx ru g' i s := fun q => by
  obtain ⟨h1, h2⟩ := h (by rw [e i hi]; exact q)
  exact ⟨h1, fun c hc t ht => by rw [← e t (h16 c hc t ht)]; exact h2 c hc t ht⟩
theorem step_lt (h : Mx nx ru n) {i : Nat} (hi : i < n) {c t : Nat} (ht : stepF nx i c = (t : Int)) : t < n := by
  have := step_in h i (by omega) c
  omega
theorem ps_set (h : Mx nx ru n) {g0 g : Nat → Bool} {i s : Nat} (hp : Ps nx ru n g0 g i s) (hi : i < n) (v : Bool) (hv : g i = true → v = true) (hl : v = true → Live nx ru i) (hn : Cs nx ru g i s → v = false → Cs nx ru g i (s + 1)) : Ps nx ru n g0 (fun j => if j = i then v else g j) i (s + 1) := by
  have hsame : v = g i → ∀ j, j < n → g j = (fun j => if j = i then v else g j) j := fun e j _ => by
    by_cases q : j = i
    · subst q; simp [e]
    · simp [q]
  refine ⟨fun j hj q => ?_, fun j hj q => ?_, ?_⟩
  · by_cases e : j = i
    · subst e; rw [if_pos rfl] at q; exact hl q
    · rw [if_neg e] at q; exact hp.sound j hj q
  · by_cases e : j = i
    · subst e; rw [if_pos rfl]; exact hv (hp.more j hj q)
    · rw [if_neg e]; exact hp.more j hj q
  · by_cases e : v = g i
    · have hs := hsame e
      rcases hp.told with q | ⟨q1, q2, q3⟩
      · exact .inl (by rw [← cntF_congr n hs]; exact q)
      · refine .inr ⟨fun j hj => (hs j hj).symm.trans (q1 j hj), fun j hj => cs_congr (fun c _ t ht => step_lt h (by omega) ht) (by omega) hs (q2 j hj), ?_⟩
        refine cs_congr (fun c _ t ht => step_lt h hi ht) hi hs ?_
        cases hvv : v
        · exact hn q3 hvv
        · intro q
          rw [← e, hvv] at q
          cases q
    · have hgi : g i = false := by
        cases q : g i
        · rfl
        · rw [hv q, q] at e; exact absurd rfl e
      have hvt : v = true := by
        cases q : v
        · rw [q, hgi] at e; exact absurd rfl e
        · rfl
      have hlt : cntF (fun j => if j = i then v else g j) n < cntF g n := cntF_lt n (fun j hj q => by
        by_cases e' : j = i
        · subst e'; simp [hvt]
        · simp [e', q]) i hi hgi (by simp [hvt])
      rcases hp.told with q | ⟨q1, _, _⟩
      · exact .inl (by omega)
      · have := cntF_congr n q1
        exact .inl (by omega)
theorem ps_state {g0 g : Nat → Bool} {i : Nat} (hp : Ps nx ru n g0 g i 17) : Ps nx ru n g0 g (i + 1) 0 :=
  ⟨hp.sound, hp.more, by
    rcases hp.told with q | ⟨q1, q2, q3⟩
    · exact .inl q
    · exact .inr ⟨q1, fun j hj => by
        by_cases e : j = i
        · subst e; exact q3
        · exact q2 j (by omega), cs_zero _ _ _ _⟩⟩
/-- Behind some rounds. -/
def Rd (nx : List (List Int)) (ru : List Int) (n : Nat) (g : Nat → Bool) (r : Nat) : Prop := Sound nx ru n g ∧ (IsLive nx ru n g ∨ cntF g n + r ≤ n)
theorem cntF_le (g : Nat → Bool) : ∀ k, cntF g k ≤ k
  | 0 => by simp [cntF]
  | k + 1 => by
    have := cntF_le g k
    unfold cntF
    split <;> omega
theorem rd_zero : Rd nx ru n (fun _ => false) 0 := ⟨fun i _ q => by simp at q, .inr (cntF_le _ _)⟩
theorem rd_next (h : Mx nx ru n) {g0 g : Nat → Bool} {r : Nat} (hr : Rd nx ru n g0 r) (hp : Ps nx ru n g0 g n 0) : Rd nx ru n g (r + 1) := by
  refine ⟨hp.sound, ?_⟩
  rcases hr.2 with q | q
  · exact .inl (full_more q hp.sound hp.more)
  · rcases hp.told with t | ⟨_, t, _⟩
    · exact .inr (by omega)
    · exact .inl (cls_full h t hp.sound)
theorem rd_end {g : Nat → Bool} (hr : Rd nx ru n g (n + 1)) : IsLive nx ru n g := by
  rcases hr.2 with q | q
  · exact q
  · have := cntF_le g n
    omega
theorem isLive_one {g g' : Nat → Bool} (h : IsLive nx ru n g) (h' : IsLive nx ru n g') (j : Nat) (hj : j < n) : g j = g' j := by
  rw [Bool.eq_iff_iff, h j hj, h' j hj]
end
end Go.Proofs.Ythkollnlmnbidaa.A
