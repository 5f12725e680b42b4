/- The smallest machine matches what the machine matches; machines with the same outcomes have one smallest machine: plain mathematics. -/
import Derived.Test.YthkollnlmnbidaaBh
namespace Go.Proofs.Ythkollnlmnbidaa.A
open Go.RowKit
set_option linter.unusedVariables false

/-- The same outcomes, in two machines. -/
def Eqo (nx : List (List Int)) (ru : List Int) (nx' : List (List Int)) (ru' : List Int) (a b : Int) : Prop := ∀ w, outc nx ru a w = outc nx' ru' b w
section
variable {nx nx' : List (List Int)} {ru ru' : List Int}
theorem eqo_step {a b : Int} (h : Eqo nx ru nx' ru' a b) (c : Int) : Eqo nx ru nx' ru' (stepF nx a c) (stepF nx' b c) := fun w => by
  by_cases hc : 0 ≤ c ∧ c < 16
  · obtain ⟨j, rfl⟩ : ∃ j : Nat, c = j := ⟨c.toNat, by omega⟩
    exact h (j :: w)
  · rw [step_out hc, step_out hc, out_dead w (-1) (by omega), out_dead w (-1) (by omega)]
theorem eqo_run (h : Eqo nx ru nx' ru' 0 0) (word : List Int) : ∀ k, Eqo nx ru nx' ru' (runF nx word k) (runF nx' word k)
  | 0 => h
  | k + 1 => eqo_step (eqo_run h word k) _
/-- The rule at a state, -1 nowhere. -/
theorem out_at {n : Nat} (hx : Mx nx ru n) {a : Int} (ha : a < (n : Int)) : outc nx ru a [] = if 0 ≤ a then ru.getD a.toNat 0 else -1 := by
  by_cases h0 : 0 ≤ a
  · obtain ⟨r, e, _, _, o⟩ := mx_rule hx (i := a.toNat) (by omega)
    rw [show ((a.toNat : Nat) : Int) = a by omega] at o
    rw [o, if_pos h0, List.getD_eq_getElem?_getD, e]; rfl
  · rw [out_dead [] a (by omega), if_neg h0]
theorem run_lt {n : Nat} (hx : Mx nx ru n) (word : List Int) : ∀ k, runF nx word k < (n : Int)
  | 0 => by have := hx.pos; unfold runF; omega
  | k + 1 => by
    show stepF nx (runF nx word k) (word.getD k 0) < (n : Int)
    by_cases hc : 0 ≤ word.getD k 0 ∧ word.getD k 0 < 16
    · have := step_in hx _ (run_lt hx word k) (word.getD k 0).toNat
      rw [show (((word.getD k 0).toNat : Nat) : Int) = word.getD k 0 by omega] at this
      exact this
    · rw [step_out hc]; omega
theorem eqo_at {n n' : Nat} (hx : Mx nx ru n) (hx' : Mx nx' ru' n') (h : Eqo nx ru nx' ru' 0 0) (word : List Int) (k : Nat) : (if 0 ≤ runF nx word k then ru.getD (runF nx word k).toNat 0 else -1) = (if 0 ≤ runF nx' word k then ru'.getD (runF nx' word k).toNat 0 else -1) := by
  rw [← out_at hx (run_lt hx word k), ← out_at hx' (run_lt hx' word k)]
  exact eqo_run h word k []
theorem eqo_lg {n n' : Nat} (hx : Mx nx ru n) (hx' : Mx nx' ru' n') (h : Eqo nx ru nx' ru' 0 0) (word : List Int) (f : Int) : ∀ k, lgF nx ru word f k = lgF nx' ru' word f k
  | 0 => rfl
  | k + 1 => by
    have ih := eqo_lg hx hx' h word f k
    have e := eqo_at hx hx' h word (k + 1)
    unfold lgF
    rw [ih]
    by_cases h1 : 0 ≤ runF nx word (k + 1)
    · rw [if_pos h1] at e
      by_cases h2 : 0 ≤ runF nx' word (k + 1)
      · rw [if_pos h2] at e
        rw [e]
        simp [h1, h2]
      · rw [if_neg h2] at e
        rw [e, if_neg (by simp), if_neg (by simp [h2])]
    · rw [if_neg h1] at e
      rw [if_neg (by simp [h1])]
      by_cases h2 : 0 ≤ runF nx' word (k + 1)
      · rw [if_pos h2] at e
        rw [if_neg (by rw [← e]; simp)]
      · rw [if_neg (by simp [h2])]
theorem eqo_mat {n n' : Nat} (hx : Mx nx ru n) (hx' : Mx nx' ru' n') (hr : rightD nx ru = true) (hr' : rightD nx' ru' = true) (h : Eqo nx ru nx' ru' 0 0) (word : List Int) : matR nx ru word = matR nx' ru' word := by
  unfold matR runR
  rw [if_pos hr, if_pos hr']
  exact eqo_at hx hx' h word word.length
theorem eqo_long {n n' : Nat} (hx : Mx nx ru n) (hx' : Mx nx' ru' n') (hr : rightD nx ru = true) (hr' : rightD nx' ru' = true) (h : Eqo nx ru nx' ru' 0 0) (word : List Int) (f : Int) : longR nx ru word f = longR nx' ru' word f := by
  unfold longR
  rw [hr, hr', eqo_lg hx hx' h]
end

/-- What Small tells of: a machine and its classes. -/
structure Cl (nx : List (List Int)) (ru : List Int) (n : Nat) (A : Nat → Nat → Bool) (g : Nat → Bool) : Prop where
  mx : Mx nx ru n
  al : IsAlk nx ru n A
  lv : IsLive nx ru n g
def smF (nx : List (List Int)) (ru : List Int) (n : Nat) (A : Nat → Nat → Bool) (g : Nat → Bool) (k : Nat) : List (List Int) × List (List Int) × List Int := stF (trM nx A g n) (lsM ru) (clsM A n 0) k
section
variable {nx : List (List Int)} {ru : List Int} {n : Nat} {g : Nat → Bool} {A : Nat → Nat → Bool}
theorem sm_len (h : Cl nx ru n A g) (k : Nat) : (smF nx ru n A g k).1.length ≤ n := stM_len h.mx h.al h.lv k
theorem tb_of2 {tr : List Int → Nat → List Int} {ls : List Int → Int} {start : List Int} : ∀ m, m = 201 → (stF tr ls start m).1.length ≤ 200 → Tb tr ls start (stF tr ls start m).1 (stF tr ls start m).2.1 (stF tr ls start m).2.2 := by
  intro m hm
  subst hm
  exact tb_of
theorem sm_tb' (h : Cl nx ru n A g) : ∀ m, m = 201 → Tb (trM nx A g n) (lsM ru) (clsM A n 0) (smF nx ru n A g m).1 (smF nx ru n A g m).2.1 (smF nx ru n A g m).2.2 :=
  fun m hm => tb_of2 m hm (Nat.le_trans (sm_len h m) h.mx.most)
theorem ls_rng (h : Mx nx ru n) (L : List Int) : -1 ≤ lsM ru L ∧ lsM ru L ≤ 15 := by
  unfold lsM
  rw [List.getD_eq_getElem?_getD]
  cases e : ru[(L.headD 0).toNat]? with
  | none => simp
  | some r => exact h.rule _ r e
theorem sm_right (h : Cl nx ru n A g) (m : Nat) (hm : m = 201) : rightD (smF nx ru n A g m).2.1 (smF nx ru n A g m).2.2 = true := tb_right (sm_tb' h m hm) (ls_rng h.mx)
theorem tb_16 {tr : List Int → Nat → List Int} {ls : List Int → Int} {start : List Int} {S nx : List (List Int)} {ru : List Int} (h : Tb tr ls start S nx ru) : ∀ x ∈ nx, x.length = 16 := fun x hx => by
  obtain ⟨i, hi, e⟩ := List.getElem_of_mem hx
  obtain ⟨row, h1, h2, _⟩ := h.at_ i (S[i]'(by rw [← h.ln]; exact hi)) (List.getElem?_eq_getElem _)
  rw [List.getElem?_eq_getElem hi, e] at h1
  rw [Option.some.inj h1]; exact h2
theorem sm_mx (h : Cl nx ru n A g) (m : Nat) (hm : m = 201) : Mx (smF nx ru n A g m).2.1 (smF nx ru n A g m).2.2 (smF nx ru n A g m).2.1.length := mx_of (sm_right h m hm) (tb_16 (sm_tb' h m hm))
/-- The smallest machine has the machine's outcomes. -/
theorem sm_out (h : Cl nx ru n A g) {S nx' : List (List Int)} {ru' : List Int} (T : Tb (trM nx A g n) (lsM ru) (clsM A n 0) S nx' ru') : ∀ (word : List Nat) (j s : Nat), s < n → S[j]? = some (clsM A n s) → outc nx' ru' (j : Int) word = outc nx ru (s : Int) word
  | [], j, s, hs, hj => by
    obtain ⟨row, h1, h2, h3, h4⟩ := T.at_ j _ hj
    obtain ⟨r, e, _, _, o⟩ := mx_rule h.mx hs
    rw [o]
    rw [lsM_cls h.mx h.al hs e] at h3
    unfold outc
    rw [if_pos (by omega), show ((j : Nat) : Int).toNat = j by omega, List.getD_eq_getElem?_getD, h3]; rfl
  | c :: w, j, s, hs, hj => by
    obtain ⟨row, h1, h2, h3, h4⟩ := T.at_ j _ hj
    show outc nx' ru' (stepF nx' (j : Int) c) w = outc nx ru (stepF nx (s : Int) c) w
    rcases Nat.lt_or_ge c 16 with hc | hc
    · have htr := trM_cls h.mx h.al h.lv hs c
      have hz := step_in h.mx (s : Int) (by omega) c
      rcases h4 c hc with ⟨q0, q1⟩ | ⟨q0, i, q1, q2⟩
      · rw [dstep_in h1 q1 hc, out_dead w (-1) (by omega)]
        rw [htr] at q0
        by_cases hneg : stepF nx (s : Int) c < 0
        · rw [out_dead w _ hneg]
        · have hd : ¬ Live nx ru (stepF nx (s : Int) c) := fun l => by
            have h5 := (h.lv (stepF nx (s : Int) c).toNat (by omega)).2 (by rw [show (((stepF nx (s : Int) c).toNat : Nat) : Int) = stepF nx (s : Int) c by omega]; exact l)
            have h6 := clsD_live h.al (show (stepF nx (s : Int) c).toNat < n by omega) h5
            rw [show (((stepF nx (s : Int) c).toNat : Nat) : Int) = stepF nx (s : Int) c by omega, q0] at h6
            have h7 := cls_self h.al (show (stepF nx (s : Int) c).toNat < n by omega)
            rw [← h6] at h7
            cases h7
          have h8 := out_rng h.mx w _ hz
          have h9 : ¬ 0 ≤ outc nx ru (stepF nx (s : Int) c) w := fun q => hd ⟨w, q⟩
          omega
      · rw [dstep_in h1 q1 hc]
        rw [htr] at q0 q2
        obtain ⟨z, hz0⟩ : ∃ z : Nat, stepF nx (s : Int) c = (z : Int) := ⟨(stepF nx (s : Int) c).toNat, by
          by_cases hneg : stepF nx (s : Int) c < 0
          · exact absurd (clsD_nil (.inl hneg)) q0
          · omega⟩
        have hgz : g z = true := by
          cases k : g z
          · exact absurd (clsD_nil (.inr (by rw [hz0, show ((z : Nat) : Int).toNat = z by omega]; exact k))) q0
          · rfl
        rw [hz0] at q2 hz ⊢
        rw [clsD_live h.al (by omega) hgz] at q2
        exact sm_out h T w i z (by omega) q2
    · rw [step_far hc, step_far hc, out_dead w (-1) (by omega), out_dead w (-1) (by omega)]
theorem sm_eqo (h : Cl nx ru n A g) (m : Nat) (hm : m = 201) : Eqo nx ru (smF nx ru n A g m).2.1 (smF nx ru n A g m).2.2 0 0 := fun w => (sm_out h (sm_tb' h m hm) w 0 0 h.mx.pos (sm_tb' h m hm).zero).symm
end

section
variable {nx nx' : List (List Int)} {ru ru' : List Int} {n n' : Nat} {g g' : Nat → Bool} {A A' : Nat → Nat → Bool}
/-- Two sets, of two machines, that go together: none, or classes with the same outcomes. -/
def Tw (nx : List (List Int)) (ru : List Int) (n : Nat) (A : Nat → Nat → Bool) (nx' : List (List Int)) (ru' : List Int) (n' : Nat) (A' : Nat → Nat → Bool) (x y : List Int) : Prop := ∃ s t, s < n ∧ t < n' ∧ x = clsM A n s ∧ y = clsM A' n' t ∧ Eqo nx ru nx' ru' s t
def Pr (nx : List (List Int)) (ru : List Int) (n : Nat) (A : Nat → Nat → Bool) (nx' : List (List Int)) (ru' : List Int) (n' : Nat) (A' : Nat → Nat → Bool) (S S' : List (List Int)) : Prop := S.length = S'.length ∧ ∀ (i : Nat) (x y : List Int), S[i]? = some x → S'[i]? = some y → Tw nx ru n A nx' ru' n' A' x y
theorem tw_same (h : Cl nx ru n A g) (h' : Cl nx' ru' n' A' g') {x y x2 y2 : List Int} (a : Tw nx ru n A nx' ru' n' A' x y) (b : Tw nx ru n A nx' ru' n' A' x2 y2) : x = x2 ↔ y = y2 := by
  obtain ⟨s, t, hs, ht, rfl, rfl, q⟩ := a
  obtain ⟨s2, t2, hs2, ht2, rfl, rfl, q2⟩ := b
  rw [cls_iff h.al hs hs2, cls_iff h'.al ht ht2, h.al s s2 hs hs2, h'.al t t2 ht ht2]
  exact ⟨fun k w => (q w).symm.trans ((k w).trans (q2 w)), fun k w => (q w).trans ((k w).trans (q2 w).symm)⟩
theorem pr_find (h : Cl nx ru n A g) (h' : Cl nx' ru' n' A' g') {S S' : List (List Int)} (hp : Pr nx ru n A nx' ru' n' A' S S') {x y : List Int} (hxy : (x = [] ∧ y = []) ∨ (x ≠ [] ∧ y ≠ [] ∧ Tw nx ru n A nx' ru' n' A' x y)) : Pr nx ru n A nx' ru' n' A' (findF S x).1 (findF S' y).1 ∧ (findF S x).2 = (findF S' y).2 := by
  rcases hxy with ⟨rfl, rfl⟩ | ⟨hx, hy, ht⟩
  · rw [find_none S rfl, find_none S' rfl]
    exact ⟨hp, rfl⟩
  · have hi : ∀ i, S[i]? = some x ↔ S'[i]? = some y := fun i => by
      constructor
      · intro e
        have hl : i < S'.length := by rw [← hp.1]; exact (List.getElem?_eq_some_iff.1 e).1
        obtain ⟨y2, e2⟩ : ∃ y2, S'[i]? = some y2 := ⟨_, List.getElem?_eq_getElem hl⟩
        rw [e2, (tw_same h h' ht (hp.2 i x y2 e e2)).1 rfl]
      · intro e
        have hl : i < S.length := by rw [hp.1]; exact (List.getElem?_eq_some_iff.1 e).1
        obtain ⟨x2, e2⟩ : ∃ x2, S[i]? = some x2 := ⟨_, List.getElem?_eq_getElem hl⟩
        rw [e2, (tw_same h h' ht (hp.2 i x2 y e2 e)).2 rfl]
    by_cases hm : x ∈ S
    · -- the first place where it stands
      have hm' : y ∈ S' := by
        obtain ⟨i, hi2, e⟩ := List.getElem_of_mem hm
        exact List.mem_of_getElem? ((hi i).1 (by rw [List.getElem?_eq_getElem hi2, e]))
      have s1 : Seen S x S.length ((S.idxOf x : Nat) : Int) := by
        have hl : S.idxOf x < S.length := List.idxOf_lt_length_iff.2 hm
        refine .inr ⟨_, rfl, hl, by rw [List.getElem?_eq_getElem hl, List.getElem_idxOf hl], fun j hj e => ?_⟩
        have h2 := List.not_of_lt_findIdx (p := (· == x)) (xs := S) (i := j) (by simpa [List.idxOf] using hj)
        have hjl := (List.getElem?_eq_some_iff.1 e).1
        rw [List.getElem?_eq_getElem hjl] at e
        simp [Option.some.inj e] at h2
      have s2 : Seen S' y S'.length ((S.idxOf x : Nat) : Int) := by
        rcases s1 with ⟨e, _⟩ | ⟨i, e, hil, hix, hno⟩
        · omega
        · exact .inr ⟨i, e, by rw [← hp.1]; exact hil, (hi i).1 hix, fun j hj k => hno j hj ((hi j).2 k)⟩
      rw [seen_found hx (by omega) s1, seen_found hy (by omega) s2]
      exact ⟨hp, rfl⟩
    · have hm' : ¬ y ∈ S' := fun hm' => by
        obtain ⟨i, hi2, e⟩ := List.getElem_of_mem hm'
        exact hm (List.mem_of_getElem? ((hi i).2 (by rw [List.getElem?_eq_getElem hi2, e])))
      have e1 : findF S x = (S ++ [x], ((S.length : Nat) : Int)) := by unfold findF; rw [if_neg hx, if_neg hm]
      have e2 : findF S' y = (S' ++ [y], ((S'.length : Nat) : Int)) := by unfold findF; rw [if_neg hy, if_neg hm']
      rw [e1, e2]
      refine ⟨⟨by simp [hp.1], fun i a b ha hb => ?_⟩, by rw [hp.1]⟩
      by_cases c : i < S.length
      · rw [List.getElem?_append_left c] at ha
        rw [List.getElem?_append_left (by rw [← hp.1]; exact c)] at hb
        exact hp.2 i a b ha hb
      · rw [List.getElem?_append_right (by omega)] at ha
        rw [List.getElem?_append_right (by rw [← hp.1]; omega)] at hb
        have e3 : i - S.length = 0 := by have := (List.getElem?_eq_some_iff.1 ha).1; simp at this; omega
        rw [e3] at ha
        rw [← hp.1, e3] at hb
        have ha' : x = a := by simpa using ha
        have hb' : y = b := by simpa using hb
        rw [← ha', ← hb']; exact ht
theorem tw_next (h : Cl nx ru n A g) (h' : Cl nx' ru' n' A' g') {x y : List Int} (ht : Tw nx ru n A nx' ru' n' A' x y) (c : Nat) : (trM nx A g n x c = [] ∧ trM nx' A' g' n' y c = []) ∨ (trM nx A g n x c ≠ [] ∧ trM nx' A' g' n' y c ≠ [] ∧ Tw nx ru n A nx' ru' n' A' (trM nx A g n x c) (trM nx' A' g' n' y c)) := by
  obtain ⟨s, t, hs, htn, rfl, rfl, q⟩ := ht
  rw [trM_cls h.mx h.al h.lv hs c, trM_cls h'.mx h'.al h'.lv htn c]
  have qs : Eqo nx ru nx' ru' (stepF nx (s : Int) c) (stepF nx' (t : Int) c) := eqo_step q (c : Int)
  have hz := step_in h.mx (s : Int) (by omega) c
  have hz' := step_in h'.mx (t : Int) (by omega) c
  generalize stepF nx (s : Int) c = z at *
  generalize stepF nx' (t : Int) c = z' at *
  have lv : ∀ {nx : List (List Int)} {ru : List Int} {n : Nat} {A : Nat → Nat → Bool} {g : Nat → Bool} {z : Int}, Cl nx ru n A g → z < (n : Int) → (Live nx ru z ∧ ∃ k : Nat, z = k ∧ k < n ∧ clsD A g n z = clsM A n k ∧ clsM A n k ≠ []) ∨ (¬ Live nx ru z ∧ clsD A g n z = []) := fun {nx ru n A g z} h hz => by
    by_cases h0 : z < 0
    · exact .inr ⟨dead_neg h0, clsD_nil (.inl h0)⟩
    · obtain ⟨k, rfl⟩ : ∃ k : Nat, z = k := ⟨z.toNat, by omega⟩
      have hk : k < n := by omega
      cases e : g k
      · exact .inr ⟨(fun l => by rw [(h.lv k hk).2 l] at e; cases e), clsD_nil (.inr (by rw [show ((k : Nat) : Int).toNat = k by omega]; exact e))⟩
      · refine .inl ⟨(h.lv k hk).1 e, k, rfl, hk, clsD_live h.al hk e, fun q => ?_⟩
        have := cls_self h.al hk
        rw [q] at this; cases this
  have hll : Live nx ru z ↔ Live nx' ru' z' := ⟨fun ⟨w, k⟩ => ⟨w, by rw [← qs w]; exact k⟩, fun ⟨w, k⟩ => ⟨w, by rw [qs w]; exact k⟩⟩
  rcases lv h hz with ⟨l, k, rfl, hk, e, ne⟩ | ⟨l, e⟩
  · rcases lv h' hz' with ⟨l', k', rfl, hk', e', ne'⟩ | ⟨l', e'⟩
    · exact .inr ⟨by rw [e]; exact ne, by rw [e']; exact ne', k, k', hk, hk', e, e', qs⟩
    · exact absurd (hll.1 l) l'
  · rcases lv h' hz' with ⟨l', k', rfl, hk', e', ne'⟩ | ⟨l', e'⟩
    · exact absurd (hll.2 l') l
    · exact .inl ⟨e, e'⟩
theorem pr_row (h : Cl nx ru n A g) (h' : Cl nx' ru' n' A' g') {S S' : List (List Int)} (hp : Pr nx ru n A nx' ru' n' A' S S') {x y : List Int} (ht : Tw nx ru n A nx' ru' n' A' x y) : ∀ k, Pr nx ru n A nx' ru' n' A' (rowF (trM nx A g n) x S k).1 (rowF (trM nx' A' g' n') y S' k).1 ∧ (rowF (trM nx A g n) x S k).2 = (rowF (trM nx' A' g' n') y S' k).2
  | 0 => ⟨hp, rfl⟩
  | k + 1 => by
    obtain ⟨h1, h2⟩ := pr_row h h' hp ht k
    obtain ⟨h3, h4⟩ := pr_find h h' h1 (tw_next h h' ht k)
    refine ⟨h3, ?_⟩
    show (rowF (trM nx A g n) x S k).2 ++ [_] = (rowF (trM nx' A' g' n') y S' k).2 ++ [_]
    rw [h2, h4]
theorem pr_st (h : Cl nx ru n A g) (h' : Cl nx' ru' n' A' g') (q : Eqo nx ru nx' ru' 0 0) : ∀ k, Pr nx ru n A nx' ru' n' A' (smF nx ru n A g k).1 (smF nx' ru' n' A' g' k).1 ∧ (smF nx ru n A g k).2 = (smF nx' ru' n' A' g' k).2
  | 0 => by
    refine ⟨⟨rfl, fun i x y hx hy => ?_⟩, rfl⟩
    cases i with
    | zero =>
      have e1 : clsM A n 0 = x := by simpa [smF, stF] using hx
      have e2 : clsM A' n' 0 = y := by simpa [smF, stF] using hy
      exact ⟨0, 0, h.mx.pos, h'.mx.pos, e1.symm, e2.symm, q⟩
    | succ i => simp [smF, stF] at hx
  | k + 1 => by
    obtain ⟨h1, h2⟩ := pr_st h h' q k
    cases e : (smF nx ru n A g k).1[k]? with
    | none =>
      have e' : (smF nx' ru' n' A' g' k).1[k]? = none := by
        rw [List.getElem?_eq_none_iff] at e ⊢
        rw [← h1.1]; exact e
      have s1 : smF nx ru n A g (k + 1) = smF nx ru n A g k := st_none e
      have s2 : smF nx' ru' n' A' g' (k + 1) = smF nx' ru' n' A' g' k := st_none e'
      rw [s1, s2]
      exact ⟨h1, h2⟩
    | some x =>
      obtain ⟨y, e'⟩ : ∃ y, (smF nx' ru' n' A' g' k).1[k]? = some y := ⟨_, List.getElem?_eq_getElem (by rw [← h1.1]; exact (List.getElem?_eq_some_iff.1 e).1)⟩
      have ht := h1.2 k x y e e'
      obtain ⟨h3, h4⟩ := pr_row h h' h1 ht 16
      have s1 : smF nx ru n A g (k + 1) = _ := st_some (ls := lsM ru) e
      have s2 : smF nx' ru' n' A' g' (k + 1) = _ := st_some (ls := lsM ru') e'
      have hls : lsM ru x = lsM ru' y := by
        obtain ⟨s, t, hs, htn, rfl, rfl, qq⟩ := ht
        obtain ⟨r, er, _, _, o⟩ := mx_rule h.mx hs
        obtain ⟨r', er', _, _, o'⟩ := mx_rule h'.mx htn
        rw [lsM_cls h.mx h.al hs er, lsM_cls h'.mx h'.al htn er', ← o, ← o']
        exact qq []
      rw [s1, s2]
      refine ⟨h3, ?_⟩
      show (_ ++ [_], _ ++ [_]) = (_ ++ [_], _ ++ [_])
      have e1 : (stF (trM nx A g n) (lsM ru) (clsM A n 0) k).2 = (stF (trM nx' A' g' n') (lsM ru') (clsM A' n' 0) k).2 := h2
      rw [e1, hls]
      rw [show (rowF (trM nx A g n) x (stF (trM nx A g n) (lsM ru) (clsM A n 0) k).1 16).2 = (rowF (trM nx' A' g' n') y (stF (trM nx' A' g' n') (lsM ru') (clsM A' n' 0) k).1 16).2 from h4]
/-- Machines with the same outcomes have one smallest machine. -/
theorem sm_same (h : Cl nx ru n A g) (h' : Cl nx' ru' n' A' g') (q : Eqo nx ru nx' ru' 0 0) (k : Nat) : (smF nx ru n A g k).2 = (smF nx' ru' n' A' g' k).2 := (pr_st h h' q k).2
/-- .. and machines with one smallest machine have the same outcomes. -/
theorem sm_back (h : Cl nx ru n A g) (h' : Cl nx' ru' n' A' g') (m : Nat) (hm : m = 201) (e : (smF nx ru n A g m).2 = (smF nx' ru' n' A' g' m).2) : Eqo nx ru nx' ru' 0 0 := fun w => by
  rw [sm_eqo h m hm w, sm_eqo h' m hm w, e]
/-- The smallest machine is its own smallest one. -/
theorem sm_again (h : Cl nx ru n A g) (m : Nat) (hm : m = 201) {A2 : Nat → Nat → Bool} {g2 : Nat → Bool} {n2 : Nat} (h2 : Cl (smF nx ru n A g m).2.1 (smF nx ru n A g m).2.2 n2 A2 g2) : (smF (smF nx ru n A g m).2.1 (smF nx ru n A g m).2.2 n2 A2 g2 m).2 = (smF nx ru n A g m).2 := (sm_same h h2 (sm_eqo h m hm) m).symm
end
end Go.Proofs.Ythkollnlmnbidaa.A
