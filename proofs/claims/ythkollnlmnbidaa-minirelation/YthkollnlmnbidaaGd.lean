/- Classes of states, split till no more come of it: plain mathematics. -/
import Derived.Test.YthkollnlmnbidaaBh
namespace Go.Proofs.Ythkollnlmnbidaa.A
open Go.RowKit
set_option linter.unusedVariables false

/-- The class of a state, or of nowhere. -/
def cF (cl : Nat → Int) (z : Int) : Int := if z = -1 then -1 else cl z.toNat
theorem cF_at (cl : Nat → Int) (j : Nat) : cF cl (j : Int) = cl j := by unfold cF; rw [if_neg (by omega)]; rfl
theorem cF_no (cl : Nat → Int) : cF cl (-1) = -1 := by unfold cF; rw [if_pos rfl]
/-- What a state does. -/
def ddF (nx : List (List Int)) (ru : List Int) (cl : Nat → Int) (i : Nat) : List Int := ((List.range 16).map fun (c : Nat) => cF cl (stepF nx i c)) ++ [ru.getD i 0]
theorem dd_len (nx : List (List Int)) (ru : List Int) (cl : Nat → Int) (i : Nat) : (ddF nx ru cl i).length = 17 := by simp [ddF]
theorem dd_at (nx : List (List Int)) (ru : List Int) (cl : Nat → Int) (i c : Nat) (h : c < 16) : (ddF nx ru cl i)[c]? = some (cF cl (stepF nx i c)) := by
  unfold ddF
  rw [List.getElem?_append_left (by simp; exact h)]
  simp [h]
theorem dd_last (nx : List (List Int)) (ru : List Int) (cl : Nat → Int) (i : Nat) : (ddF nx ru cl i)[16]? = some (ru.getD i 0) := by simp [ddF]
theorem dd_iff (nx : List (List Int)) (ru : List Int) (cl : Nat → Int) (i k : Nat) : ddF nx ru cl i = ddF nx ru cl k ↔ (∀ c : Nat, c < 16 → cF cl (stepF nx i c) = cF cl (stepF nx k c)) ∧ ru.getD i 0 = ru.getD k 0 := by
  constructor
  · intro h
    refine ⟨fun c hc => ?_, ?_⟩
    · have h1 := dd_at nx ru cl i c hc
      rw [h, dd_at nx ru cl k c hc] at h1
      exact (Option.some.inj h1).symm
    · have h1 := dd_last nx ru cl i
      rw [h, dd_last nx ru cl k] at h1
      exact (Option.some.inj h1).symm
  · rintro ⟨h1, h2⟩
    unfold ddF
    rw [h2]
    congr 1
    refine List.map_congr_left fun c hc => h1 c (by simpa using hc)

/-- A split, as far as the states ahead of k go. -/
structure SpI (nx : List (List Int)) (ru : List Int) (cl : Nat → Int) (k : Nat) (D : List (List Int)) (F : Nat → Int) : Prop where
  dead : ∀ i, i < k → cl i = -1 → F i = -1
  live : ∀ i, i < k → cl i ≠ -1 → ∃ j : Nat, F i = j ∧ D[j]? = some (ddF nx ru cl i)
  nd : D.Nodup
  all : ∀ (j : Nat) (d : List Int), D[j]? = some d → ∃ i, i < k ∧ cl i ≠ -1 ∧ d = ddF nx ru cl i
section
variable {nx : List (List Int)} {ru : List Int} {cl F : Nat → Int} {k n : Nat} {D : List (List Int)}
theorem sp_start (cl F : Nat → Int) : SpI nx ru cl 0 [] F := ⟨fun i h => by omega, fun i h => by omega, List.nodup_nil, fun j d h => by simp at h⟩
theorem sp_dead (h : SpI nx ru cl k D F) (hc : cl k = -1) : SpI nx ru cl (k + 1) D (fun j => if j = k then -1 else F j) := by
  refine ⟨fun i hi hd => ?_, fun i hi hl => ?_, h.nd, fun j d hj => ?_⟩
  · by_cases e : i = k
    · simp [e]
    · simp only [e, if_false]; exact h.dead i (by omega) hd
  · by_cases e : i = k
    · subst e; exact absurd hc hl
    · simp only [e, if_false]; exact h.live i (by omega) hl
  · obtain ⟨i, h1, h2, h3⟩ := h.all j d hj
    exact ⟨i, by omega, h2, h3⟩
theorem sp_old (h : SpI nx ru cl k D F) (hc : cl k ≠ -1) (hm : ddF nx ru cl k ∈ D) : SpI nx ru cl (k + 1) D (fun j => if j = k then ((D.idxOf (ddF nx ru cl k) : Nat) : Int) else F j) := by
  refine ⟨fun i hi hd => ?_, fun i hi hl => ?_, h.nd, fun j d hj => ?_⟩
  · by_cases e : i = k
    · subst e; exact absurd hd hc
    · simp only [e, if_false]; exact h.dead i (by omega) hd
  · by_cases e : i = k
    · subst e
      refine ⟨D.idxOf (ddF nx ru cl i), by simp, ?_⟩
      have hlt := List.idxOf_lt_length_iff.2 hm
      rw [List.getElem?_eq_getElem hlt, List.getElem_idxOf]
    · simp only [e, if_false]; exact h.live i (by omega) hl
  · obtain ⟨i, h1, h2, h3⟩ := h.all j d hj
    exact ⟨i, by omega, h2, h3⟩
theorem sp_new (h : SpI nx ru cl k D F) (hc : cl k ≠ -1) (hm : ¬ ddF nx ru cl k ∈ D) : SpI nx ru cl (k + 1) (D ++ [ddF nx ru cl k]) (fun j => if j = k then ((D.length : Nat) : Int) else F j) := by
  refine ⟨fun i hi hd => ?_, fun i hi hl => ?_, ?_, fun j d hj => ?_⟩
  · by_cases e : i = k
    · subst e; exact absurd hd hc
    · simp only [e, if_false]; exact h.dead i (by omega) hd
  · by_cases e : i = k
    · subst e
      exact ⟨D.length, by simp, by simp⟩
    · simp only [e, if_false]
      obtain ⟨j, h1, h2⟩ := h.live i (by omega) hl
      exact ⟨j, h1, by rw [List.getElem?_append_left (List.getElem?_eq_some_iff.1 h2).1]; exact h2⟩
  · rw [List.nodup_append]
    refine ⟨h.nd, by simp, fun a ha b hb => ?_⟩
    rw [List.mem_singleton] at hb
    subst hb
    exact fun e => hm (e ▸ ha)
  · by_cases e : j < D.length
    · rw [List.getElem?_append_left e] at hj
      obtain ⟨i, h1, h2, h3⟩ := h.all j d hj
      exact ⟨i, by omega, h2, h3⟩
    · rw [List.getElem?_append_right (by omega)] at hj
      have e1 : j - D.length = 0 := by have := (List.getElem?_eq_some_iff.1 hj).1; simp at this; omega
      rw [e1] at hj
      have hj' : ddF nx ru cl k = d := by simpa using hj
      exact ⟨k, by omega, hc, hj'.symm⟩

theorem nd_one {D : List (List Int)} (h : D.Nodup) {j j' : Nat} {d : List Int} (h1 : D[j]? = some d) (h2 : D[j']? = some d) : j = j' := by
  have l1 := (List.getElem?_eq_some_iff.1 h1).1
  exact (List.getElem?_inj l1 h).1 (h1.trans h2.symm)

theorem dead_out (h : Mx nx ru n) {a : Int} (ha : a < (n : Int)) (hl : ¬ Live nx ru a) (w : List Nat) : outc nx ru a w = -1 := by
  have h1 := out_rng h w a ha
  by_cases c : 0 ≤ outc nx ru a w
  · exact absurd ⟨w, c⟩ hl
  · omega
theorem dead_alk (h : Mx nx ru n) {a b : Int} (ha : a < (n : Int)) (hb : b < (n : Int)) (hl : ¬ Live nx ru a) (hk : ¬ Live nx ru b) : Alk nx ru a b := fun w => by rw [dead_out h ha hl w, dead_out h hb hk w]
theorem step_lo (h : Mx nx ru n) {i : Nat} (hi : i < n) (c : Nat) : -1 ≤ stepF nx i c ∧ stepF nx i c < (n : Int) := by
  by_cases hc : c < 16
  · obtain ⟨_, z, _, _, _, h1, h2, e⟩ := mx_next h hi hc
    rw [e]; exact ⟨h1, h2⟩
  · rw [step_far (by omega)]; have := h.pos; omega

/-- Classes that are not too fine, and that tell nothing apart that what is done does not. -/
structure Iv (nx : List (List Int)) (ru : List Int) (n : Nat) (cl : Nat → Int) (cnt : Nat) : Prop where
  neg : ∀ i, i < n → (cl i = -1 ↔ ¬ Live nx ru i)
  rng : ∀ i, i < n → -1 ≤ cl i ∧ cl i ≤ 200
  sep : ∀ i k, i < n → k < n → Alk nx ru i k → cl i = cl k
  rf : ∀ i k, i < n → k < n → cl i ≠ -1 → cl k ≠ -1 → ddF nx ru cl i = ddF nx ru cl k → cl i = cl k
  num : cnt = 0 ∨ ((∀ j : Nat, j < cnt → ∃ i, i < n ∧ cl i = j) ∧ ∀ i, i < n → cl i < (cnt : Int))
/-- Each state's class: alike ones have one, dead ones -1. -/
structure IsCls (nx : List (List Int)) (ru : List Int) (n : Nat) (F : Nat → Int) : Prop where
  neg : ∀ i, i < n → (F i = -1 ↔ ¬ Live nx ru i)
  rng : ∀ i, i < n → -1 ≤ F i ∧ F i ≤ 200
  same : ∀ i k, i < n → k < n → (F i = F k ↔ Alk nx ru i k)

theorem cF_neg (hneg : ∀ i, i < n → (cl i = -1 ↔ ¬ Live nx ru i)) {a : Int} (h1 : -1 ≤ a) (h2 : a < (n : Int)) : cF cl a = -1 ↔ ¬ Live nx ru a := by
  by_cases e : a = -1
  · subst e
    rw [cF_no]
    exact ⟨fun _ => dead_neg (by omega), fun _ => rfl⟩
  · obtain ⟨j, rfl⟩ : ∃ j : Nat, a = j := ⟨a.toNat, by omega⟩
    rw [cF_at]
    exact hneg j (by omega)
theorem cF_alk (h : Iv nx ru n cl k) {a b : Int} (a1 : -1 ≤ a) (a2 : a < (n : Int)) (b1 : -1 ≤ b) (b2 : b < (n : Int)) (hab : Alk nx ru a b) : cF cl a = cF cl b := by
  by_cases hl : Live nx ru a
  · have hl2 := (alk_live hab).1 hl
    have na : a ≠ -1 := fun e => by subst e; exact dead_neg (by omega) hl
    have nb : b ≠ -1 := fun e => by subst e; exact dead_neg (by omega) hl2
    obtain ⟨i, rfl⟩ : ∃ j : Nat, a = j := ⟨a.toNat, by omega⟩
    obtain ⟨j, rfl⟩ : ∃ j : Nat, b = j := ⟨b.toNat, by omega⟩
    rw [cF_at, cF_at]
    exact h.sep i j (by omega) (by omega) hab
  · rw [(cF_neg h.neg a1 a2).2 hl, (cF_neg h.neg b1 b2).2 (fun q => hl ((alk_live hab).2 q))]
theorem ru_out (h : Mx nx ru n) {i : Nat} (hi : i < n) : ru.getD i 0 = outc nx ru i [] := by
  obtain ⟨r, hr, _, _, e⟩ := mx_rule h hi
  rw [e, List.getD_eq_getElem?_getD, hr]; rfl
theorem alk_dd (hx : Mx nx ru n) (h : Iv nx ru n cl k) {i j : Nat} (hi : i < n) (hj : j < n) (q : Alk nx ru i j) : ddF nx ru cl i = ddF nx ru cl j :=
  (dd_iff nx ru cl i j).2 ⟨fun c hc => cF_alk h (step_lo hx hi c).1 (step_lo hx hi c).2 (step_lo hx hj c).1 (step_lo hx hj c).2 (alk_step q c), by rw [ru_out hx hi, ru_out hx hj]; exact q []⟩

section
variable {m : Nat} (hx : Mx nx ru n) (h : Iv nx ru n cl m) (hs : SpI nx ru cl n D F)
include hs in
theorem sp_neg {i : Nat} (hi : i < n) : F i = -1 ↔ cl i = -1 := by
  constructor
  · intro e
    by_cases c : cl i = -1
    · exact c
    · obtain ⟨j, h1, _⟩ := hs.live i hi c
      omega
  · exact hs.dead i hi
include hs in
theorem sp_dd {i j : Nat} (hi : i < n) (hj : j < n) (ci : cl i ≠ -1) (cj : cl j ≠ -1) : F i = F j ↔ ddF nx ru cl i = ddF nx ru cl j := by
  obtain ⟨a, a1, a2⟩ := hs.live i hi ci
  obtain ⟨b, b1, b2⟩ := hs.live j hj cj
  constructor
  · intro e
    have : a = b := by omega
    subst this
    rw [a2] at b2
    exact Option.some.inj b2
  · intro e
    rw [e] at a2
    have := nd_one hs.nd a2 b2
    omega
include h hs in
theorem sp_fine {i j : Nat} (hi : i < n) (hj : j < n) (e : F i = F j) : cl i = cl j := by
  by_cases ci : cl i = -1
  · rw [ci, (sp_neg hs hj).1 (by rw [← e]; exact hs.dead i hi ci)]
  · have cj : cl j ≠ -1 := fun q => ci ((sp_neg hs hi).1 (e.trans (hs.dead j hj q)))
    exact h.rf i j hi hj ci cj ((sp_dd hs hi hj ci cj).1 e)
include h hs in
theorem cF_fine {a b : Int} (a1 : -1 ≤ a) (a2 : a < (n : Int)) (b1 : -1 ≤ b) (b2 : b < (n : Int)) (e : cF F a = cF F b) : cF cl a = cF cl b := by
  by_cases ea : a = -1
  · subst ea
    by_cases eb : b = -1
    · subst eb; rfl
    · obtain ⟨j, rfl⟩ : ∃ j : Nat, b = j := ⟨b.toNat, by omega⟩
      rw [cF_no, cF_at] at e
      rw [cF_no, cF_at, (sp_neg hs (by omega)).1 e.symm]
  · obtain ⟨i, rfl⟩ : ∃ j : Nat, a = j := ⟨a.toNat, by omega⟩
    by_cases eb : b = -1
    · subst eb
      rw [cF_no, cF_at] at e
      rw [cF_no, cF_at, (sp_neg hs (by omega)).1 e]
    · obtain ⟨j, rfl⟩ : ∃ j : Nat, b = j := ⟨b.toNat, by omega⟩
      rw [cF_at, cF_at] at e ⊢
      exact sp_fine h hs (by omega) (by omega) e
include hs in
theorem sp_len : D.length ≤ n := by
  have hc : ∀ j : Nat, j < D.length → ∃ i, i < n ∧ F i = (j : Int) := fun j hj => by
    obtain ⟨i, h1, h2, h3⟩ := hs.all j _ (List.getElem?_eq_getElem hj)
    obtain ⟨j', e1, e2⟩ := hs.live i h1 h2
    rw [← h3] at e2
    have := nd_one hs.nd e2 (List.getElem?_eq_getElem hj)
    exact ⟨i, h1, by omega⟩
  have hc' : ∀ j : Nat, ∃ i : Nat, j < D.length → i < n ∧ F i = (j : Int) := fun j => by
    by_cases hj : j < D.length
    · obtain ⟨i, q⟩ := hc j hj
      exact ⟨i, fun _ => q⟩
    · exact ⟨0, fun q => absurd q hj⟩
  obtain ⟨r, hr⟩ := Classical.axiomOfChoice hc'
  have := nodup_le n ((List.range D.length).map fun j => ((r j : Nat) : Int)) (by
    rw [List.nodup_iff_pairwise_ne, List.pairwise_map]
    refine List.Pairwise.imp_of_mem ?_ (List.nodup_iff_pairwise_ne.1 List.nodup_range)
    intro a b ha hb hne e
    have h1 := (hr a (by simpa using ha)).2
    have h2 := (hr b (by simpa using hb)).2
    have e' : r a = r b := by omega
    rw [e'] at h1
    omega) (fun x hx => by
    obtain ⟨j, hj, rfl⟩ := List.mem_map.1 hx
    have := (hr j (by simpa using hj)).1
    omega)
  simpa using this
/-- Of each class one of its states, and their new classes. -/
theorem sp_reps (h : Iv nx ru n cl m) (hs : SpI nx ru cl n D F) (hm : m ≠ 0) : ∃ r : Nat → Nat, (∀ j, j < m → r j < n ∧ cl (r j) = (j : Int)) ∧ ((List.range m).map fun j => F (r j)).Nodup ∧ ∀ x ∈ (List.range m).map (fun j => F (r j)), 0 ≤ x ∧ x < (D.length : Int) := by
  rcases h.num with h0 | ⟨h1, h2⟩
  · exact absurd h0 hm
  have hc' : ∀ j : Nat, ∃ i : Nat, j < m → i < n ∧ cl i = (j : Int) := fun j => by
    by_cases hj : j < m
    · obtain ⟨i, q⟩ := h1 j hj
      exact ⟨i, fun _ => q⟩
    · exact ⟨0, fun q => absurd q hj⟩
  obtain ⟨r, hr⟩ := Classical.axiomOfChoice hc'
  refine ⟨r, hr, ?_, fun x hx => ?_⟩
  · rw [List.nodup_iff_pairwise_ne, List.pairwise_map]
    refine List.Pairwise.imp_of_mem ?_ (List.nodup_iff_pairwise_ne.1 List.nodup_range)
    intro a b ha hb hne e
    have q1 := hr a (by simpa using ha)
    have q2 := hr b (by simpa using hb)
    have := sp_fine h hs q1.1 q2.1 e
    omega
  · obtain ⟨j, hj, rfl⟩ := List.mem_map.1 hx
    have q1 := hr j (by simpa using hj)
    obtain ⟨a, a1, a2⟩ := hs.live (r j) q1.1 (by omega)
    have := (List.getElem?_eq_some_iff.1 a2).1
    omega
include h hs in
theorem sp_more : m ≤ D.length := by
  by_cases hm : m = 0
  · omega
  · obtain ⟨r, _, h1, h2⟩ := sp_reps h hs hm
    simpa using nodup_le D.length _ h1 h2
include h hs in
/-- Where there are no more classes than there were, they are the same. -/
theorem sp_same (he : D.length = m) {i j : Nat} (hi : i < n) (hj : j < n) (e : cl i = cl j) : F i = F j := by
  by_cases ci : cl i = -1
  · rw [hs.dead i hi ci, hs.dead j hj (by rw [← e]; exact ci)]
  have cj : cl j ≠ -1 := by rw [← e]; exact ci
  by_cases hm : m = 0
  · obtain ⟨a, _, a2⟩ := hs.live i hi ci
    have := (List.getElem?_eq_some_iff.1 a2).1
    omega
  obtain ⟨r, hr, h1, h2⟩ := sp_reps h hs hm
  have key : ∀ i, i < n → cl i ≠ -1 → ∃ a, a < m ∧ F i = F (r a) ∧ cl i = (a : Int) := fun i hi ci => by
    have hmem : F i ∈ (List.range m).map (fun j => F (r j)) := by
      by_cases q : F i ∈ (List.range m).map (fun j => F (r j))
      · exact q
      · have := nodup_le D.length (F i :: (List.range m).map (fun j => F (r j))) (List.nodup_cons.2 ⟨q, h1⟩) (fun x hx => by
          rw [List.mem_cons] at hx
          rcases hx with rfl | hx
          · obtain ⟨a, a1, a2⟩ := hs.live i hi ci
            have := (List.getElem?_eq_some_iff.1 a2).1
            omega
          · exact h2 x hx)
        simp at this
        omega
    obtain ⟨a, ha, e⟩ := List.mem_map.1 hmem
    have ha' : a < m := by simpa using ha
    exact ⟨a, ha', e.symm, (sp_fine h hs hi (hr a ha').1 e.symm).trans (hr a ha').2⟩
  obtain ⟨a, _, a1, a2⟩ := key i hi ci
  obtain ⟨b, _, b1, b2⟩ := key j hj cj
  have : a = b := by omega
  rw [a1, b1, this]
include h hs in
theorem cF_same (he : D.length = m) {a b : Int} (a1 : -1 ≤ a) (a2 : a < (n : Int)) (b1 : -1 ≤ b) (b2 : b < (n : Int)) (e : cF cl a = cF cl b) : cF F a = cF F b := by
  by_cases ea : a = -1
  · subst ea
    by_cases eb : b = -1
    · subst eb; rfl
    · obtain ⟨j, rfl⟩ : ∃ j : Nat, b = j := ⟨b.toNat, by omega⟩
      rw [cF_no, cF_at] at e
      rw [cF_no, cF_at, hs.dead j (by omega) e.symm]
  · obtain ⟨i, rfl⟩ : ∃ j : Nat, a = j := ⟨a.toNat, by omega⟩
    by_cases eb : b = -1
    · subst eb
      rw [cF_no, cF_at] at e
      rw [cF_no, cF_at, hs.dead i (by omega) e]
    · obtain ⟨j, rfl⟩ : ∃ j : Nat, b = j := ⟨b.toNat, by omega⟩
      rw [cF_at, cF_at] at e ⊢
      exact sp_same h hs he (by omega) (by omega) e
include hx h hs in
theorem iv_next : Iv nx ru n F D.length := by
  have hneg : ∀ i, i < n → (F i = -1 ↔ ¬ Live nx ru i) := fun i hi => (sp_neg hs hi).trans (h.neg i hi)
  have hl := sp_len hs
  have hmost := hx.most
  refine ⟨hneg, fun i hi => ?_, fun i k hi hk q => ?_, fun i k hi hk ci ck e => ?_, .inr ⟨fun j hj => ?_, fun i hi => ?_⟩⟩
  · by_cases c : cl i = -1
    · rw [hs.dead i hi c]; omega
    · obtain ⟨a, a1, a2⟩ := hs.live i hi c
      have := (List.getElem?_eq_some_iff.1 a2).1
      omega
  · by_cases c : cl i = -1
    · have c2 : cl k = -1 := by rw [← h.sep i k hi hk q]; exact c
      rw [hs.dead i hi c, hs.dead k hk c2]
    · have c2 : cl k ≠ -1 := by rw [← h.sep i k hi hk q]; exact c
      exact (sp_dd hs hi hk c c2).2 (alk_dd hx h hi hk q)
  · have ci' : cl i ≠ -1 := fun q => ci (hs.dead i hi q)
    have ck' : cl k ≠ -1 := fun q => ck (hs.dead k hk q)
    obtain ⟨e1, e2⟩ := (dd_iff nx ru F i k).1 e
    exact (sp_dd hs hi hk ci' ck').2 ((dd_iff nx ru cl i k).2 ⟨fun c hc => cF_fine h hs (step_lo hx hi c).1 (step_lo hx hi c).2 (step_lo hx hk c).1 (step_lo hx hk c).2 (e1 c hc), e2⟩)
  · obtain ⟨i, h1, h2, h3⟩ := hs.all j _ (List.getElem?_eq_getElem hj)
    obtain ⟨j', e1, e2⟩ := hs.live i h1 h2
    rw [← h3] at e2
    have := nd_one hs.nd e2 (List.getElem?_eq_getElem hj)
    exact ⟨i, h1, by omega⟩
  · by_cases c : cl i = -1
    · rw [hs.dead i hi c]; omega
    · obtain ⟨a, a1, a2⟩ := hs.live i hi c
      have := (List.getElem?_eq_some_iff.1 a2).1
      omega
include hx h hs in
theorem iv_end (he : D.length = m) : IsCls nx ru n F := by
  have hv := iv_next hx h hs
  have key : ∀ (w : List Nat) (a b : Int), -1 ≤ a → a < (n : Int) → -1 ≤ b → b < (n : Int) → cF F a = cF F b → outc nx ru a w = outc nx ru b w := by
    intro w
    induction w with
    | nil =>
      intro a b a1 a2 b1 b2 e
      by_cases hl : Live nx ru a
      · have ha : cF F a ≠ -1 := fun q => (cF_neg hv.neg a1 a2).1 q hl
        have na : a ≠ -1 := fun q => by subst q; exact ha (cF_no F)
        have nb : b ≠ -1 := fun q => by subst q; exact ha (e.trans (cF_no F))
        obtain ⟨i, rfl⟩ : ∃ j : Nat, a = j := ⟨a.toNat, by omega⟩
        obtain ⟨j, rfl⟩ : ∃ j : Nat, b = j := ⟨b.toNat, by omega⟩
        rw [cF_at] at ha e
        rw [cF_at] at e
        have ci : cl i ≠ -1 := fun q => ha (hs.dead i (by omega) q)
        have cj : cl j ≠ -1 := fun q => ha (e.trans (hs.dead j (by omega) q))
        have := ((dd_iff nx ru cl i j).1 ((sp_dd hs (by omega) (by omega) ci cj).1 e)).2
        rw [ru_out hx (by omega), ru_out hx (by omega)] at this
        exact this
      · have hb : ¬ Live nx ru b := (cF_neg hv.neg b1 b2).1 (by rw [← e]; exact (cF_neg hv.neg a1 a2).2 hl)
        rw [dead_out hx a2 hl, dead_out hx b2 hb]
    | cons c r ih =>
      intro a b a1 a2 b1 b2 e
      by_cases hl : Live nx ru a
      · have ha : cF F a ≠ -1 := fun q => (cF_neg hv.neg a1 a2).1 q hl
        have na : a ≠ -1 := fun q => by subst q; exact ha (cF_no F)
        have nb : b ≠ -1 := fun q => by subst q; exact ha (e.trans (cF_no F))
        obtain ⟨i, rfl⟩ : ∃ j : Nat, a = j := ⟨a.toNat, by omega⟩
        obtain ⟨j, rfl⟩ : ∃ j : Nat, b = j := ⟨b.toNat, by omega⟩
        rw [cF_at] at ha e
        rw [cF_at] at e
        have ci : cl i ≠ -1 := fun q => ha (hs.dead i (by omega) q)
        have cj : cl j ≠ -1 := fun q => ha (e.trans (hs.dead j (by omega) q))
        have e1 := ((dd_iff nx ru cl i j).1 ((sp_dd hs (by omega) (by omega) ci cj).1 e)).1
        have li := step_lo hx (show i < n by omega) c
        have lj := step_lo hx (show j < n by omega) c
        show outc nx ru (stepF nx i c) r = outc nx ru (stepF nx j c) r
        refine ih _ _ li.1 li.2 lj.1 lj.2 ?_
        by_cases hc : c < 16
        · exact cF_same h hs he li.1 li.2 lj.1 lj.2 (e1 c hc)
        · rw [step_far (by omega), step_far (by omega)]
      · have hb : ¬ Live nx ru b := (cF_neg hv.neg b1 b2).1 (by rw [← e]; exact (cF_neg hv.neg a1 a2).2 hl)
        rw [dead_out hx a2 hl, dead_out hx b2 hb]
  refine ⟨hv.neg, hv.rng, fun i k hi hk => ⟨fun e w => ?_, hv.sep i k hi hk⟩⟩
  exact key w i k (by omega) (by omega) (by omega) (by omega) (by rw [cF_at, cF_at]; exact e)
end
theorem iv_start (hx : Mx nx ru n) {g : Nat → Bool} (hg : IsLive nx ru n g) : Iv nx ru n (fun i => if g i then 0 else -1) 0 := by
  have hneg : ∀ i, i < n → ((if g i then (0 : Int) else -1) = -1 ↔ ¬ Live nx ru i) := fun i hi => by
    rw [← hg i hi]
    cases g i <;> simp
  refine ⟨hneg, fun i hi => by cases g i <;> simp, fun i k hi hk q => ?_, fun i k hi hk ci ck _ => ?_, .inl rfl⟩
  · have h1 := (hg i hi).trans ((alk_live q).trans (hg k hk).symm)
    cases e1 : g i <;> cases e2 : g k <;> simp [e1, e2] at h1 ⊢
  · cases e1 : g i <;> cases e2 : g k <;> simp [e1, e2] at ci ck ⊢
theorem isCls_alk (h : IsCls nx ru n F) : IsAlk nx ru n (fun i k => decide (F i = F k)) := fun i k hi hk => by
  rw [decide_eq_true_iff]; exact h.same i k hi hk
theorem dd_rng (hx : Mx nx ru n) (h : ∀ i, i < n → -1 ≤ cl i ∧ cl i ≤ 200) {i : Nat} (hi : i < n) : ∀ v ∈ ddF nx ru cl i, -1 ≤ v ∧ v ≤ 10000 := fun v hv => by
  unfold ddF at hv
  rw [List.mem_append, List.mem_singleton, List.mem_map] at hv
  rcases hv with ⟨c, hc, rfl⟩ | rfl
  · have li := step_lo hx hi c
    unfold cF
    split
    · omega
    · have := h (stepF nx i c).toNat (by omega)
      omega
  · obtain ⟨r, hr, h1, h2, _⟩ := mx_rule hx hi
    rw [List.getD_eq_getElem?_getD, hr, Option.getD_some]; omega
end
end Go.Proofs.Ythkollnlmnbidaa.A
