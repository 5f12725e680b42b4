/- A way through the machine of an expression is a word of it: plain mathematics. -/
import Derived.WalkKit
import Derived.ProofKit
import Derived.Outline
import Derived.BigQuiet
import Derived.Deep.QuietTactic
import Derived.Below
import Derived.Deep.RegionHeld3
import Derived.OpenShut
import Derived.Deep.Slices
import Derived.Deep.Strs
import Derived.Deep.OwnRows
import Derived.Deep.WholeRow
import Derived.Deep.Heap
import Derived.Test.YtbbfjjjnifomgaaGreatDoorK1
import Derived.Test.YtbbfjjjnifomgaaGreatDoorK2
import Derived.Test.YtbbfjjjnifomgaaGreatDoorK3
import Derived.Test.YtbbfjjjnifomgaaGreatDoorK8
import Derived.Test.YtbbfjjjnifomgaaGreatDoorK6
import Derived.Deep.AppendSrc
import Derived.Laws.AppendOwnNone
namespace Go.Proofs.YtbbfjjjnifomgaaGreatDoor.A
set_option linter.unusedVariables false

/-- Within parts, one behind the other: where one may be that began at a place. -/
def AtC {n : Nat} (R : Ex n → Nat → Nat → Prop) (At : Ex n → Nat → Nat → Nat → Nat → Prop) : List (Nat × Ex n) → Nat → Nat → Nat → Prop
  | [], _, _, _ => False
  | p :: r, i0, q, i => At p.2 p.1 i0 q i ∨ ∃ j, R p.2 i0 j ∧ AtC R At r j q i
/-- Where one may be, that began at the expression's first state. -/
def AtE (word : List Int) : (n : Nat) → Ex n → Nat → Nat → Nat → Nat → Prop
  | 0, _, _, _, _, _ => False
  | n + 1, t, b, i0, q, i => i0 ≤ word.length ∧ ((q = b ∧ i = i0) ∨ (q = b + 2 * realN (n + 1) t - 1 ∧ Mt word (n + 1) t i0 i) ∨
      (kd t = 2 ∧ AtC (Mt word n) (AtE word n) (layE (b + 1) (ks t)) i0 q i) ∨ (kd t = 3 ∧ ∃ p ∈ layE (b + 1) (ks t), AtE word n p.2 p.1 i0 q i) ∨
      (kd t = 4 ∧ ∃ p ∈ (layE (b + 1) (ks t)).head?, ∃ m j, Tm (Mt word n p.2) m i0 j ∧ AtE word n p.2 p.1 j q i) ∨
      (kd t = 5 ∧ ∃ p ∈ (layE (b + 1) (ks t)).head?, AtE word n p.2 p.1 i0 q i))
theorem atc_in {n : Nat} {R : Ex n → Nat → Nat → Prop} {At : Ex n → Nat → Nat → Nat → Nat → Prop} : ∀ (l : List (Nat × Ex n)) (i0 q i : Nat), AtC R At l i0 q i → ∃ p ∈ l, ∃ j, At p.2 p.1 j q i
  | [], _, _, _, h => h.elim
  | p :: r, i0, q, i, h => by
    rcases h with h | ⟨j, _, h⟩
    · exact ⟨p, by simp, i0, h⟩
    · obtain ⟨p', hp, k, h⟩ := atc_in r j q i h
      exact ⟨p', by simp [hp], k, h⟩
theorem head_in {α : Type} {l : List α} {p : α} (h : p ∈ l.head?) : p ∈ l := by
  cases l with
  | nil => cases h
  | cons x r =>
    have e : x = p := by simpa using h
    subst e
    simp
theorem ate_rng (word : List Int) : ∀ (n : Nat) (t : Ex n) (b i0 q i : Nat), full n t → AtE word n t b i0 q i → b ≤ q ∧ q ≤ b + 2 * realN n t - 1
  | 0, _, _, _, _, _, h, _ => h.elim
  | n + 1, t, b, i0, q, i, hf, ⟨_, h⟩ => by
    have hr := real_pos hf
    have key : ∀ p ∈ layE (b + 1) (ks t), (∃ j, AtE word n p.2 p.1 j q i) → b ≤ q ∧ q ≤ b + 2 * realN (n + 1) t - 1 := fun p hp ⟨j, h⟩ => by
      obtain ⟨a1, a2, a3, a4, _, _⟩ := lay_in hf hp
      have := ate_rng word n p.2 p.1 j q i a4 h
      unfold en at a2 a3
      omega
    rcases h with ⟨rfl, _⟩ | ⟨rfl, _⟩ | ⟨_, h⟩ | ⟨_, p, hp, h⟩ | ⟨_, p, hp, m, j, _, h⟩ | ⟨_, p, hp, h⟩
    · omega
    · omega
    · obtain ⟨p, hp, j, h⟩ := atc_in _ _ _ _ h
      exact key p hp ⟨j, h⟩
    · exact key p hp ⟨i0, h⟩
    · exact key p (head_in hp) ⟨j, h⟩
    · exact key p (head_in hp) ⟨i0, h⟩
/-- At the end a word of the expression lies behind. -/
theorem ate_end (word : List Int) {n : Nat} {t : Ex n} {b i0 i : Nat} (hf : full n t) (h : AtE word n t b i0 (b + 2 * realN n t - 1) i) : Mt word n t i0 i := by
  cases n with
  | zero => exact hf.elim
  | succ n =>
    obtain ⟨_, h⟩ := h
    have hr := real_pos hf
    have key : ∀ p ∈ layE (b + 1) (ks t), ∀ j, ¬ AtE word n p.2 p.1 j (b + 2 * realN (n + 1) t - 1) i := fun p hp j h => by
      obtain ⟨a1, a2, a3, a4, _, _⟩ := lay_in hf hp
      have := ate_rng word n p.2 p.1 j _ i a4 h
      unfold en at a2 a3
      omega
    rcases h with ⟨e, _⟩ | ⟨_, h⟩ | ⟨_, h⟩ | ⟨_, p, hp, h⟩ | ⟨_, p, hp, m, j, _, h⟩ | ⟨_, p, hp, h⟩
    · omega
    · exact h
    · obtain ⟨p, hp, j, h⟩ := atc_in _ _ _ _ h
      exact (key p hp j h).elim
    · exact (key p hp _ h).elim
    · exact (key p (head_in hp) _ h).elim
    · exact (key p (head_in hp) _ h).elim
theorem ate_le {word : List Int} {n : Nat} {t : Ex n} {b i0 q i : Nat} (h : AtE word n t b i0 q i) : i0 ≤ word.length := by
  cases n with
  | zero => exact h.elim
  | succ n => exact h.1
theorem ate_begin (word : List Int) {n : Nat} {t : Ex n} (b i : Nat) (hf : full n t) (hi : i ≤ word.length) : AtE word n t b i b i := by
  cases n with
  | zero => exact hf.elim
  | succ n => exact ⟨hi, .inl ⟨rfl, rfl⟩⟩
theorem cj_ge {n : Nat} (l : List (Ex n)) (hf : ∀ x ∈ l, full n x) {s last e i j : Nat} (hl : last < s) (h : Cj last (layE s l) e i j) : last ≤ i := by
  rcases cj_src _ _ _ _ _ h with rfl | ⟨p, hp, rfl⟩
  · exact Nat.le_refl _
  · obtain ⟨h1, _, h3⟩ := lay_rng _ _ _ hp
    have := real_pos (hf _ h3)
    unfold en
    omega
/-- A free step within parts, one behind the other. -/
theorem chain_free (word : List Int) {n : Nat} :
    ∀ (l : List (Ex n)) (s last e i0 q q' i : Nat), (∀ x ∈ l, ∀ (b i0 q q' i : Nat), AtE word n x b i0 q i → Fr n x b q q' → AtE word n x b i0 q' i) → (∀ x ∈ l, full n x) → i0 ≤ word.length → last < s → ((q = last ∧ i = i0) ∨ AtC (Mt word n) (AtE word n) (layE s l) i0 q i) →
      (Cj last (layE s l) e q q' ∨ ∃ p ∈ layE s l, Fr n p.2 p.1 q q') → AtC (Mt word n) (AtE word n) (layE s l) i0 q' i ∨ (q' = e ∧ Ch (l.map (fun x => Mt word n x)) i0 i)
  | [], s, last, e, i0, q, q', i, _, _, _, _, h, g => by
    rcases h with ⟨rfl, rfl⟩ | h
    · rcases g with g | ⟨p, hp, _⟩
      · exact .inr ⟨g.2, rfl⟩
      · cases hp
    · exact h.elim
  | x :: l, s, last, e, i0, q, q', i, hc, hf, hi, hl, h, g => by
    have hx : full n x := hf x (by simp)
    have hr := real_pos hx
    have hf' : ∀ y ∈ l, full n y := fun y hy => hf y (by simp [hy])
    have hc' : ∀ y ∈ l, ∀ (b i0 q q' i : Nat), AtE word n y b i0 q i → Fr n y b q q' → AtE word n y b i0 q' i := fun y hy => hc y (by simp [hy])
    have hen : en (s, x) = s + 2 * realN n x - 1 := rfl
    -- steps that leave from within the rest
    have tail_ge : ∀ a c, (Cj (en (s, x)) (layE (s + 2 * realN n x) l) e a c ∨ ∃ p ∈ layE (s + 2 * realN n x) l, Fr n p.2 p.1 a c) → en (s, x) ≤ a := fun a c g => by
      rcases g with g | ⟨p, hp, g⟩
      · exact cj_ge l hf' (by rw [hen]; omega) g
      · obtain ⟨h1, _, h3⟩ := lay_rng _ _ _ hp
        have := fr_rng n p.2 p.1 a c (hf' _ h3) g
        rw [hen]
        omega
    have split : (q = last ∧ q' = s) ∨ Fr n x s q q' ∨ (Cj (en (s, x)) (layE (s + 2 * realN n x) l) e q q' ∨ ∃ p ∈ layE (s + 2 * realN n x) l, Fr n p.2 p.1 q q') := by
      rcases g with g | ⟨p, hp, g⟩
      · rcases g with g | g
        · exact .inl g
        · exact .inr (.inr (.inl g))
      · rcases List.mem_cons.1 (show p ∈ (s, x) :: layE (s + 2 * realN n x) l from hp) with rfl | hp
        · exact .inr (.inl g)
        · exact .inr (.inr (.inr ⟨p, hp, g⟩))
    rcases h with ⟨rfl, rfl⟩ | h
    · rcases split with ⟨_, rfl⟩ | g | g
      · exact .inl (.inl (ate_begin word q' i hx hi))
      · have := fr_rng n x s q q' hx g; omega
      · have := tail_ge q q' g; rw [hen] at this; omega
    · rcases h with h | ⟨j, h1, h2⟩
      · have hq := ate_rng word n x s i0 q i hx h
        rcases split with ⟨e1, _⟩ | g | g
        · have hq1 : s ≤ q := hq.1; omega
        · exact .inl (.inl (hc x (by simp) s i0 q q' i h g))
        · have hge := tail_ge q q' g
          have hqe : q = en (s, x) := by rw [hen] at hge ⊢; have : q ≤ s + 2 * realN n x - 1 := hq.2; omega
          have hm : Mt word n x i0 i := by
            have h' : AtE word n x s i0 (s + 2 * realN n x - 1) i := by rw [← hen, ← hqe]; exact h
            exact ate_end word hx h'
          have hup := mt_up word n x i0 i hm
          rcases chain_free word l (s + 2 * realN n x) (en (s, x)) e i q q' i hc' hf' hup.2 (by rw [hen]; omega) (.inl ⟨hqe, rfl⟩) g with k | ⟨k1, k2⟩
          · exact .inl (.inr ⟨i, hm, k⟩)
          · exact .inr ⟨k1, i, hm, k2⟩
      · have hup := mt_up word n x i0 j h1
        obtain ⟨p, hp, j', hat⟩ := atc_in _ _ _ _ h2
        obtain ⟨b1, _, b3⟩ := lay_rng _ _ _ hp
        have hq := ate_rng word n p.2 p.1 j' q i (hf' _ b3) hat
        rcases split with ⟨e1, _⟩ | g | g
        · omega
        · have := fr_rng n x s q q' hx g; omega
        · rcases chain_free word l (s + 2 * realN n x) (en (s, x)) e j q q' i hc' hf' hup.2 (by rw [hen]; omega) (.inr h2) g with k | ⟨k1, k2⟩
          · exact .inl (.inr ⟨j, h1, k⟩)
          · exact .inr ⟨k1, j, h1, k2⟩
/-- A state is of one part alone. -/
theorem lay_uniq {n : Nat} : ∀ (l : List (Ex n)) (s q : Nat) (p p' : Nat × Ex n), (∀ x ∈ l, full n x) → p ∈ layE s l → p' ∈ layE s l → p.1 ≤ q → q ≤ en p → p'.1 ≤ q → q ≤ en p' → p = p'
  | [], s, q, p, p', _, h, _, _, _, _, _ => by cases h
  | x :: l, s, q, p, p', hf, h, h', a1, a2, b1, b2 => by
    have hr := real_pos (hf x (by simp))
    have hen : en (s, x) = s + 2 * realN n x - 1 := rfl
    rcases List.mem_cons.1 (show p ∈ (s, x) :: layE (s + 2 * realN n x) l from h) with rfl | h
    · rcases List.mem_cons.1 (show p' ∈ (s, x) :: layE (s + 2 * realN n x) l from h') with rfl | h'
      · rfl
      · have := (lay_rng _ _ _ h').1; rw [hen] at a2; omega
    · rcases List.mem_cons.1 (show p' ∈ (s, x) :: layE (s + 2 * realN n x) l from h') with rfl | h'
      · have := (lay_rng _ _ _ h).1; rw [hen] at b2; omega
      · exact lay_uniq l _ q p p' (fun y hy => hf y (by simp [hy])) h h' a1 a2 b1 b2
theorem tm_snoc {R : Nat → Nat → Prop} : ∀ (m i j k : Nat), Tm R m i j → R j k → Tm R (m + 1) i k
  | 0, i, j, k, e, h => by cases e; exact ⟨k, h, rfl⟩
  | m + 1, i, j, k, ⟨z, h1, h2⟩, h => ⟨z, h1, tm_snoc m z j k h2 h⟩
theorem shapes_open {n : Nat} {t : Ex (n + 1)} (h : shapesE (n + 1) t = true) : okE (kd t) (st t) (ks t).length = true ∧ ∀ x ∈ ks t, shapesE n x = true := by
  have e : (okE (kd t) (st t) (ks t).length && (ks t).all (fun x => shapesE n x)) = true := h
  rw [Bool.and_eq_true, List.all_eq_true] at e
  exact e
theorem ok_none {k s l : Nat} (h : okE k s l = true) (hk : k = 0 ∨ k = 1) : l = 0 := by
  unfold okE at h
  simp only [Bool.or_eq_true, Bool.and_eq_true, decide_eq_true_eq] at h
  omega
theorem ok_one {k s l : Nat} (h : okE k s l = true) (hk : k = 4 ∨ k = 5) : l = 1 := by
  unfold okE at h
  simp only [Bool.or_eq_true, Bool.and_eq_true, decide_eq_true_eq] at h
  omega
/-- A free step. -/
theorem ate_free (word : List Int) : ∀ (n : Nat) (t : Ex n) (b i0 q q' i : Nat), full n t → shapesE n t = true → AtE word n t b i0 q i → Fr n t b q q' → AtE word n t b i0 q' i
  | 0, _, _, _, _, _, _, h, _, _, _ => h.elim
  | n + 1, t, b, i0, q, q', i, hf, hsh, ⟨hi, h⟩, g => by
    obtain ⟨hok, hks⟩ := shapes_open hsh
    have hrn := fr_rng (n + 1) t b q q' hf g
    have hcl : ∀ x ∈ ks t, ∀ (b i0 q q' i : Nat), AtE word n x b i0 q i → Fr n x b q q' → AtE word n x b i0 q' i := fun x hx b i0 q q' i h g => ate_free word n x b i0 q q' i (hf x hx) (hks x hx) h g
    refine ⟨hi, ?_⟩
    have inb : ∀ p ∈ layE (b + 1) (ks t), Fr n p.2 p.1 q q' → b < q ∧ p.1 ≤ q ∧ q < en p := fun p hp g => by
      obtain ⟨a1, a2, a3, a4, _, _⟩ := lay_in hf hp
      have := fr_rng n p.2 p.1 q q' a4 g
      unfold en
      omega
    have atp : ∀ p ∈ layE (b + 1) (ks t), ∀ j, AtE word n p.2 p.1 j q i → b < q ∧ p.1 ≤ q ∧ q ≤ en p := fun p hp j h => by
      obtain ⟨a1, a2, a3, a4, _, _⟩ := lay_in hf hp
      have := ate_rng word n p.2 p.1 j q i a4 h
      unfold en
      omega
    have enp : ∀ p ∈ layE (b + 1) (ks t), b < en p ∧ p.1 ≤ en p := fun p hp => by
      obtain ⟨a1, a2, a3, _⟩ := lay_in hf hp
      omega
    have fin : ∀ p ∈ layE (b + 1) (ks t), ∀ j, q = en p → AtE word n p.2 p.1 j q i → Mt word n p.2 j i := fun p hp j e h => by
      obtain ⟨_, _, _, a4, _, _⟩ := lay_in hf hp
      rw [e] at h
      exact ate_end word a4 h
    have uniq : ∀ p ∈ layE (b + 1) (ks t), ∀ p' ∈ layE (b + 1) (ks t), p.1 ≤ q → q ≤ en p → p'.1 ≤ q → q ≤ en p' → p = p' := fun p hp p' hp' a1 a2 b1 b2 => lay_uniq (ks t) _ q p p' hf hp hp' a1 a2 b1 b2
    have beg : ∀ p ∈ layE (b + 1) (ks t), ∀ j, j ≤ word.length → AtE word n p.2 p.1 j p.1 j := fun p hp j hj => ate_begin word p.1 j (lay_in hf hp).2.2.2.1 hj
    have one : kd t = 4 ∨ kd t = 5 → ∃ x, ks t = [x] ∧ layE (b + 1) (ks t) = [(b + 1, x)] := fun hk => by
      have hl := ok_one hok hk
      match hx : ks t, hl with
      | [x], _ => exact ⟨x, rfl, rfl⟩
    rcases h with ⟨rfl, rfl⟩ | ⟨e, _⟩ | ⟨k2, h⟩ | ⟨k3, p, hp, h⟩ | ⟨k4, p, hp, m, j, hm, h⟩ | ⟨k5, p, hp, h⟩
    · -- at the beginning
      rcases g with ⟨p, hp, g⟩ | ⟨k0, _, rfl⟩ | ⟨k2, g⟩ | ⟨k3, p, hp, g⟩ | ⟨k4, p, hp, g⟩ | ⟨k5, p, hp, g⟩
      · have := inb p hp g; omega
      · exact .inr (.inl ⟨rfl, hi, .inl ⟨k0, rfl⟩⟩)
      · rcases chain_free word (ks t) (q + 1) q _ i q q' i hcl hf hi (by omega) (.inl ⟨rfl, rfl⟩) (.inl g) with k | ⟨k1, k⟩
        · exact .inr (.inr (.inl ⟨k2, k⟩))
        · exact .inr (.inl ⟨k1, hi, .inr (.inr (.inl ⟨k2, k⟩))⟩)
      · rcases g with ⟨_, rfl⟩ | ⟨e, _⟩
        · exact .inr (.inr (.inr (.inl ⟨k3, p, hp, beg p hp i hi⟩)))
        · have := enp p hp; omega
      · obtain ⟨x, e1, e2⟩ := one (.inl k4)
        have hp0 := hp
        rw [e2] at hp
        have ep : p = (q + 1, x) := by simpa using hp
        subst ep
        rcases g with ⟨_, rfl⟩ | ⟨_, rfl⟩ | ⟨e, _⟩ | ⟨e, _⟩
        · exact .inr (.inr (.inr (.inr (.inl ⟨k4, (q + 1, x), by rw [e2]; rfl, 0, i, rfl, beg _ hp0 i hi⟩))))
        · exact .inr (.inl ⟨rfl, hi, .inr (.inr (.inr (.inr (.inl ⟨k4, x, by rw [e1]; rfl, 0, rfl⟩))))⟩)
        · have := enp _ hp0; omega
        · have := enp _ hp0; omega
      · obtain ⟨x, e1, e2⟩ := one (.inr k5)
        have hp0 := hp
        rw [e2] at hp
        have ep : p = (q + 1, x) := by simpa using hp
        subst ep
        rcases g with ⟨_, rfl⟩ | ⟨_, rfl⟩ | ⟨e, _⟩
        · exact .inr (.inr (.inr (.inr (.inr ⟨k5, (q + 1, x), by rw [e2]; rfl, beg _ hp0 i hi⟩))))
        · exact .inr (.inl ⟨rfl, hi, .inr (.inr (.inr (.inr (.inr ⟨k5, x, by rw [e1]; rfl, .inl rfl⟩))))⟩)
        · have := enp _ hp0; omega
    · omega
    · -- within parts, one behind the other
      have g' : Cj b (layE (b + 1) (ks t)) (b + 2 * realN (n + 1) t - 1) q q' ∨ ∃ p ∈ layE (b + 1) (ks t), Fr n p.2 p.1 q q' := by
        rcases g with ⟨p, hp, g⟩ | ⟨k0, _⟩ | ⟨_, g⟩ | ⟨k3, _⟩ | ⟨k4, _⟩ | ⟨k5, _⟩
        · exact .inr ⟨p, hp, g⟩
        · omega
        · exact .inl g
        all_goals omega
      rcases chain_free word (ks t) (b + 1) b _ i0 q q' i hcl hf hi (by omega) (.inr h) g' with k | ⟨k1, k⟩
      · exact .inr (.inr (.inl ⟨k2, k⟩))
      · exact .inr (.inl ⟨k1, hi, .inr (.inr (.inl ⟨k2, k⟩))⟩)
    · have r1 := atp p hp i0 h
      rcases g with ⟨p', hp', g⟩ | ⟨k0, _⟩ | ⟨k2, _⟩ | ⟨_, p', hp', g⟩ | ⟨k4, _⟩ | ⟨k5, _⟩
      · have r2 := inb p' hp' g
        obtain rfl := uniq p hp p' hp' r1.2.1 r1.2.2 r2.2.1 (by omega)
        exact .inr (.inr (.inr (.inl ⟨k3, p, hp, hcl _ (lay_in hf hp).2.2.2.2.1 _ _ _ _ _ h g⟩)))
      · omega
      · omega
      · rcases g with ⟨e, _⟩ | ⟨e, rfl⟩
        · omega
        · have r3 := enp p' hp'
          obtain rfl := uniq p hp p' hp' r1.2.1 r1.2.2 (by omega) (by omega)
          exact .inr (.inl ⟨rfl, hi, .inr (.inr (.inr (.inl ⟨k3, p.2, (lay_in hf hp).2.2.2.2.1, fin p hp i0 e h⟩)))⟩)
      all_goals omega
    · obtain ⟨x, e1, e2⟩ := one (.inl k4)
      have hp0 := head_in hp
      have r1 := atp p hp0 j h
      have hjl := ate_le h
      have hx : x ∈ (ks t).head? := by rw [e1]; rfl
      have ep : p = (b + 1, x) := by rw [e2] at hp; simpa using hp.symm
      subst ep
      rcases g with ⟨p', hp', g⟩ | ⟨k0, _⟩ | ⟨k2, _⟩ | ⟨k3, _⟩ | ⟨_, p', hp', g⟩ | ⟨k5, _⟩
      · have ep' : p' = (b + 1, x) := by rw [e2] at hp'; simpa using hp'
        subst ep'
        exact .inr (.inr (.inr (.inr (.inl ⟨k4, _, hp, m, j, hm, hcl _ (lay_in hf hp0).2.2.2.2.1 _ _ _ _ _ h g⟩))))
      · omega
      · omega
      · omega
      · have ep' : p' = (b + 1, x) := by rw [e2] at hp'; simpa using hp'
        subst ep'
        rcases g with ⟨e, _⟩ | ⟨e, _⟩ | ⟨e, rfl⟩ | ⟨e, rfl⟩
        · omega
        · omega
        · have hmt := fin _ hp0 j e h
          have hup := mt_up word n x j i hmt
          exact .inr (.inr (.inr (.inr (.inl ⟨k4, _, hp, m + 1, i, tm_snoc m i0 j i hm hmt, beg _ hp0 i hup.2⟩))))
        · have hmt := fin _ hp0 j e h
          exact .inr (.inl ⟨rfl, hi, .inr (.inr (.inr (.inr (.inl ⟨k4, x, hx, m + 1, tm_snoc m i0 j i hm hmt⟩))))⟩)
      · omega
    · obtain ⟨x, e1, e2⟩ := one (.inr k5)
      have hp0 := head_in hp
      have r1 := atp p hp0 i0 h
      have hx : x ∈ (ks t).head? := by rw [e1]; rfl
      have ep : p = (b + 1, x) := by rw [e2] at hp; simpa using hp.symm
      subst ep
      rcases g with ⟨p', hp', g⟩ | ⟨k0, _⟩ | ⟨k2, _⟩ | ⟨k3, _⟩ | ⟨k4, _⟩ | ⟨_, p', hp', g⟩
      · have ep' : p' = (b + 1, x) := by rw [e2] at hp'; simpa using hp'
        subst ep'
        exact .inr (.inr (.inr (.inr (.inr ⟨k5, _, hp, hcl _ (lay_in hf hp0).2.2.2.2.1 _ _ _ _ _ h g⟩))))
      · omega
      · omega
      · omega
      · omega
      · have ep' : p' = (b + 1, x) := by rw [e2] at hp'; simpa using hp'
        subst ep'
        rcases g with ⟨e, _⟩ | ⟨e, _⟩ | ⟨e, rfl⟩
        · omega
        · omega
        · exact .inr (.inl ⟨rfl, hi, .inr (.inr (.inr (.inr (.inr ⟨k5, x, hx, .inr (fin _ hp0 i0 e h)⟩))))⟩)
end Go.Proofs.YtbbfjjjnifomgaaGreatDoor.A



/- The machine of an expression, and of several: what is come to. Plain mathematics. -/
namespace Go.Proofs.YtbbfjjjnifomgaaGreatDoor.A
set_option linter.unusedVariables false

/-- A step by a set, within parts, one behind the other. -/
theorem chain_step (word : List Int) {n : Nat} {s' : Nat} :
    ∀ (l : List (Ex n)) (s i0 q q' i : Nat), (∀ x ∈ l, ∀ (b i0 q q' i : Nat), AtE word n x b i0 q i → Sp n x b q s' q' → (∃ c, word[i]? = some c ∧ inS s' c = true) → AtE word n x b i0 q' (i + 1)) → (∀ x ∈ l, full n x) → (∃ c, word[i]? = some c ∧ inS s' c = true) →
      AtC (Mt word n) (AtE word n) (layE s l) i0 q i → (∃ p ∈ layE s l, Sp n p.2 p.1 q s' q') → AtC (Mt word n) (AtE word n) (layE s l) i0 q' (i + 1)
  | [], s, i0, q, q', i, _, _, _, h, _ => h.elim
  | x :: l, s, i0, q, q', i, hc, hf, hw, h, ⟨p, hp, g⟩ => by
    have hx : full n x := hf x (by simp)
    have hr := real_pos hx
    have hf' : ∀ y ∈ l, full n y := fun y hy => hf y (by simp [hy])
    rcases List.mem_cons.1 (show p ∈ (s, x) :: layE (s + 2 * realN n x) l from hp) with rfl | hp
    · have gr := sp_rng n x s q s' q' hx g
      rcases h with h | ⟨j, h1, h2⟩
      · exact .inl (hc x (by simp) s i0 q q' i h g hw)
      · obtain ⟨p', hp', j', hat⟩ := atc_in _ _ _ _ h2
        obtain ⟨b1, _, b3⟩ := lay_rng _ _ _ hp'
        have hq := ate_rng word n p'.2 p'.1 j' q i (hf' _ b3) hat
        omega
    · obtain ⟨b1, _, b3⟩ := lay_rng _ _ _ hp
      have gr := sp_rng n p.2 p.1 q s' q' (hf' _ b3) g
      rcases h with h | ⟨j, h1, h2⟩
      · have hq := ate_rng word n x s i0 q i hx h
        have hq2 : q ≤ s + 2 * realN n x - 1 := hq.2
        omega
      · exact .inr ⟨j, h1, chain_step word l _ j q q' i (fun y hy => hc y (by simp [hy])) hf' hw h2 ⟨p, hp, g⟩⟩
/-- A step by a set. -/
theorem ate_step (word : List Int) {s' : Nat} : ∀ (n : Nat) (t : Ex n) (b i0 q q' i : Nat), full n t → shapesE n t = true → AtE word n t b i0 q i → Sp n t b q s' q' → (∃ c, word[i]? = some c ∧ inS s' c = true) → AtE word n t b i0 q' (i + 1)
  | 0, _, _, _, _, _, _, h, _, _, _, _ => h.elim
  | n + 1, t, b, i0, q, q', i, hf, hsh, ⟨hi, h⟩, g, hw => by
    obtain ⟨hok, hks⟩ := shapes_open hsh
    have hrn := sp_rng (n + 1) t b q s' q' hf g
    have hcl : ∀ x ∈ ks t, ∀ (b i0 q q' i : Nat), AtE word n x b i0 q i → Sp n x b q s' q' → (∃ c, word[i]? = some c ∧ inS s' c = true) → AtE word n x b i0 q' (i + 1) := fun x hx b i0 q q' i h g hw => ate_step word n x b i0 q q' i (hf x hx) (hks x hx) h g hw
    refine ⟨hi, ?_⟩
    have inb : ∀ p ∈ layE (b + 1) (ks t), Sp n p.2 p.1 q s' q' → b < q ∧ p.1 ≤ q ∧ q < en p := fun p hp g => by
      obtain ⟨a1, a2, a3, a4, _, _⟩ := lay_in hf hp
      have := sp_rng n p.2 p.1 q s' q' a4 g
      unfold en
      omega
    have atp : ∀ p ∈ layE (b + 1) (ks t), ∀ j, AtE word n p.2 p.1 j q i → b < q ∧ p.1 ≤ q ∧ q ≤ en p := fun p hp j h => by
      obtain ⟨a1, a2, a3, a4, _, _⟩ := lay_in hf hp
      have := ate_rng word n p.2 p.1 j q i a4 h
      unfold en
      omega
    have none1 : kd t = 1 → layE (b + 1) (ks t) = [] := fun hk => by
      have hl := ok_none hok (.inr hk)
      match hx : ks t, hl with
      | [], _ => rfl
    rcases g with ⟨k1, e1, e2, e3⟩ | ⟨p', hp', g⟩
    · rcases h with ⟨rfl, rfl⟩ | ⟨e, _⟩ | ⟨k2, h⟩ | ⟨k3, _⟩ | ⟨k4, _⟩ | ⟨k5, _⟩
      · obtain ⟨c, hc1, hc2⟩ := hw
        rw [e2] at hc2
        exact .inr (.inl ⟨e3, hi, .inr (.inl ⟨k1, rfl, c, hc1, hc2⟩)⟩)
      all_goals omega
    · have r2 := inb p' hp' g
      rcases h with ⟨rfl, _⟩ | ⟨e, _⟩ | ⟨k2, h⟩ | ⟨k3, p, hp, h⟩ | ⟨k4, p, hp, m, j, hm, h⟩ | ⟨k5, p, hp, h⟩
      · omega
      · omega
      · exact .inr (.inr (.inl ⟨k2, chain_step word (ks t) (b + 1) i0 q q' i hcl hf hw h ⟨p', hp', g⟩⟩))
      · have r1 := atp p hp i0 h
        obtain rfl := lay_uniq (ks t) _ q p p' hf hp hp' r1.2.1 r1.2.2 r2.2.1 (by omega)
        exact .inr (.inr (.inr (.inl ⟨k3, p, hp, hcl _ (lay_in hf hp).2.2.2.2.1 _ _ _ _ _ h g hw⟩)))
      · have hp0 := head_in hp
        have r1 := atp p hp0 j h
        obtain rfl := lay_uniq (ks t) _ q p p' hf hp0 hp' r1.2.1 r1.2.2 r2.2.1 (by omega)
        exact .inr (.inr (.inr (.inr (.inl ⟨k4, p, hp, m, j, hm, hcl _ (lay_in hf hp0).2.2.2.2.1 _ _ _ _ _ h g hw⟩))))
      · have hp0 := head_in hp
        have r1 := atp p hp0 i0 h
        obtain rfl := lay_uniq (ks t) _ q p p' hf hp0 hp' r1.2.1 r1.2.2 r2.2.1 (by omega)
        exact .inr (.inr (.inr (.inr (.inr ⟨k5, p, hp, hcl _ (lay_in hf hp0).2.2.2.2.1 _ _ _ _ _ h g hw⟩))))

/-- The machine of expressions: its free steps, and those by a set. -/
def FrA {n : Nat} (ts : List (Ex n)) (q q' : Nat) : Prop := ∃ p ∈ layE 1 ts, (q = 0 ∧ q' = p.1) ∨ Fr n p.2 p.1 q q'
def SpA {n : Nat} (ts : List (Ex n)) (q s q' : Nat) : Prop := ∃ p ∈ layE 1 ts, Sp n p.2 p.1 q s q'
/-- What is come to in it is come to in one of its expressions. -/
theorem way_in (word : List Int) {n : Nat} {ts : List (Ex n)} (hf : ∀ x ∈ ts, full n x) (hsh : ∀ x ∈ ts, shapesE n x = true) {q i : Nat} (h : Wy word (FrA ts) (SpA ts) 0 0 q i) : (q = 0 ∧ i = 0) ∨ ∃ p ∈ layE 1 ts, AtE word n p.2 p.1 0 q i := by
  induction h with
  | here => exact .inl ⟨rfl, rfl⟩
  | free _ g ih =>
    obtain ⟨p, hp, g⟩ := g
    obtain ⟨b1, _, b3⟩ := lay_rng _ _ _ hp
    rcases ih with ⟨rfl, rfl⟩ | ⟨p', hp', ih⟩
    · rcases g with ⟨_, rfl⟩ | g
      · exact .inr ⟨p, hp, ate_begin word p.1 0 (hf _ b3) (Nat.zero_le _)⟩
      · have := fr_rng n p.2 p.1 _ _ (hf _ b3) g; omega
    · obtain ⟨c1, _, c3⟩ := lay_rng _ _ _ hp'
      have r1 := ate_rng word n p'.2 p'.1 _ _ _ (hf _ c3) ih
      rcases g with ⟨e, _⟩ | g
      · omega
      · have r2 := fr_rng n p.2 p.1 _ _ (hf _ b3) g
        obtain rfl := lay_uniq ts _ _ p' p hf hp' hp r1.1 (by unfold en; omega) r2.1 (by unfold en; omega)
        exact .inr ⟨p', hp', ate_free word n _ _ _ _ _ _ (hf _ c3) (hsh _ c3) ih g⟩
  | step _ g hc hin ih =>
    obtain ⟨p, hp, g⟩ := g
    obtain ⟨b1, _, b3⟩ := lay_rng _ _ _ hp
    rcases ih with ⟨rfl, rfl⟩ | ⟨p', hp', ih⟩
    · have := sp_rng n p.2 p.1 _ _ _ (hf _ b3) g; omega
    · obtain ⟨c1, _, c3⟩ := lay_rng _ _ _ hp'
      have r1 := ate_rng word n p'.2 p'.1 _ _ _ (hf _ c3) ih
      have r2 := sp_rng n p.2 p.1 _ _ _ (hf _ b3) g
      obtain rfl := lay_uniq ts _ _ p' p hf hp' hp r1.1 (by unfold en; omega) r2.1 (by unfold en; omega)
      exact .inr ⟨p', hp', ate_step word n _ _ _ _ _ _ (hf _ c3) (hsh _ c3) ih g ⟨_, hc, hin⟩⟩
/-- At an expression's end one comes by its words alone. -/
theorem way_end (word : List Int) {n : Nat} {ts : List (Ex n)} (hf : ∀ x ∈ ts, full n x) (hsh : ∀ x ∈ ts, shapesE n x = true) {p : Nat × Ex n} (hp : p ∈ layE 1 ts) (i : Nat) : Wy word (FrA ts) (SpA ts) 0 0 (en p) i ↔ Mt word n p.2 0 i := by
  obtain ⟨b1, _, b3⟩ := lay_rng _ _ _ hp
  have hr := real_pos (hf _ b3)
  constructor
  · intro h
    rcases way_in word hf hsh h with ⟨e, _⟩ | ⟨p', hp', h⟩
    · unfold en at e; omega
    · obtain ⟨c1, _, c3⟩ := lay_rng _ _ _ hp'
      have r1 := ate_rng word n p'.2 p'.1 _ _ _ (hf _ c3) h
      obtain rfl := lay_uniq ts _ (en p) p' p hf hp' hp r1.1 (by unfold en at r1 ⊢; omega) (by unfold en; omega) (Nat.le_refl _)
      exact ate_end word (hf _ c3) h
  · intro h
    have w1 : Wy word (FrA ts) (SpA ts) 0 0 p.1 0 := Wy.here.free ⟨p, hp, .inl ⟨rfl, rfl⟩⟩
    exact w1.trans (way_of n p.2 word p.1 0 i _ _ h (fun a c g => ⟨p, hp, .inr g⟩) (fun a s c g => ⟨p, hp, g⟩))
end Go.Proofs.YtbbfjjjnifomgaaGreatDoor.A



/- What the document's 'lay' writes: plain mathematics. (The lemmas on intoL are the scratch seat's Nh's as well: keep one of the two.) -/
namespace Go.Proofs.YtbbfjjjnifomgaaGreatDoor.A

/-- Rising lists with the same members are one. -/
theorem rising_eq : ∀ {l l' : List Int}, l.Pairwise (· < ·) → l'.Pairwise (· < ·) → (∀ z, z ∈ l ↔ z ∈ l') → l = l'
  | [], [], _, _, _ => rfl
  | [], b :: r', _, _, h => by have := (h b).2 (by simp); simp at this
  | a :: r, [], _, _, h => by have := (h a).1 (by simp); simp at this
  | a :: r, b :: r', h1, h2, h => by
    rw [List.pairwise_cons] at h1 h2
    have e : a = b := by
      have ha := (h a).1 (by simp)
      have hb := (h b).2 (by simp)
      rcases List.mem_cons.1 ha with ha | ha
      · exact ha
      · rcases List.mem_cons.1 hb with hb | hb
        · exact hb.symm
        · have q1 := h2.1 a ha
          have q2 := h1.1 b hb
          omega
    subst e
    rw [rising_eq h1.2 h2.2 (fun z => ?_)]
    constructor
    · intro hz
      rcases List.mem_cons.1 ((h z).1 (by simp [hz])) with q | q
      · have := h1.1 z hz; omega
      · exact q
    · intro hz
      rcases List.mem_cons.1 ((h z).2 (by simp [hz])) with q | q
      · have := h2.1 z hz; omega
      · exact q

/-- A machine that is being made: free steps, sets, where they lead. -/
structure Mc where
  fr : Nat → List Int
  st : Nat → Nat
  to : Nat → Int
/-- A free step more. -/
def addF (m : Mc) (a : Nat) (x : Nat) : Mc := ⟨fun i => if i = a then intoL (m.fr a) (x : Int) else m.fr i, m.st, m.to⟩
theorem mem_addF (m : Mc) (a x i : Nat) (z : Int) : z ∈ (addF m a x).fr i ↔ z ∈ m.fr i ∨ (i = a ∧ z = x) := by
  unfold addF
  show z ∈ (if i = a then intoL (m.fr a) (x : Int) else m.fr i) ↔ _
  by_cases e : i = a
  · subst e; rw [if_pos rfl, into_mem]
    constructor
    · rintro (h | h)
      · exact .inr ⟨rfl, h⟩
      · exact .inl h
    · rintro (h | h)
      · exact .inr h
      · exact .inl h.2
  · rw [if_neg e]
    constructor
    · exact .inl
    · rintro (h | h)
      · exact h
      · exact absurd h.1 e
/-- A round of its loop over the parts: what is written, where the next part begins, where the last one ended. -/
def layR {n : Nat} (lay1 : Ex n → Nat → Mc → Mc) (kind at_ e : Nat) (q : Mc × Nat × Nat) (x : Ex n) : Mc × Nat × Nat :=
  if kind = 2 then (addF (lay1 x q.2.1 q.1) q.2.2 q.2.1, q.2.1 + 2 * realN n x - 1 + 1, q.2.1 + 2 * realN n x - 1)
  else if kind = 4 then (addF (addF (addF (lay1 x q.2.1 q.1) (q.2.1 + 2 * realN n x - 1) q.2.1) at_ q.2.1) (q.2.1 + 2 * realN n x - 1) e, q.2.1 + 2 * realN n x - 1 + 1, q.2.2)
  else (addF (addF (lay1 x q.2.1 q.1) at_ q.2.1) (q.2.1 + 2 * realN n x - 1) e, q.2.1 + 2 * realN n x - 1 + 1, q.2.2)
/-- What the document's 'lay' makes of a machine. -/
def layM : (n : Nat) → Ex n → Nat → Mc → Mc
  | 0, _, _, m => m
  | n + 1, t, b, m =>
    if kd t = 1 then ⟨m.fr, fun i => if i = b then A.st t else m.st i, fun i => if i = b then ((b + 2 * realN (n + 1) t - 1 : Nat) : Int) else m.to i⟩
    else if kd t = 2 then addF ((ks t).foldl (layR (layM n) 2 b (b + 2 * realN (n + 1) t - 1)) (m, b + 1, b)).1 ((ks t).foldl (layR (layM n) 2 b (b + 2 * realN (n + 1) t - 1)) (m, b + 1, b)).2.2 (b + 2 * realN (n + 1) t - 1)
    else if kd t = 3 then ((ks t).foldl (layR (layM n) 3 b (b + 2 * realN (n + 1) t - 1)) (m, b + 1, b)).1
    else ((ks t).foldl (layR (layM n) (kd t) b (b + 2 * realN (n + 1) t - 1)) (addF m b (b + 2 * realN (n + 1) t - 1), b + 1, b)).1

/-- What lay1 adds to the free steps. -/
def Adds {n : Nat} (lay1 : Ex n → Nat → Mc → Mc) (R : Ex n → Nat → Nat → Nat → Prop) (x : Ex n) : Prop := ∀ (b : Nat) (m : Mc) (i : Nat) (z : Int), z ∈ (lay1 x b m).fr i ↔ z ∈ m.fr i ∨ ∃ j : Nat, z = j ∧ R x b i j
theorem lay_two {n : Nat} {lay1 : Ex n → Nat → Mc → Mc} {R : Ex n → Nat → Nat → Nat → Prop} (b e : Nat) : ∀ (l : List (Ex n)) (m : Mc) (s last i : Nat) (z : Int), (∀ x ∈ l, Adds lay1 R x ∧ 1 ≤ realN n x) →
    (z ∈ (addF (l.foldl (layR lay1 2 b e) (m, s, last)).1 (l.foldl (layR lay1 2 b e) (m, s, last)).2.2 e).fr i ↔ z ∈ m.fr i ∨ ∃ j : Nat, z = j ∧ ((∃ p ∈ layE s l, R p.2 p.1 i j) ∨ Cj last (layE s l) e i j))
  | [], m, s, last, i, z, _ => by
    show z ∈ (addF m last e).fr i ↔ _
    rw [mem_addF]
    constructor
    · rintro (h | ⟨h1, h2⟩)
      · exact .inl h
      · exact .inr ⟨e, h2, .inr ⟨h1, rfl⟩⟩
    · rintro (h | ⟨j, h1, ⟨p, hp, _⟩ | ⟨h2, h3⟩⟩)
      · exact .inl h
      · cases hp
      · exact .inr ⟨h2, by rw [h1, h3]⟩
  | x :: l, m, s, last, i, z, h => by
    obtain ⟨hx, h1⟩ := h x (by simp)
    have ih := lay_two b e l (addF (lay1 x s m) last s) (s + 2 * realN n x - 1 + 1) (s + 2 * realN n x - 1) i z (fun y hy => h y (by simp [hy]))
    have es : s + 2 * realN n x - 1 + 1 = s + 2 * realN n x := by omega
    rw [List.foldl_cons]
    show z ∈ (addF (l.foldl (layR lay1 2 b e) (addF (lay1 x s m) last s, s + 2 * realN n x - 1 + 1, s + 2 * realN n x - 1)).1 (l.foldl (layR lay1 2 b e) (addF (lay1 x s m) last s, s + 2 * realN n x - 1 + 1, s + 2 * realN n x - 1)).2.2 e).fr i ↔ _
    rw [ih, mem_addF, hx s m i z, es]
    show _ ↔ z ∈ m.fr i ∨ ∃ j : Nat, z = j ∧ ((∃ p ∈ (s, x) :: layE (s + 2 * realN n x) l, R p.2 p.1 i j) ∨ ((i = last ∧ j = s) ∨ Cj (s + 2 * realN n x - 1) (layE (s + 2 * realN n x) l) e i j))
    constructor
    · rintro (((h | ⟨j, e1, e2⟩) | ⟨e1, e2⟩) | ⟨j, e1, ⟨p, hp, e2⟩ | e2⟩)
      · exact .inl h
      · exact .inr ⟨j, e1, .inl ⟨(s, x), by simp, e2⟩⟩
      · exact .inr ⟨s, e2, .inr (.inl ⟨e1, rfl⟩)⟩
      · exact .inr ⟨j, e1, .inl ⟨p, by simp [hp], e2⟩⟩
      · exact .inr ⟨j, e1, .inr (.inr e2)⟩
    · rintro (h | ⟨j, e1, ⟨p, hp, e2⟩ | (⟨e2, e3⟩ | e2)⟩)
      · exact .inl (.inl (.inl h))
      · rcases List.mem_cons.1 hp with rfl | hp
        · exact .inl (.inl (.inr ⟨j, e1, e2⟩))
        · exact .inr ⟨j, e1, .inl ⟨p, hp, e2⟩⟩
      · exact .inl (.inr ⟨e2, by rw [e1, e3]⟩)
      · exact .inr ⟨j, e1, .inr e2⟩
theorem lay_more {n : Nat} {lay1 : Ex n → Nat → Mc → Mc} {R : Ex n → Nat → Nat → Nat → Prop} (kind b e : Nat) (hk : kind ≠ 2) : ∀ (l : List (Ex n)) (m : Mc) (s last i : Nat) (z : Int), (∀ x ∈ l, Adds lay1 R x ∧ 1 ≤ realN n x) →
    (z ∈ (l.foldl (layR lay1 kind b e) (m, s, last)).1.fr i ↔ z ∈ m.fr i ∨ ∃ j : Nat, z = j ∧ ∃ p ∈ layE s l, R p.2 p.1 i j ∨ (i = b ∧ j = p.1) ∨ (i = en p ∧ j = e) ∨ (kind = 4 ∧ i = en p ∧ j = p.1))
  | [], m, s, last, i, z, _ => by
    show z ∈ m.fr i ↔ _
    constructor
    · exact .inl
    · rintro (h | ⟨j, _, p, hp, _⟩)
      · exact h
      · cases hp
  | x :: l, m, s, last, i, z, h => by
    obtain ⟨hx, h1⟩ := h x (by simp)
    have es : s + 2 * realN n x - 1 + 1 = s + 2 * realN n x := by omega
    rw [List.foldl_cons]
    show _ ↔ z ∈ m.fr i ∨ ∃ j : Nat, z = j ∧ ∃ p ∈ (s, x) :: layE (s + 2 * realN n x) l, R p.2 p.1 i j ∨ (i = b ∧ j = p.1) ∨ (i = en p ∧ j = e) ∨ (kind = 4 ∧ i = en p ∧ j = p.1)
    by_cases h4 : kind = 4
    · have er : layR lay1 kind b e (m, s, last) x = (addF (addF (addF (lay1 x s m) (s + 2 * realN n x - 1) s) b s) (s + 2 * realN n x - 1) e, s + 2 * realN n x, last) := by
        unfold layR; rw [if_neg hk, if_pos h4]; simp only []; rw [es]
      rw [er, lay_more kind b e hk l _ _ _ i z (fun y hy => h y (by simp [hy])), mem_addF, mem_addF, mem_addF, hx s m i z]
      constructor
      · rintro (((((h | ⟨j, e1, e2⟩) | ⟨e1, e2⟩) | ⟨e1, e2⟩) | ⟨e1, e2⟩) | ⟨j, e1, p, hp, e2⟩)
        · exact .inl h
        · exact .inr ⟨j, e1, (s, x), by simp, .inl e2⟩
        · exact .inr ⟨s, e2, (s, x), by simp, .inr (.inr (.inr ⟨h4, e1, rfl⟩))⟩
        · exact .inr ⟨s, e2, (s, x), by simp, .inr (.inl ⟨e1, rfl⟩)⟩
        · exact .inr ⟨e, e2, (s, x), by simp, .inr (.inr (.inl ⟨e1, rfl⟩))⟩
        · exact .inr ⟨j, e1, p, by simp [hp], e2⟩
      · rintro (h | ⟨j, e1, p, hp, e2⟩)
        · exact .inl (.inl (.inl (.inl (.inl h))))
        · rcases List.mem_cons.1 hp with rfl | hp
          · rcases e2 with e2 | ⟨e2, e3⟩ | ⟨e2, e3⟩ | ⟨_, e2, e3⟩
            · exact .inl (.inl (.inl (.inl (.inr ⟨j, e1, e2⟩))))
            · exact .inl (.inl (.inr ⟨e2, by rw [e1, e3]⟩))
            · exact .inl (.inr ⟨e2, by rw [e1, e3]⟩)
            · exact .inl (.inl (.inl (.inr ⟨e2, by rw [e1, e3]⟩)))
          · exact .inr ⟨j, e1, p, hp, e2⟩
    · have er : layR lay1 kind b e (m, s, last) x = (addF (addF (lay1 x s m) b s) (s + 2 * realN n x - 1) e, s + 2 * realN n x, last) := by
        unfold layR; rw [if_neg hk, if_neg h4]; simp only []; rw [es]
      rw [er, lay_more kind b e hk l _ _ _ i z (fun y hy => h y (by simp [hy])), mem_addF, mem_addF, hx s m i z]
      constructor
      · rintro ((((h | ⟨j, e1, e2⟩) | ⟨e1, e2⟩) | ⟨e1, e2⟩) | ⟨j, e1, p, hp, e2⟩)
        · exact .inl h
        · exact .inr ⟨j, e1, (s, x), by simp, .inl e2⟩
        · exact .inr ⟨s, e2, (s, x), by simp, .inr (.inl ⟨e1, rfl⟩)⟩
        · exact .inr ⟨e, e2, (s, x), by simp, .inr (.inr (.inl ⟨e1, rfl⟩))⟩
        · exact .inr ⟨j, e1, p, by simp [hp], e2⟩
      · rintro (h | ⟨j, e1, p, hp, e2⟩)
        · exact .inl (.inl (.inl (.inl h)))
        · rcases List.mem_cons.1 hp with rfl | hp
          · rcases e2 with e2 | ⟨e2, e3⟩ | ⟨e2, e3⟩ | ⟨e2, _⟩
            · exact .inl (.inl (.inl (.inr ⟨j, e1, e2⟩)))
            · exact .inl (.inl (.inr ⟨e2, by rw [e1, e3]⟩))
            · exact .inl (.inr ⟨e2, by rw [e1, e3]⟩)
            · exact absurd e2 h4
          · exact .inr ⟨j, e1, p, hp, e2⟩

end Go.Proofs.YtbbfjjjnifomgaaGreatDoor.A



/- What the document's 'lay' writes: the free steps and the sets of an expression's machine. -/
namespace Go.Proofs.YtbbfjjjnifomgaaGreatDoor.A

theorem layM_one {n : Nat} {t : Ex (n + 1)} (h : kd t = 1) (b : Nat) (m : Mc) : layM (n + 1) t b m = ⟨m.fr, fun i => if i = b then A.st t else m.st i, fun i => if i = b then ((b + 2 * realN (n + 1) t - 1 : Nat) : Int) else m.to i⟩ := by
  show (if kd t = 1 then _ else _) = _
  rw [if_pos h]
theorem layM_two {n : Nat} {t : Ex (n + 1)} (h : kd t = 2) (b : Nat) (m : Mc) : layM (n + 1) t b m = addF ((ks t).foldl (layR (layM n) 2 b (b + 2 * realN (n + 1) t - 1)) (m, b + 1, b)).1 ((ks t).foldl (layR (layM n) 2 b (b + 2 * realN (n + 1) t - 1)) (m, b + 1, b)).2.2 (b + 2 * realN (n + 1) t - 1) := by
  show (if kd t = 1 then _ else if kd t = 2 then _ else _) = _
  rw [if_neg (by omega), if_pos h]
theorem layM_three {n : Nat} {t : Ex (n + 1)} (h : kd t = 3) (b : Nat) (m : Mc) : layM (n + 1) t b m = ((ks t).foldl (layR (layM n) 3 b (b + 2 * realN (n + 1) t - 1)) (m, b + 1, b)).1 := by
  show (if kd t = 1 then _ else if kd t = 2 then _ else if kd t = 3 then _ else _) = _
  rw [if_neg (by omega), if_neg (by omega), if_pos h]
theorem layM_else {n : Nat} {t : Ex (n + 1)} (h1 : kd t ≠ 1) (h2 : kd t ≠ 2) (h3 : kd t ≠ 3) (b : Nat) (m : Mc) : layM (n + 1) t b m = ((ks t).foldl (layR (layM n) (kd t) b (b + 2 * realN (n + 1) t - 1)) (addF m b (b + 2 * realN (n + 1) t - 1), b + 1, b)).1 := by
  show (if kd t = 1 then _ else if kd t = 2 then _ else if kd t = 3 then _ else _) = _
  rw [if_neg h1, if_neg h2, if_neg h3]
theorem ok_kind {k s l : Nat} (h : okE k s l = true) : k = 0 ∨ k = 1 ∨ k = 2 ∨ k = 3 ∨ k = 4 ∨ k = 5 := by
  unfold okE at h
  simp only [Bool.or_eq_true, Bool.and_eq_true, decide_eq_true_eq] at h
  omega

/-- The free steps that lay adds are those of the expression's machine. -/
theorem lay_fr : ∀ (n : Nat) (t : Ex n), full n t → shapesE n t = true → Adds (layM n) (Fr n) t
  | 0, _, h, _ => h.elim
  | n + 1, t, hf, hs => by
    obtain ⟨hok, hsh⟩ := shapes_open hs
    have hx : ∀ x ∈ ks t, Adds (layM n) (Fr n) x ∧ 1 ≤ realN n x := fun x hx => ⟨lay_fr n x (hf x hx) (hsh x hx), real_pos (hf x hx)⟩
    intro b m i z
    rcases ok_kind hok with k | k | k | k | k | k
    · have hl : ks t = [] := List.eq_nil_of_length_eq_zero (ok_none hok (.inl k))
      rw [layM_else (by omega) (by omega) (by omega), hl]
      show z ∈ (addF m b (b + 2 * realN (n + 1) t - 1)).fr i ↔ _
      rw [mem_addF]
      constructor
      · rintro (h | ⟨h1, h2⟩)
        · exact .inl h
        · exact .inr ⟨_, h2, .inr (.inl ⟨k, h1, rfl⟩)⟩
      · rintro (h | ⟨j, e, h⟩)
        · exact .inl h
        · rcases h with ⟨p, hp, _⟩ | ⟨_, h1, h2⟩ | ⟨h, _⟩ | ⟨h, _⟩ | ⟨h, _⟩ | ⟨h, _⟩
          · rw [hl] at hp; cases hp
          · exact .inr ⟨h1, by rw [e, h2]⟩
          all_goals omega
    · have hl : ks t = [] := List.eq_nil_of_length_eq_zero (ok_none hok (.inr k))
      rw [layM_one k]
      show z ∈ m.fr i ↔ _
      constructor
      · exact .inl
      · rintro (h | ⟨j, e, h⟩)
        · exact h
        · rcases h with ⟨p, hp, _⟩ | ⟨h, _⟩ | ⟨h, _⟩ | ⟨h, _⟩ | ⟨h, _⟩ | ⟨h, _⟩
          · rw [hl] at hp; cases hp
          all_goals omega
    · rw [layM_two k, lay_two b _ (ks t) m (b + 1) b i z hx]
      constructor
      · rintro (h | ⟨j, e, h | h⟩)
        · exact .inl h
        · exact .inr ⟨j, e, .inl h⟩
        · exact .inr ⟨j, e, .inr (.inr (.inl ⟨k, h⟩))⟩
      · rintro (h | ⟨j, e, h⟩)
        · exact .inl h
        · rcases h with h | ⟨h, _⟩ | ⟨_, h⟩ | ⟨h, _⟩ | ⟨h, _⟩ | ⟨h, _⟩
          · exact .inr ⟨j, e, .inl h⟩
          · omega
          · exact .inr ⟨j, e, .inr h⟩
          all_goals omega
    · rw [layM_three k, lay_more 3 b _ (by omega) (ks t) m (b + 1) b i z hx]
      constructor
      · rintro (h | ⟨j, e, p, hp, h | h | h | ⟨h, _⟩⟩)
        · exact .inl h
        · exact .inr ⟨j, e, .inl ⟨p, hp, h⟩⟩
        · exact .inr ⟨j, e, .inr (.inr (.inr (.inl ⟨k, p, hp, .inl h⟩)))⟩
        · exact .inr ⟨j, e, .inr (.inr (.inr (.inl ⟨k, p, hp, .inr h⟩)))⟩
        · omega
      · rintro (h | ⟨j, e, h⟩)
        · exact .inl h
        · rcases h with ⟨p, hp, h⟩ | ⟨h, _⟩ | ⟨h, _⟩ | ⟨_, p, hp, h⟩ | ⟨h, _⟩ | ⟨h, _⟩
          · exact .inr ⟨j, e, p, hp, .inl h⟩
          · omega
          · omega
          · rcases h with h | h
            · exact .inr ⟨j, e, p, hp, .inr (.inl h)⟩
            · exact .inr ⟨j, e, p, hp, .inr (.inr (.inl h))⟩
          all_goals omega
    · have hl := ok_one hok (.inl k)
      rw [layM_else (by omega) (by omega) (by omega), k, lay_more 4 b _ (by omega) (ks t) _ (b + 1) b i z hx, mem_addF]
      have hp1 : ∃ p, p ∈ layE (b + 1) (ks t) := by
        cases hc : ks t with
        | nil => rw [hc] at hl; simp at hl
        | cons x r => exact ⟨(b + 1, x), by show (b + 1, x) ∈ (b + 1, x) :: _; simp⟩
      obtain ⟨p1, hp1⟩ := hp1
      constructor
      · rintro ((h | ⟨h1, h2⟩) | ⟨j, e, p, hp, h | h | h | ⟨_, h⟩⟩)
        · exact .inl h
        · exact .inr ⟨_, h2, .inr (.inr (.inr (.inr (.inl ⟨k, p1, hp1, .inr (.inl ⟨h1, rfl⟩)⟩))))⟩
        · exact .inr ⟨j, e, .inl ⟨p, hp, h⟩⟩
        · exact .inr ⟨j, e, .inr (.inr (.inr (.inr (.inl ⟨k, p, hp, .inl h⟩))))⟩
        · exact .inr ⟨j, e, .inr (.inr (.inr (.inr (.inl ⟨k, p, hp, .inr (.inr (.inr h))⟩))))⟩
        · exact .inr ⟨j, e, .inr (.inr (.inr (.inr (.inl ⟨k, p, hp, .inr (.inr (.inl h))⟩))))⟩
      · rintro (h | ⟨j, e, h⟩)
        · exact .inl (.inl h)
        · rcases h with ⟨p, hp, h⟩ | ⟨h, _⟩ | ⟨h, _⟩ | ⟨h, _⟩ | ⟨_, p, hp, h⟩ | ⟨h, _⟩
          · exact .inr ⟨j, e, p, hp, .inl h⟩
          · omega
          · omega
          · omega
          · rcases h with h | ⟨h, h'⟩ | h | h
            · exact .inr ⟨j, e, p, hp, .inr (.inl h)⟩
            · exact .inl (.inr ⟨h, by rw [e, h']⟩)
            · exact .inr ⟨j, e, p, hp, .inr (.inr (.inr ⟨rfl, h⟩))⟩
            · exact .inr ⟨j, e, p, hp, .inr (.inr (.inl h))⟩
          · omega
    · have hl := ok_one hok (.inr k)
      rw [layM_else (by omega) (by omega) (by omega), k, lay_more 5 b _ (by omega) (ks t) _ (b + 1) b i z hx, mem_addF]
      have hp1 : ∃ p, p ∈ layE (b + 1) (ks t) := by
        cases hc : ks t with
        | nil => rw [hc] at hl; simp at hl
        | cons x r => exact ⟨(b + 1, x), by show (b + 1, x) ∈ (b + 1, x) :: _; simp⟩
      obtain ⟨p1, hp1⟩ := hp1
      constructor
      · rintro ((h | ⟨h1, h2⟩) | ⟨j, e, p, hp, h | h | h | ⟨h, _⟩⟩)
        · exact .inl h
        · exact .inr ⟨_, h2, .inr (.inr (.inr (.inr (.inr ⟨k, p1, hp1, .inr (.inl ⟨h1, rfl⟩)⟩))))⟩
        · exact .inr ⟨j, e, .inl ⟨p, hp, h⟩⟩
        · exact .inr ⟨j, e, .inr (.inr (.inr (.inr (.inr ⟨k, p, hp, .inl h⟩))))⟩
        · exact .inr ⟨j, e, .inr (.inr (.inr (.inr (.inr ⟨k, p, hp, .inr (.inr h)⟩))))⟩
        · omega
      · rintro (h | ⟨j, e, h⟩)
        · exact .inl (.inl h)
        · rcases h with ⟨p, hp, h⟩ | ⟨h, _⟩ | ⟨h, _⟩ | ⟨h, _⟩ | ⟨h, _⟩ | ⟨_, p, hp, h⟩
          · exact .inr ⟨j, e, p, hp, .inl h⟩
          · omega
          · omega
          · omega
          · omega
          · rcases h with h | ⟨h, h'⟩ | h
            · exact .inr ⟨j, e, p, hp, .inr (.inl h)⟩
            · exact .inl (.inr ⟨h, by rw [e, h']⟩)
            · exact .inr ⟨j, e, p, hp, .inr (.inr (.inl h))⟩

/-- Rising lists stay rising. -/
def Rising (m : Mc) : Prop := ∀ i, (m.fr i).Pairwise (· < ·)
theorem addF_rising {m : Mc} (h : Rising m) (a x : Nat) : Rising (addF m a x) := fun i => by
  show (if i = a then intoL (m.fr a) (x : Int) else m.fr i).Pairwise (· < ·)
  split
  · exact into_sorted _ (h a)
  · exact h i
theorem layR_rising {n : Nat} {lay1 : Ex n → Nat → Mc → Mc} (h1 : ∀ x b m, Rising m → Rising (lay1 x b m)) (kind b e : Nat) : ∀ (l : List (Ex n)) (q : Mc × Nat × Nat), Rising q.1 → Rising (l.foldl (layR lay1 kind b e) q).1
  | [], _, h => h
  | x :: l, q, h => by
    rw [List.foldl_cons]
    refine layR_rising h1 kind b e l _ ?_
    unfold layR
    split
    · exact addF_rising (h1 _ _ _ h) _ _
    · split
      · exact addF_rising (addF_rising (addF_rising (h1 _ _ _ h) _ _) _ _) _ _
      · exact addF_rising (addF_rising (h1 _ _ _ h) _ _) _ _
theorem lay_rising : ∀ (n : Nat) (t : Ex n) (b : Nat) (m : Mc), Rising m → Rising (layM n t b m)
  | 0, _, _, _, h => h
  | n + 1, t, b, m, h => by
    by_cases k1 : kd t = 1
    · rw [layM_one k1]; exact h
    by_cases k2 : kd t = 2
    · rw [layM_two k2]; exact addF_rising (layR_rising (lay_rising n) _ _ _ _ _ h) _ _
    by_cases k3 : kd t = 3
    · rw [layM_three k3]; exact layR_rising (lay_rising n) _ _ _ _ _ h
    rw [layM_else k1 k2 k3]
    exact layR_rising (lay_rising n) _ _ _ _ _ (addF_rising h _ _)

end Go.Proofs.YtbbfjjjnifomgaaGreatDoor.A


