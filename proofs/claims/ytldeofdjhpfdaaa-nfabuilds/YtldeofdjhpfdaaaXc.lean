/- The machine of an expression, and of several: what is come to. Plain mathematics. -/
import Derived.Test.YtldeofdjhpfdaaaXb
namespace Go.Proofs.Ytldeofdjhpfdaaa.A
set_option linter.unusedVariables false

/-- A step by a set, within parts, one behind the other. -/
theorem chain_step (word : List Int) {n : Nat} {s' : Nat} :
    ∀ (l : List (Ex n)) (s i0 q q' i : Nat), (∀ x ∈ l, ∀ (b i0 q q' i : Nat), AtE word n x b i0 q i → Sp n x b q s' q' → (∃ c, word[i]? = some c ∧ inS s' c = true) → AtE word n x b i0 q' (i + 1)) → (∀ x ∈ l, full n x) → (∃ c, word[i]? = some c ∧ inS s' c = true) →
      AtC (Mt word n) (AtE word n) (layE s l) i0 q i → (∃ p ∈ layE s l, Sp n p.2 p.1 q s' q') → AtC (Mt word n) (AtE word n) (layE s l) i0 q' (i + 1)
  | [], s, i0, q, q', i, _, _, _, h, _ => h.elim
  | x :: l, s, i0, q, q', i, hc, hf, hw, h, ⟨p, hp, g⟩ => by
    have hx : full n x := hf x (by simp)
    have hr := real_pos hx
    have hf' : ∀ y ∈ l, full n y := fun y hy => hf y (by simp [hy])
    rcases List.mem_cons.1 (show p ∈ (s, x) :: layE (s + 2 * realN n x) l from hp) with rfl | hp
    · have gr := sp_rng n x s q s' q' hx g
      rcases h with h | ⟨j, h1, h2⟩
      · exact .inl (hc x (by simp) s i0 q q' i h g hw)
      · obtain ⟨p', hp', j', hat⟩ := atc_in _ _ _ _ h2
        obtain ⟨b1, _, b3⟩ := lay_rng _ _ _ hp'
        have hq := ate_rng word n p'.2 p'.1 j' q i (hf' _ b3) hat
        omega
    · obtain ⟨b1, _, b3⟩ := lay_rng _ _ _ hp
      have gr := sp_rng n p.2 p.1 q s' q' (hf' _ b3) g
      rcases h with h | ⟨j, h1, h2⟩
      · have hq := ate_rng word n x s i0 q i hx h
        have hq2 : q ≤ s + 2 * realN n x - 1 := hq.2
        omega
      · exact .inr ⟨j, h1, chain_step word l _ j q q' i (fun y hy => hc y (by simp [hy])) hf' hw h2 ⟨p, hp, g⟩⟩
/-- A step by a set. -/
theorem ate_step (word : List Int) {s' : Nat} : ∀ (n : Nat) (t : Ex n) (b i0 q q' i : Nat), full n t → shapesE n t = true → AtE word n t b i0 q i → Sp n t b q s' q' → (∃ c, word[i]? = some c ∧ inS s' c = true) → AtE word n t b i0 q' (i + 1)
  | 0, _, _, _, _, _, _, h, _, _, _, _ => h.elim
  | n + 1, t, b, i0, q, q', i, hf, hsh, ⟨hi, h⟩, g, hw => by
    obtain ⟨hok, hks⟩ := shapes_open hsh
    have hrn := sp_rng (n + 1) t b q s' q' hf g
    have hcl : ∀ x ∈ ks t, ∀ (b i0 q q' i : Nat), AtE word n x b i0 q i → Sp n x b q s' q' → (∃ c, word[i]? = some c ∧ inS s' c = true) → AtE word n x b i0 q' (i + 1) := fun x hx b i0 q q' i h g hw => ate_step word n x b i0 q q' i (hf x hx) (hks x hx) h g hw
    refine ⟨hi, ?_⟩
    have inb : ∀ p ∈ layE (b + 1) (ks t), Sp n p.2 p.1 q s' q' → b < q ∧ p.1 ≤ q ∧ q < en p := fun p hp g => by
      obtain ⟨a1, a2, a3, a4, _, _⟩ := lay_in hf hp
      have := sp_rng n p.2 p.1 q s' q' a4 g
      unfold en
      omega
    have atp : ∀ p ∈ layE (b + 1) (ks t), ∀ j, AtE word n p.2 p.1 j q i → b < q ∧ p.1 ≤ q ∧ q ≤ en p := fun p hp j h => by
      obtain ⟨a1, a2, a3, a4, _, _⟩ := lay_in hf hp
      have := ate_rng word n p.2 p.1 j q i a4 h
      unfold en
      omega
    have none1 : kd t = 1 → layE (b + 1) (ks t) = [] := fun hk => by
      have hl := ok_none hok (.inr hk)
      match hx : ks t, hl with
      | [], _ => rfl
    rcases g with ⟨k1, e1, e2, e3⟩ | ⟨p', hp', g⟩
    · rcases h with ⟨rfl, rfl⟩ | ⟨e, _⟩ | ⟨k2, h⟩ | ⟨k3, _⟩ | ⟨k4, _⟩ | ⟨k5, _⟩
      · obtain ⟨c, hc1, hc2⟩ := hw
        rw [e2] at hc2
        exact .inr (.inl ⟨e3, hi, .inr (.inl ⟨k1, rfl, c, hc1, hc2⟩)⟩)
      all_goals omega
    · have r2 := inb p' hp' g
      rcases h with ⟨rfl, _⟩ | ⟨e, _⟩ | ⟨k2, h⟩ | ⟨k3, p, hp, h⟩ | ⟨k4, p, hp, m, j, hm, h⟩ | ⟨k5, p, hp, h⟩
      · omega
      · omega
      · exact .inr (.inr (.inl ⟨k2, chain_step word (ks t) (b + 1) i0 q q' i hcl hf hw h ⟨p', hp', g⟩⟩))
      · have r1 := atp p hp i0 h
        obtain rfl := lay_uniq (ks t) _ q p p' hf hp hp' r1.2.1 r1.2.2 r2.2.1 (by omega)
        exact .inr (.inr (.inr (.inl ⟨k3, p, hp, hcl _ (lay_in hf hp).2.2.2.2.1 _ _ _ _ _ h g hw⟩)))
      · have hp0 := head_in hp
        have r1 := atp p hp0 j h
        obtain rfl := lay_uniq (ks t) _ q p p' hf hp0 hp' r1.2.1 r1.2.2 r2.2.1 (by omega)
        exact .inr (.inr (.inr (.inr (.inl ⟨k4, p, hp, m, j, hm, hcl _ (lay_in hf hp0).2.2.2.2.1 _ _ _ _ _ h g hw⟩))))
      · have hp0 := head_in hp
        have r1 := atp p hp0 i0 h
        obtain rfl := lay_uniq (ks t) _ q p p' hf hp0 hp' r1.2.1 r1.2.2 r2.2.1 (by omega)
        exact .inr (.inr (.inr (.inr (.inr ⟨k5, p, hp, hcl _ (lay_in hf hp0).2.2.2.2.1 _ _ _ _ _ h g hw⟩))))

/-- The machine of expressions: its free steps, and those by a set. -/
def FrA {n : Nat} (ts : List (Ex n)) (q q' : Nat) : Prop := ∃ p ∈ layE 1 ts, (q = 0 ∧ q' = p.1) ∨ Fr n p.2 p.1 q q'
def SpA {n : Nat} (ts : List (Ex n)) (q s q' : Nat) : Prop := ∃ p ∈ layE 1 ts, Sp n p.2 p.1 q s q'
/-- What is come to in it is come to in one of its expressions. -/
theorem way_in (word : List Int) {n : Nat} {ts : List (Ex n)} (hf : ∀ x ∈ ts, full n x) (hsh : ∀ x ∈ ts, shapesE n x = true) {q i : Nat} (h : Wy word (FrA ts) (SpA ts) 0 0 q i) : (q = 0 ∧ i = 0) ∨ ∃ p ∈ layE 1 ts, AtE word n p.2 p.1 0 q i := by
  induction h with
  | here => exact .inl ⟨rfl, rfl⟩
  | free _ g ih =>
    obtain ⟨p, hp, g⟩ := g
    obtain ⟨b1, _, b3⟩ := lay_rng _ _ _ hp
    rcases ih with ⟨rfl, rfl⟩ | ⟨p', hp', ih⟩
    · rcases g with ⟨_, rfl⟩ | g
      · exact .inr ⟨p, hp, ate_begin word p.1 0 (hf _ b3) (Nat.zero_le _)⟩
      · have := fr_rng n p.2 p.1 _ _ (hf _ b3) g; omega
    · obtain ⟨c1, _, c3⟩ := lay_rng _ _ _ hp'
      have r1 := ate_rng word n p'.2 p'.1 _ _ _ (hf _ c3) ih
      rcases g with ⟨e, _⟩ | g
      · omega
      · have r2 := fr_rng n p.2 p.1 _ _ (hf _ b3) g
        obtain rfl := lay_uniq ts _ _ p' p hf hp' hp r1.1 (by unfold en; omega) r2.1 (by unfold en; omega)
        exact .inr ⟨p', hp', ate_free word n _ _ _ _ _ _ (hf _ c3) (hsh _ c3) ih g⟩
  | step _ g hc hin ih =>
    obtain ⟨p, hp, g⟩ := g
    obtain ⟨b1, _, b3⟩ := lay_rng _ _ _ hp
    rcases ih with ⟨rfl, rfl⟩ | ⟨p', hp', ih⟩
    · have := sp_rng n p.2 p.1 _ _ _ (hf _ b3) g; omega
    · obtain ⟨c1, _, c3⟩ := lay_rng _ _ _ hp'
      have r1 := ate_rng word n p'.2 p'.1 _ _ _ (hf _ c3) ih
      have r2 := sp_rng n p.2 p.1 _ _ _ (hf _ b3) g
      obtain rfl := lay_uniq ts _ _ p' p hf hp' hp r1.1 (by unfold en; omega) r2.1 (by unfold en; omega)
      exact .inr ⟨p', hp', ate_step word n _ _ _ _ _ _ (hf _ c3) (hsh _ c3) ih g ⟨_, hc, hin⟩⟩
/-- At an expression's end one comes by its words alone. -/
theorem way_end (word : List Int) {n : Nat} {ts : List (Ex n)} (hf : ∀ x ∈ ts, full n x) (hsh : ∀ x ∈ ts, shapesE n x = true) {p : Nat × Ex n} (hp : p ∈ layE 1 ts) (i : Nat) : Wy word (FrA ts) (SpA ts) 0 0 (en p) i ↔ Mt word n p.2 0 i := by
  obtain ⟨b1, _, b3⟩ := lay_rng _ _ _ hp
  have hr := real_pos (hf _ b3)
  constructor
  · intro h
    rcases way_in word hf hsh h with ⟨e, _⟩ | ⟨p', hp', h⟩
    · unfold en at e; omega
    · obtain ⟨c1, _, c3⟩ := lay_rng _ _ _ hp'
      have r1 := ate_rng word n p'.2 p'.1 _ _ _ (hf _ c3) h
      obtain rfl := lay_uniq ts _ (en p) p' p hf hp' hp r1.1 (by unfold en at r1 ⊢; omega) (by unfold en; omega) (Nat.le_refl _)
      exact ate_end word (hf _ c3) h
  · intro h
    have w1 : Wy word (FrA ts) (SpA ts) 0 0 p.1 0 := Wy.here.free ⟨p, hp, .inl ⟨rfl, rfl⟩⟩
    exact w1.trans (way_of n p.2 word p.1 0 i _ _ h (fun a c g => ⟨p, hp, .inr g⟩) (fun a s c g => ⟨p, hp, g⟩))
end Go.Proofs.Ytldeofdjhpfdaaa.A
