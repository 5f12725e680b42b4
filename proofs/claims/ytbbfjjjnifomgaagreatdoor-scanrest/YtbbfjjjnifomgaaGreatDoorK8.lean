/- Ahead of layer 6: the document's Right of a machine. -/
import Derived.WalkKit
import Derived.ProofKit
import Derived.Outline
import Derived.BigQuiet
import Derived.Deep.QuietTactic
import Derived.Below
import Derived.Deep.RegionHeld3
import Derived.OpenShut
import Derived.Deep.Slices
import Derived.Deep.Strs
import Derived.Deep.OwnRows
import Derived.Deep.WholeRow
import Derived.Laws.AppendOwnNone
import Derived.Deep.AppendSrc
import Derived.Deep.Heap
import Derived.Test.YtbbfjjjnifomgaaGreatDoorK4
import Derived.Test.YtbbfjjjnifomgaaGreatDoorK1
import Derived.Test.YtbbfjjjnifomgaaGreatDoorK3
namespace Go.Proofs.YtbbfjjjnifomgaaGreatDoor.A
open Go.RowKit

/-- A state that may be, among N. -/
def okS (N : Nat) (r : Int) (s : Nat) (t : Int) (l : List Int) : Bool := decide (-1 ≤ r) && (decide (r ≤ 15) && ((s == 0 || (decide (0 ≤ t) && decide (t < (N : Int)))) && l.all fun z => decide (0 ≤ z) && decide (z < (N : Int))))
def okSt (fs : List (List Int)) (ss : List Nat) (ts rs : List Int) (N i : Nat) : Bool := match rs[i]?, ss[i]?, ts[i]?, fs[i]? with
  | some r, some s, some t, some l => okS N r s t l
  | _, _, _, _ => false
/-- May a machine be? -/
def rightN (fs : List (List Int)) (ss : List Nat) (ts rs : List Int) : Bool := decide (1 ≤ fs.length) && (decide (fs.length ≤ 3300) && (decide (ss.length = fs.length) && (decide (ts.length = fs.length) && (decide (rs.length = fs.length) && (List.range fs.length).all (okSt fs ss ts rs fs.length)))))
theorem okSt_at {fs : List (List Int)} {ss : List Nat} {ts rs : List Int} {N i : Nat} {r : Int} {s : Nat} {t : Int} {l : List Int} (hr : rs[i]? = some r) (hs : ss[i]? = some s) (ht : ts[i]? = some t) (hl : fs[i]? = some l) : okSt fs ss ts rs N i = okS N r s t l := by
  unfold okSt; rw [hr, hs, ht, hl]
theorem right_not {fs : List (List Int)} {ss : List Nat} {ts rs : List Int} {i : Nat} (hi : i < fs.length) (h : okSt fs ss ts rs fs.length i = false) : rightN fs ss ts rs = false := by
  have : (List.range fs.length).all (okSt fs ss ts rs fs.length) = false := by
    rw [List.all_eq_false]; exact ⟨i, by simp [hi], by simp [h]⟩
  unfold rightN; rw [this]; simp
theorem right_yes {fs : List (List Int)} {ss : List Nat} {ts rs : List Int} (h1 : 1 ≤ fs.length) (h2 : fs.length ≤ 3300) (h3 : ss.length = fs.length) (h4 : ts.length = fs.length) (h5 : rs.length = fs.length) (h : ∀ i, i < fs.length → okSt fs ss ts rs fs.length i = true) : rightN fs ss ts rs = true := by
  unfold rightN
  have : (List.range fs.length).all (okSt fs ss ts rs fs.length) = true := by
    rw [List.all_eq_true]; intro i hi; exact h i (by simpa using hi)
  rw [this]; simp [h1, h2, h3, h4, h5]

end Go.Proofs.YtbbfjjjnifomgaaGreatDoor.A



/- Ahead of layer 6: the document's 'into': a number into rising ones, once. -/
namespace Go.Proofs.YtbbfjjjnifomgaaGreatDoor.A
open Go.RowKit

/-- A number into rising ones, once. -/
def intoL : List Int → Int → List Int
  | [], x => [x]
  | a :: r, x => if a < x then a :: intoL r x else if a = x then a :: r else x :: a :: r
theorem into_mem (l : List Int) (x z : Int) : z ∈ intoL l x ↔ z = x ∨ z ∈ l := by
  induction l with
  | nil => simp [intoL]
  | cons a r ih =>
    unfold intoL
    split
    · rw [List.mem_cons, ih, List.mem_cons]
      constructor
      · rintro (h | h | h)
        · exact .inr (.inl h)
        · exact .inl h
        · exact .inr (.inr h)
      · rintro (h | h | h)
        · exact .inr (.inl h)
        · exact .inl h
        · exact .inr (.inr h)
    · split
      · rename_i h; subst h; simp
      · simp
theorem into_sorted {l : List Int} (x : Int) (h : l.Pairwise (· < ·)) : (intoL l x).Pairwise (· < ·) := by
  induction l with
  | nil => simp [intoL]
  | cons a r ih =>
    rw [List.pairwise_cons] at h
    unfold intoL
    split
    · rename_i q
      rw [List.pairwise_cons]
      refine ⟨fun z hz => ?_, ih h.2⟩
      rcases (into_mem r x z).1 hz with rfl | hz
      · exact q
      · exact h.1 z hz
    · split
      · rw [List.pairwise_cons]; exact h
      · rename_i q1 q2
        rw [List.pairwise_cons, List.pairwise_cons]
        refine ⟨fun z hz => ?_, h⟩
        rcases List.mem_cons.1 hz with rfl | hz
        · omega
        · have := h.1 z hz; omega
theorem one_ints (l : List Int) : ∀ u ∈ l.map (Value.int .i64), u.oneCell' = true := by
  intro u hu
  obtain ⟨z, _, rfl⟩ := List.mem_map.1 hu
  rfl

end Go.Proofs.YtbbfjjjnifomgaaGreatDoor.A



/- Ahead of layer 6: a row of numbers at a value, and 'into' upon it. -/
namespace Go.Proofs.YtbbfjjjnifomgaaGreatDoor.A
open Go.RowKit

/-- Numbers at a slice, nil or not. -/
def Row (w : World) (base : Nat) (v : Value) (l : List Int) : Prop := (v = .slice none 0 0 ∧ l = []) ∨ ∃ b off cap, base ≤ b ∧ v = .slice (some ⟨b, off, none⟩) l.length cap ∧ l.length ≤ cap ∧ Wd w (some ⟨b, off, none⟩) l
theorem own_row {w : World} {base : Nat} {v : Value} {l : List Int} (h : w.ownsRow base 3 1 v l.length (l.map (Value.int .i64))) : Row w base v l := by
  obtain ⟨_, h | ⟨g, cap, cur, h1, h2, h3, h4, _, _, h7⟩⟩ := h
  · exact .inl ⟨h.1, List.eq_nil_of_length_eq_zero h.2⟩
  · refine .inr ⟨g, 0, cap, h2, h1, h4, fun i c hc => ⟨g, 0, rfl, ?_⟩⟩
    rw [cell_of_row _ _ (0 + i) _ _ _ h3, Nat.zero_add, ← Array.getElem?_toList]
    have hlt := (List.getElem?_eq_some_iff.1 hc).1
    have e : (cur.toList.take (l.length * 1))[i]? = (l.map (Value.int .i64))[i]? := by rw [h7]
    rw [List.getElem?_take_of_lt (by omega), List.getElem?_map, hc] at e
    exact e
end Go.Proofs.YtbbfjjjnifomgaaGreatDoor.A



/- The machine of an expression, as steps between states: plain mathematics. -/
namespace Go.Proofs.YtbbfjjjnifomgaaGreatDoor.A
set_option linter.unusedVariables false
theorem real_pos {n : Nat} {t : Ex n} (h : full n t) : 1 ≤ realN n t := by
  cases n with
  | zero => exact h.elim
  | succ n => show 1 ≤ 1 + _; omega

/-- The last state of an expression that begins somewhere. -/
def en {n : Nat} (p : Nat × Ex n) : Nat := p.1 + 2 * realN n p.2 - 1
/-- Parts, each with the state at which it begins. -/
def layE {n : Nat} : Nat → List (Ex n) → List (Nat × Ex n)
  | _, [] => []
  | b, x :: r => (b, x) :: layE (b + 2 * realN n x) r
/-- From each part to the next. -/
def Cj {n : Nat} : Nat → List (Nat × Ex n) → Nat → Nat → Nat → Prop
  | last, [], e, i, j => i = last ∧ j = e
  | last, p :: r, e, i, j => (i = last ∧ j = p.1) ∨ Cj (en p) r e i j
/-- The free steps. -/
def Fr : (n : Nat) → Ex n → Nat → Nat → Nat → Prop
  | 0, _, _, _, _ => False
  | n + 1, t, b, i, j => (∃ p ∈ layE (b + 1) (ks t), Fr n p.2 p.1 i j) ∨ (kd t = 0 ∧ i = b ∧ j = b + 2 * realN (n + 1) t - 1) ∨
      (kd t = 2 ∧ Cj b (layE (b + 1) (ks t)) (b + 2 * realN (n + 1) t - 1) i j) ∨
      (kd t = 3 ∧ ∃ p ∈ layE (b + 1) (ks t), (i = b ∧ j = p.1) ∨ (i = en p ∧ j = b + 2 * realN (n + 1) t - 1)) ∨
      (kd t = 4 ∧ ∃ p ∈ layE (b + 1) (ks t), (i = b ∧ j = p.1) ∨ (i = b ∧ j = b + 2 * realN (n + 1) t - 1) ∨ (i = en p ∧ j = p.1) ∨ (i = en p ∧ j = b + 2 * realN (n + 1) t - 1)) ∨
      (kd t = 5 ∧ ∃ p ∈ layE (b + 1) (ks t), (i = b ∧ j = p.1) ∨ (i = b ∧ j = b + 2 * realN (n + 1) t - 1) ∨ (i = en p ∧ j = b + 2 * realN (n + 1) t - 1))
/-- The steps by a set. -/
def Sp : (n : Nat) → Ex n → Nat → Nat → Nat → Nat → Prop
  | 0, _, _, _, _, _ => False
  | n + 1, t, b, i, s, j => (kd t = 1 ∧ i = b ∧ s = st t ∧ j = b + 2 * realN (n + 1) t - 1) ∨ ∃ p ∈ layE (b + 1) (ks t), Sp n p.2 p.1 i s j

theorem real_eq {n : Nat} (t : Ex (n + 1)) : realN (n + 1) t = 1 + ((ks t).map (fun x => realN n x)).sum := rfl
theorem lay_rng {n : Nat} : ∀ (l : List (Ex n)) (s : Nat) (p : Nat × Ex n), p ∈ layE s l → s ≤ p.1 ∧ p.1 + 2 * realN n p.2 ≤ s + 2 * (l.map (fun x => realN n x)).sum ∧ p.2 ∈ l
  | [], s, p, h => by cases h
  | x :: r, s, p, h => by
    rw [List.map_cons, List.sum_cons]
    rcases List.mem_cons.1 h with rfl | h
    · exact ⟨Nat.le_refl _, by show s + 2 * realN n x ≤ _; omega, by simp⟩
    · obtain ⟨h1, h2, h3⟩ := lay_rng r _ p h
      exact ⟨by omega, by omega, by simp [h3]⟩
theorem lay_in {n : Nat} {t : Ex (n + 1)} (h : full (n + 1) t) {b : Nat} {p : Nat × Ex n} (hp : p ∈ layE (b + 1) (ks t)) : b < p.1 ∧ p.1 ≤ en p ∧ en p < b + 2 * realN (n + 1) t - 1 ∧ full n p.2 ∧ p.2 ∈ ks t ∧ 1 ≤ realN n p.2 := by
  obtain ⟨h1, h2, h3⟩ := lay_rng _ _ _ hp
  have hf : full n p.2 := h _ h3
  have hr := real_pos hf
  have e := real_eq t
  unfold en
  exact ⟨by omega, by omega, by omega, hf, h3, hr⟩
theorem cj_src {n : Nat} : ∀ (l : List (Nat × Ex n)) (last e i j : Nat), Cj last l e i j → i = last ∨ ∃ p ∈ l, i = en p
  | [], last, e, i, j, h => .inl h.1
  | p :: r, last, e, i, j, h => by
    rcases h with h | h
    · exact .inl h.1
    · rcases cj_src r _ e i j h with h | ⟨q, hq, h⟩
      · exact .inr ⟨p, by simp, h⟩
      · exact .inr ⟨q, by simp [hq], h⟩
theorem cj_dst {n : Nat} : ∀ (l : List (Nat × Ex n)) (last e i j : Nat), Cj last l e i j → j = e ∨ ∃ p ∈ l, j = p.1
  | [], last, e, i, j, h => .inl h.2
  | p :: r, last, e, i, j, h => by
    rcases h with h | h
    · exact .inr ⟨p, by simp, h.2⟩
    · rcases cj_dst r _ e i j h with h | ⟨q, hq, h⟩
      · exact .inl h
      · exact .inr ⟨q, by simp [hq], h⟩
theorem fr_rng : ∀ (n : Nat) (t : Ex n) (b i j : Nat), full n t → Fr n t b i j → b ≤ i ∧ i < b + 2 * realN n t - 1 ∧ b < j ∧ j ≤ b + 2 * realN n t - 1
  | 0, _, _, _, _, h, _ => h.elim
  | n + 1, t, b, i, j, hf, h => by
    have hr := real_pos hf
    rcases h with ⟨p, hp, h⟩ | ⟨_, rfl, rfl⟩ | ⟨_, h⟩ | ⟨_, p, hp, h⟩ | ⟨_, p, hp, h⟩ | ⟨_, p, hp, h⟩
    · obtain ⟨a1, a2, a3, a4, _, _⟩ := lay_in hf hp
      have := fr_rng n p.2 p.1 i j a4 h
      unfold en at a2 a3
      omega
    · omega
    · have s := cj_src _ _ _ _ _ h
      have d := cj_dst _ _ _ _ _ h
      have hs : b ≤ i ∧ i < b + 2 * realN (n + 1) t - 1 := by
        rcases s with rfl | ⟨p, hp, rfl⟩
        · omega
        · obtain ⟨a1, a2, a3, _⟩ := lay_in hf hp; omega
      have hd : b < j ∧ j ≤ b + 2 * realN (n + 1) t - 1 := by
        rcases d with rfl | ⟨p, hp, rfl⟩
        · omega
        · obtain ⟨a1, a2, a3, _⟩ := lay_in hf hp; omega
      exact ⟨hs.1, hs.2, hd.1, hd.2⟩
    all_goals
      obtain ⟨a1, a2, a3, _⟩ := lay_in hf hp
      omega
theorem sp_rng : ∀ (n : Nat) (t : Ex n) (b i s j : Nat), full n t → Sp n t b i s j → b ≤ i ∧ i < b + 2 * realN n t - 1 ∧ b < j ∧ j ≤ b + 2 * realN n t - 1
  | 0, _, _, _, _, _, h, _ => h.elim
  | n + 1, t, b, i, s, j, hf, h => by
    have hr := real_pos hf
    rcases h with ⟨_, rfl, _, rfl⟩ | ⟨p, hp, h⟩
    · omega
    · obtain ⟨a1, a2, a3, a4, _, _⟩ := lay_in hf hp
      have := sp_rng n p.2 p.1 i s j a4 h
      unfold en at a2 a3
      omega

/-- Ways: from a state and a place of a word to others. -/
inductive Wy (word : List Int) (F : Nat → Nat → Prop) (S : Nat → Nat → Nat → Prop) (q0 i0 : Nat) : Nat → Nat → Prop
  | here : Wy word F S q0 i0 q0 i0
  | free {q i q' : Nat} : Wy word F S q0 i0 q i → F q q' → Wy word F S q0 i0 q' i
  | step {q i s q' : Nat} {c : Int} : Wy word F S q0 i0 q i → S q s q' → word[i]? = some c → inS s c = true → Wy word F S q0 i0 q' (i + 1)
theorem Wy.trans {word : List Int} {F : Nat → Nat → Prop} {S : Nat → Nat → Nat → Prop} {q0 i0 q1 i1 q2 i2 : Nat} (h : Wy word F S q0 i0 q1 i1) (k : Wy word F S q1 i1 q2 i2) : Wy word F S q0 i0 q2 i2 := by
  induction k with
  | here => exact h
  | free _ f ih => exact ih.free f
  | step _ s c d ih => exact ih.step s c d
theorem Wy.mono {word : List Int} {F F' : Nat → Nat → Prop} {S S' : Nat → Nat → Nat → Prop} (hF : ∀ a b, F a b → F' a b) (hS : ∀ a s b, S a s b → S' a s b) {q0 i0 q i : Nat} (h : Wy word F S q0 i0 q i) : Wy word F' S' q0 i0 q i := by
  induction h with
  | here => exact .here
  | free _ f ih => exact ih.free (hF _ _ f)
  | step _ s c d ih => exact ih.step (hS _ _ _ s) c d

/-- A way through parts, one behind the other. -/
theorem way_chain {n : Nat} {word : List Int} {F : Nat → Nat → Prop} {S : Nat → Nat → Nat → Prop} (hw : ∀ (x : Ex n) (b i j : Nat), Mt word n x i j → (∀ a c, Fr n x b a c → F a c) → (∀ a s c, Sp n x b a s c → S a s c) → Wy word F S b i (b + 2 * realN n x - 1) j) :
    ∀ (l : List (Ex n)) (s last e i j : Nat), (∀ a c, Cj last (layE s l) e a c → F a c) → (∀ p ∈ layE s l, (∀ a c, Fr n p.2 p.1 a c → F a c) ∧ ∀ a u c, Sp n p.2 p.1 a u c → S a u c) → Ch (l.map (fun x => Mt word n x)) i j → Wy word F S last i e j
  | [], s, last, e, i, j, hj, _, h => by
    cases h
    exact Wy.here.free (hj last e ⟨rfl, rfl⟩)
  | x :: l, s, last, e, i, j, hj, hp, ⟨k, h1, h2⟩ => by
    obtain ⟨f1, f2⟩ := hp (s, x) (by show (s, x) ∈ (s, x) :: _; simp)
    have w1 : Wy word F S last i s i := Wy.here.free (hj last s (.inl ⟨rfl, rfl⟩))
    have w2 := hw x s i k h1 f1 f2
    have w3 := way_chain hw l (s + 2 * realN n x) (en (s, x)) e k j (fun a c h => hj a c (.inr h)) (fun p hp' => hp p (by show p ∈ (s, x) :: _; simp [hp'])) h2
    exact (w1.trans w2).trans w3
/-- What matches is a way. -/
theorem way_of : ∀ (n : Nat) (t : Ex n) (word : List Int) (b i j : Nat) (F : Nat → Nat → Prop) (S : Nat → Nat → Nat → Prop), Mt word n t i j → (∀ a c, Fr n t b a c → F a c) → (∀ a s c, Sp n t b a s c → S a s c) → Wy word F S b i (b + 2 * realN n t - 1) j
  | 0, _, _, _, _, _, _, _, h, _, _ => h.elim
  | n + 1, t, word, b, i, j, F, S, ⟨hi, h⟩, hF, hS => by
    have inner : ∀ p ∈ layE (b + 1) (ks t), (∀ a c, Fr n p.2 p.1 a c → F a c) ∧ ∀ a u c, Sp n p.2 p.1 a u c → S a u c := fun p hp => ⟨fun a c h => hF a c (.inl ⟨p, hp, h⟩), fun a u c h => hS a u c (.inr ⟨p, hp, h⟩)⟩
    have head : ∀ x ∈ (ks t).head?, (b + 1, x) ∈ layE (b + 1) (ks t) := fun x hx => by
      cases hk : ks t with
      | nil => rw [hk] at hx; cases hx
      | cons y r =>
        rw [hk] at hx
        have e : y = x := by simpa using hx
        subst e
        show (b + 1, y) ∈ (b + 1, y) :: _
        simp
    have place : ∀ (l : List (Ex n)) (s : Nat) (x : Ex n), x ∈ l → ∃ p ∈ layE s l, p.2 = x := by
      intro l
      induction l with
      | nil => intro s x hx; cases hx
      | cons y r ih =>
        intro s x hx
        rcases List.mem_cons.1 hx with rfl | hx
        · exact ⟨(s, x), by show (s, x) ∈ (s, x) :: _; simp, rfl⟩
        · obtain ⟨p, hp, e⟩ := ih (s + 2 * realN n y) x hx
          exact ⟨p, by show p ∈ (s, y) :: _; simp [hp], e⟩
    rcases h with ⟨k0, rfl⟩ | ⟨k1, rfl, c, hc, hin⟩ | ⟨k2, h⟩ | ⟨k3, x, hx, h⟩ | ⟨k4, x, hx, m, h⟩ | ⟨k5, x, hx, h⟩
    · exact Wy.here.free (hF _ _ (.inr (.inl ⟨k0, rfl, rfl⟩)))
    · exact Wy.here.step (hS _ _ _ (.inl ⟨k1, rfl, rfl, rfl⟩)) hc hin
    · exact way_chain (fun x b' i' j' h1 f1 f2 => way_of n x word b' i' j' F S h1 f1 f2) (ks t) (b + 1) b _ i j (fun a c hc => hF a c (.inr (.inr (.inl ⟨k2, hc⟩)))) inner h
    · obtain ⟨p, hp, rfl⟩ := place (ks t) (b + 1) x hx
      obtain ⟨f1, f2⟩ := inner p hp
      have w1 : Wy word F S b i p.1 i := Wy.here.free (hF _ _ (.inr (.inr (.inr (.inl ⟨k3, p, hp, .inl ⟨rfl, rfl⟩⟩)))))
      have w2 := way_of n p.2 word p.1 i j F S h f1 f2
      exact (w1.trans w2).free (hF _ _ (.inr (.inr (.inr (.inl ⟨k3, p, hp, .inr ⟨rfl, rfl⟩⟩)))))
    · have hp := head x hx
      obtain ⟨f1, f2⟩ := inner _ hp
      have rounds : ∀ (m i j : Nat), Tm (Mt word n x) (m + 1) i j → Wy word F S (b + 1) i (en (b + 1, x)) j := by
        intro m
        induction m with
        | zero =>
          rintro i j ⟨k, h1, h2⟩
          cases h2
          exact way_of n x word (b + 1) i _ F S h1 f1 f2
        | succ m ih =>
          rintro i j ⟨k, h1, h2⟩
          have w1 := way_of n x word (b + 1) i k F S h1 f1 f2
          have w2 : Wy word F S (b + 1) i (b + 1) k := w1.free (hF _ _ (.inr (.inr (.inr (.inr (.inl ⟨k4, _, hp, .inr (.inr (.inl ⟨rfl, rfl⟩))⟩))))))
          exact w2.trans (ih k j h2)
      cases m with
      | zero =>
        cases h
        exact Wy.here.free (hF _ _ (.inr (.inr (.inr (.inr (.inl ⟨k4, _, hp, .inr (.inl ⟨rfl, rfl⟩)⟩))))))
      | succ m =>
        have w1 : Wy word F S b i (b + 1) i := Wy.here.free (hF _ _ (.inr (.inr (.inr (.inr (.inl ⟨k4, _, hp, .inl ⟨rfl, rfl⟩⟩))))))
        exact (w1.trans (rounds m i j h)).free (hF _ _ (.inr (.inr (.inr (.inr (.inl ⟨k4, _, hp, .inr (.inr (.inr ⟨rfl, rfl⟩))⟩))))))
    · have hp := head x hx
      obtain ⟨f1, f2⟩ := inner _ hp
      rcases h with rfl | h
      · exact Wy.here.free (hF _ _ (.inr (.inr (.inr (.inr (.inr ⟨k5, _, hp, .inr (.inl ⟨rfl, rfl⟩)⟩))))))
      · have w1 : Wy word F S b i (b + 1) i := Wy.here.free (hF _ _ (.inr (.inr (.inr (.inr (.inr ⟨k5, _, hp, .inl ⟨rfl, rfl⟩⟩))))))
        have w2 := way_of n x word (b + 1) i j F S h f1 f2
        exact (w1.trans w2).free (hF _ _ (.inr (.inr (.inr (.inr (.inr ⟨k5, _, hp, .inr (.inr ⟨rfl, rfl⟩)⟩))))))
end Go.Proofs.YtbbfjjjnifomgaaGreatDoor.A


