/- The program's builder: the steps of a node, whatever its kind. -/
import Derived.WalkKit
import Derived.ProofKit
import Derived.Outline
import Derived.BigQuiet
import Derived.Deep.QuietTactic
import Derived.Below
import Derived.Deep.RegionHeld3
import Derived.OpenShut
import Derived.Deep.Slices
import Derived.Deep.Strs
import Derived.Deep.OwnRows
import Derived.Deep.WholeRow
import Derived.Deep.AppendSrc
import Derived.Deep.Heap
import Derived.Laws.AppendOwnNone
import Derived.Deep.AppendLies
import Derived.Deep.RegionLaw
import Derived.Test.YtbbfjjjnifomgaaGreatDoorK1
import Derived.Test.YtbbfjjjnifomgaaGreatDoorK2
import Derived.Test.YtbbfjjjnifomgaaGreatDoorK3
import Derived.Test.YtbbfjjjnifomgaaGreatDoorK5
import Derived.Test.YtbbfjjjnifomgaaGreatDoorK8
import Derived.Test.YtbbfjjjnifomgaaGreatDoorK9
import Derived.Test.YtbbfjjjnifomgaaGreatDoorK11
import Derived.Test.YtbbfjjjnifomgaaGreatDoorK13
import Derived.Test.YtbbfjjjnifomgaaGreatDoorK14
namespace Go.Proofs.YtbbfjjjnifomgaaGreatDoor.A
open Go.RowKit

/-- Where the parts begin, and where they end. -/
def pbE {n : Nat} (P : List (Nat × Ex n)) (m : Nat) : Nat := match P[m]? with | some p => p.1 | none => 0
def peE {n : Nat} (P : List (Nat × Ex n)) (m : Nat) : Nat := match P[m]? with | some p => en p | none => 0
theorem pb_at {n : Nat} {P : List (Nat × Ex n)} {m : Nat} {p : Nat × Ex n} (h : P[m]? = some p) : pbE P m = p.1 ∧ peE P m = en p := by
  unfold pbE peE; rw [h]; exact ⟨rfl, rfl⟩
theorem lay_len {n : Nat} : ∀ (l : List (Ex n)) (s : Nat), (layE s l).length = l.length
  | [], _ => rfl
  | x :: r, s => by show (layE _ r).length + 1 = r.length + 1; rw [lay_len r]
/-- Where a part begins. -/
def posE {n : Nat} (s : Nat) (l : List (Ex n)) (k : Nat) : Nat := s + 2 * ((l.take k).map (fun x => realN n x)).sum
theorem lay_at {n : Nat} : ∀ (l : List (Ex n)) (s k : Nat) (x : Ex n), l[k]? = some x → (layE s l)[k]? = some (posE s l k, x)
  | [], _, _, _, h => by simp at h
  | y :: r, s, 0, x, h => by
    have e : y = x := by simpa using h
    subst e
    show some (s, y) = some (posE s (y :: r) 0, y)
    simp [posE]
  | y :: r, s, k + 1, x, h => by
    have ih := lay_at r (s + 2 * realN n y) k x (by simpa using h)
    show (layE (s + 2 * realN n y) r)[k]? = _
    rw [ih]
    simp only [posE, List.take_succ_cons, List.map_cons, List.sum_cons, Option.some.injEq, Prod.mk.injEq, and_true]
    omega
theorem pos_next {n : Nat} {l : List (Ex n)} {s k : Nat} {x : Ex n} (h : l[k]? = some x) : posE s l (k + 1) = posE s l k + 2 * realN n x := by
  unfold posE
  rw [take_at h, List.map_append, List.sum_append]
  simp only [List.map_cons, List.map_nil, List.sum_cons, List.sum_nil]
  omega
theorem pos_all {n : Nat} (l : List (Ex n)) (s : Nat) : posE s l l.length = s + 2 * (l.map (fun x => realN n x)).sum := by
  unfold posE; rw [List.take_length]
theorem pos_mono {n : Nat} {l : List (Ex n)} {s : Nat} : ∀ (m k : Nat), k ≤ m → m ≤ l.length → posE s l k ≤ posE s l m
  | 0, k, h, _ => by have e : k = 0 := by omega
                     subst e; exact Nat.le_refl _
  | m + 1, k, h, hm => by
    by_cases e : k = m + 1
    · subst e; exact Nat.le_refl _
    · have ih := pos_mono (l := l) (s := s) m k (by omega) (by omega)
      have hm' : m < l.length := by omega
      have e2 := pos_next (s := s) (List.getElem?_eq_getElem hm')
      omega
/-- A node's own free steps. -/
def NodeF {n : Nat} (t : Ex (n + 1)) (b i j : Nat) : Prop := (kd t = 0 ∧ i = b ∧ j = b + 2 * realN (n + 1) t - 1) ∨
      (kd t = 2 ∧ Cj b (layE (b + 1) (ks t)) (b + 2 * realN (n + 1) t - 1) i j) ∨
      (kd t = 3 ∧ ∃ p ∈ layE (b + 1) (ks t), (i = b ∧ j = p.1) ∨ (i = en p ∧ j = b + 2 * realN (n + 1) t - 1)) ∨
      (kd t = 4 ∧ ∃ p ∈ layE (b + 1) (ks t), (i = b ∧ j = p.1) ∨ (i = b ∧ j = b + 2 * realN (n + 1) t - 1) ∨ (i = en p ∧ j = p.1) ∨ (i = en p ∧ j = b + 2 * realN (n + 1) t - 1)) ∨
      (kd t = 5 ∧ ∃ p ∈ layE (b + 1) (ks t), (i = b ∧ j = p.1) ∨ (i = b ∧ j = b + 2 * realN (n + 1) t - 1) ∨ (i = en p ∧ j = b + 2 * realN (n + 1) t - 1))
theorem fr_node {n : Nat} (t : Ex (n + 1)) (b i j : Nat) : Fr (n + 1) t b i j ↔ (∃ p ∈ layE (b + 1) (ks t), Fr n p.2 p.1 i j) ∨ NodeF t b i j := Iff.rfl
theorem src_cons {n : Nat} (last : Nat) (p : Nat × Ex n) (r : List (Nat × Ex n)) : ∀ m, src last (peE (p :: r)) (m + 1) = src (en p) (peE r) m
  | 0 => rfl
  | _ + 1 => rfl
theorem cj_iff {n : Nat} : ∀ (P : List (Nat × Ex n)) (last e i j : Nat), Cj last P e i j ↔ (∃ m, m < P.length ∧ i = src last (peE P) m ∧ j = pbE P m) ∨ (i = src last (peE P) P.length ∧ j = e)
  | [], last, e, i, j => by
    show (i = last ∧ j = e) ↔ _
    constructor
    · exact .inr
    · rintro (⟨m, h, _⟩ | h)
      · exact absurd h (by simp)
      · exact h
  | p :: r, last, e, i, j => by
    show ((i = last ∧ j = p.1) ∨ Cj (en p) r e i j) ↔ _
    rw [cj_iff r]
    constructor
    · rintro (⟨h1, h2⟩ | ⟨m, h1, h2, h3⟩ | ⟨h1, h2⟩)
      · exact .inl ⟨0, by simp, h1, h2⟩
      · exact .inl ⟨m + 1, by simpa using h1, by rw [src_cons]; exact h2, h3⟩
      · exact .inr ⟨by rw [List.length_cons, src_cons]; exact h1, h2⟩
    · rintro (⟨m, h1, h2, h3⟩ | ⟨h1, h2⟩)
      · cases m with
        | zero => exact .inl ⟨h2, h3⟩
        | succ m => exact .inr (.inl ⟨m, by simpa using h1, by rw [src_cons] at h2; exact h2, h3⟩)
      · exact .inr (.inr ⟨by rw [List.length_cons, src_cons] at h1; exact h1, h2⟩)
theorem some_part {n : Nat} {P : List (Nat × Ex n)} {Q : Nat → Nat → Prop} : (∃ p ∈ P, Q p.1 (en p)) ↔ ∃ m, m < P.length ∧ Q (pbE P m) (peE P m) := by
  constructor
  · rintro ⟨p, hp, h⟩
    obtain ⟨m, hm, e⟩ := List.getElem_of_mem hp
    obtain ⟨e1, e2⟩ := pb_at (P := P) (m := m) (p := p) (by rw [List.getElem?_eq_getElem hm, e])
    exact ⟨m, hm, by rw [e1, e2]; exact h⟩
  · rintro ⟨m, hm, h⟩
    obtain ⟨e1, e2⟩ := pb_at (P := P) (m := m) (List.getElem?_eq_getElem hm)
    exact ⟨P[m], List.getElem_mem hm, by rw [e1, e2] at h; exact h⟩
theorem lay_geo {n : Nat} {t : Ex (n + 1)} (h : full (n + 1) t) (b : Nat) : Geo b (b + 2 * realN (n + 1) t - 1) (ks t).length (pbE (layE (b + 1) (ks t))) (peE (layE (b + 1) (ks t))) := by
  have at_ : ∀ m, m < (ks t).length → ∃ p, p ∈ layE (b + 1) (ks t) ∧ pbE (layE (b + 1) (ks t)) m = p.1 ∧ peE (layE (b + 1) (ks t)) m = en p ∧ p.1 = posE (b + 1) (ks t) m ∧ en p + 1 = posE (b + 1) (ks t) (m + 1) := fun m hm => by
    have e := lay_at (ks t) (b + 1) m _ (List.getElem?_eq_getElem hm)
    obtain ⟨e1, e2⟩ := pb_at e
    have hr := real_pos (h _ (List.getElem_mem hm))
    refine ⟨_, List.mem_of_getElem? e, e1, e2, rfl, ?_⟩
    rw [pos_next (List.getElem?_eq_getElem hm)]
    show posE (b + 1) (ks t) m + 2 * realN n (ks t)[m] - 1 + 1 = posE (b + 1) (ks t) m + 2 * realN n (ks t)[m]
    omega
  refine ⟨fun m hm => ?_, fun m hm => ?_, fun m hm => ?_, fun m m' h1 h2 => ?_⟩
  · obtain ⟨p, hp, e1, e2, _⟩ := at_ m hm
    rw [e1]; exact (lay_in h hp).1
  · obtain ⟨p, hp, e1, e2, _⟩ := at_ m hm
    rw [e1, e2]; exact (lay_in h hp).2.1
  · obtain ⟨p, hp, e1, e2, _⟩ := at_ m hm
    rw [e2]; exact (lay_in h hp).2.2.1
  · obtain ⟨p, hp, e1, e2, e3, e4⟩ := at_ m (by omega)
    obtain ⟨p', hp', f1, f2, f3, f4⟩ := at_ m' h2
    rw [e2, f1, f3]
    have := pos_mono (l := ks t) (s := b + 1) m' (m + 1) (by omega) (by omega)
    omega

theorem steps_any (base q : Nat) (F : Nat → Nat → Prop) (S : Nat → Nat → Nat → Prop) (N : Nat) (rs : List Int) {n : Nat} (t : Ex (n + 1)) (x : Value) (a : Option Addr) (cap b e M : Nat) (w : World) (hB : Bm w base q F S N rs) (hN : N ≤ 10000) (hM : M ≤ 10000) (hFM : ∀ a b, F a b → b < M) (heM : e < M) (heN : e < N)
    (he : b + 2 * realN (n + 1) t - 1 = e) (hf : full (n + 1) t) (hok : okE (kd t) (st t) (ks t).length = true) (hK : (ks t).length ≤ 10000)
    (hFb : ∀ m j, m ≤ (ks t).length → ¬ F (src b (peE (layE (b + 1) (ks t))) m) j) (hS : ∀ s j, ¬ S b s j) (hP : Pts w a (ks t).length (pbE (layE (b + 1) (ks t))) (peE (layE (b + 1) (ks t)))) :
    Calls Tryz.prog 147 #[.pointer (some ⟨q, 0, none⟩), .agg #[.int .u8 (kd t : Nat), .int .u16 (st t : Nat), x], .agg #[.int .i64 b, .int .i64 e], .slice a (ks t).length cap] w fun en w' => en = .returned (.tuple #[]) ∧ Bm w' base q (fun i j => F i j ∨ NodeF t b i j) (fun i s j => S i s j ∨ (kd t = 1 ∧ i = b ∧ s = st t ∧ j = e)) N rs ∧ Kb base w w' := by
  have hg := lay_geo hf b
  have hr := real_pos hf
  have hbe : b < e := by omega
  rw [he] at hg
  have ll := lay_len (ks t) (b + 1)
  rcases ok_kind hok with k | k | k | k | k | k
  · rw [k]
    refine (steps_k0 base q F S N rs (st t) x _ b e M w hB hN hM (by omega) hFM (fun j => hFb 0 j (by omega))).mono ?_
    rintro en w' ⟨rfl, h1, h2⟩
    refine ⟨rfl, bm_congr h1 (fun i j => ?_) (fun i s j => ?_), h2⟩
    · unfold NodeF; rw [k, he]; simp
    · simp
  · rw [k]
    refine (steps_k1 base q F S N rs (st t) x _ b e w hB hN (by omega) hS).mono ?_
    rintro en w' ⟨rfl, h1, h2⟩
    refine ⟨rfl, bm_congr h1 (fun i j => ?_) (fun i s j => ?_), h2⟩
    · unfold NodeF; rw [k]; simp
    · simp
  · rw [k]
    refine (steps_k2 base q F S N rs (st t) x a _ cap b e M _ _ w hB hN hM hFM heM heN hbe hK hg hFb hP).mono ?_
    rintro en w' ⟨rfl, h1, h2⟩
    refine ⟨rfl, bm_congr h1 (fun i j => ?_) (fun i s j => ?_), h2⟩
    · unfold NodeF; rw [k, he, cj_iff, ll]; simp
    · simp
  · rw [k]
    refine (steps_k3 base q F S N rs (st t) x a _ cap b e M _ _ w hB hN hM hFM heM heN hbe hK hg hFb hP).mono ?_
    rintro en w' ⟨rfl, h1, h2⟩
    refine ⟨rfl, bm_congr h1 (fun i j => ?_) (fun i s j => ?_), h2⟩
    · unfold NodeF
      rw [k, he, some_part (P := layE (b + 1) (ks t)) (Q := fun x y => (i = b ∧ j = x) ∨ (i = y ∧ j = e)), ll]; simp
    · simp
  · have hl := ok_one hok (.inl k)
    rw [k]
    rw [hl] at hg hFb hP ll ⊢
    refine (steps_k4 base q F S N rs (st t) x a cap b e M _ _ w hB hN hM hFM heM heN hbe hg hFb hP).mono ?_
    rintro en w' ⟨rfl, h1, h2⟩
    refine ⟨rfl, bm_congr h1 (fun i j => ?_) (fun i s j => ?_), h2⟩
    · unfold NodeF
      rw [k, he, some_part (P := layE (b + 1) (ks t)) (Q := fun x y => (i = b ∧ j = x) ∨ (i = b ∧ j = e) ∨ (i = y ∧ j = x) ∨ (i = y ∧ j = e)), ll]
      constructor
      · rintro ((((h | h) | h) | h) | h)
        · exact .inl h
        · exact .inr (.inr (.inr (.inr (.inl ⟨rfl, 0, by omega, .inr (.inr (.inl h))⟩))))
        · exact .inr (.inr (.inr (.inr (.inl ⟨rfl, 0, by omega, .inl h⟩))))
        · exact .inr (.inr (.inr (.inr (.inl ⟨rfl, 0, by omega, .inr (.inl h)⟩))))
        · exact .inr (.inr (.inr (.inr (.inl ⟨rfl, 0, by omega, .inr (.inr (.inr h))⟩))))
      · rintro (h | ⟨h, _⟩ | ⟨h, _⟩ | ⟨h, _⟩ | ⟨_, m, hm, h⟩ | ⟨h, _⟩)
        · exact .inl (.inl (.inl (.inl h)))
        · omega
        · omega
        · omega
        · obtain rfl : m = 0 := by omega
          rcases h with h | h | h | h
          · exact .inl (.inl (.inr h))
          · exact .inl (.inr h)
          · exact .inl (.inl (.inl (.inr h)))
          · exact .inr h
        · omega
    · simp
  · have hl := ok_one hok (.inr k)
    rw [k]
    rw [hl] at hg hFb hP ll ⊢
    refine (steps_k5 base q F S N rs (st t) x a cap b e M _ _ w hB hN hM hFM heM heN hbe hg hFb hP).mono ?_
    rintro en w' ⟨rfl, h1, h2⟩
    refine ⟨rfl, bm_congr h1 (fun i j => ?_) (fun i s j => ?_), h2⟩
    · unfold NodeF
      rw [k, he, some_part (P := layE (b + 1) (ks t)) (Q := fun x y => (i = b ∧ j = x) ∨ (i = b ∧ j = e) ∨ (i = y ∧ j = e)), ll]
      constructor
      · rintro (((h | h) | h) | h)
        · exact .inl h
        · exact .inr (.inr (.inr (.inr (.inr ⟨rfl, 0, by omega, .inl h⟩))))
        · exact .inr (.inr (.inr (.inr (.inr ⟨rfl, 0, by omega, .inr (.inl h)⟩))))
        · exact .inr (.inr (.inr (.inr (.inr ⟨rfl, 0, by omega, .inr (.inr h)⟩))))
      · rintro (h | ⟨h, _⟩ | ⟨h, _⟩ | ⟨h, _⟩ | ⟨h, _⟩ | ⟨_, m, hm, h⟩)
        · exact .inl (.inl (.inl h))
        · omega
        · omega
        · omega
        · omega
        · obtain rfl : m = 0 := by omega
          rcases h with h | h | h
          · exact .inl (.inl (.inr h))
          · exact .inl (.inr h)
          · exact .inr h
    · simp
end Go.Proofs.YtbbfjjjnifomgaaGreatDoor.A

/- The program's builder: rows of parts; what stays behind a store elsewhere. -/
namespace Go.Proofs.YtbbfjjjnifomgaaGreatDoor.A
open Go.RowKit

theorem bv_grown {w w' : World} {base q : Nat} {v0 v1 v2 v3 : Value} {vf : List Value} {ff : List (List Int)} {ss : List Nat} {ts rs : List Int} {r : Option Nat} (h : Bv w base q v0 v1 v2 v3 vf ff ss ts rs) (hg : w.grownBy w' r) (hr : ∀ k, r = some k → ∃ cs fr, w.heap[k]? = some (.cells cs 180 fr)) : Bv w' base q v0 v1 v2 v3 vf ff ss ts rs := by
  have mv : ∀ {e : TypeId} {v : Value} {n : Nat} {xs : List Value}, w.ownsRow base e 1 v n xs → e ≠ 180 → w'.ownsRow base e 1 v n xs := fun hv he => own_move hv (fun k hk => hg.block k (own_type hv hk).2.1 (fun e => by
    obtain ⟨cs, fr, hc⟩ := hr k e.symm
    exact own_not hv hc he hk))
  have hq : q < w.heap.size := (Array.getElem?_eq_some_iff.1 h.blk).1
  refine ⟨(hg.block q hq (fun e => ?_)).trans h.blk, h.low, mv h.o0 (by decide), mv h.o1 (by decide), mv h.o2 (by decide), mv h.o3 (by decide), h.len, fun i v l a b => mv (h.rows i v l a b) (by decide), h.ap⟩
  obtain ⟨cs, fr, hc⟩ := hr q e.symm
  have := h.blk
  rw [hc] at this
  cases this
theorem bm_grown {w w' : World} {base q N : Nat} {F : Nat → Nat → Prop} {S : Nat → Nat → Nat → Prop} {rs : List Int} {r : Option Nat} (h : Bm w base q F S N rs) (hg : w.grownBy w' r) (hr : ∀ k, r = some k → ∃ cs fr, w.heap[k]? = some (.cells cs 180 fr)) : Bm w' base q F S N rs := by
  obtain ⟨ff, ss, ts, ⟨v0, v1, v2, v3, vf, h1⟩, h2, h3⟩ := h
  exact ⟨ff, ss, ts, ⟨v0, v1, v2, v3, vf, bv_grown h1 hg hr⟩, h2, h3⟩
theorem kb_grown {base : Nat} {W w w' : World} {r : Option Nat} (h : Kb base W w) (hg : w.grownBy w' r) (hr : ∀ k, r = some k → W.heap.size ≤ k) : Kb base W w' :=
  ⟨hg.os.trans h.os, hg.tape.trans h.tape, hg.output.trans h.output, Nat.le_trans h.size hg.size, fun k hk hf => (hg.block k (Nat.lt_of_lt_of_le hk h.size) (fun e => by have := hr k e.symm; omega)).trans (h.block k hk hf)⟩
theorem own_kb {base H : Nat} {w w' : World} {v : Value} {n : Nat} {xs : List Value} (h : w.ownsRow H 180 2 v n xs) (hk : Kb base w w') : w'.ownsRow H 180 2 v n xs :=
  own_move h (fun k hk' => by
    obtain ⟨_, hlt, cs, hc⟩ := own_type h hk'
    exact hk.block k hlt (far60 hc))
/-- The cells of the first parts. -/
def prC {n : Nat} (P : List (Nat × Ex n)) (k : Nat) : List Value := (P.take k).flatMap fun p => [.int .i64 (p.1 : Int), .int .i64 (en p : Int)]
theorem prC_next {n : Nat} {P : List (Nat × Ex n)} {k : Nat} {p : Nat × Ex n} (h : P[k]? = some p) : prC P (k + 1) = prC P k ++ [.int .i64 (p.1 : Int), .int .i64 (en p : Int)] := by
  unfold prC; rw [take_at h]; simp
theorem flat_at {α : Type} (f g : α → Value) : ∀ (l : List α) (m : Nat) (x : α), l[m]? = some x → (l.flatMap fun p => [f p, g p])[m * 2]? = some (f x) ∧ (l.flatMap fun p => [f p, g p])[m * 2 + 1]? = some (g x)
  | [], _, _, h => by simp at h
  | y :: r, 0, x, h => by
    have e : y = x := by simpa using h
    subst e; simp
  | y :: r, m + 1, x, h => by
    obtain ⟨h1, h2⟩ := flat_at f g r m x (by simpa using h)
    rw [List.flatMap_cons, show (m + 1) * 2 = m * 2 + 1 + 1 by omega]
    exact ⟨by simpa using h1, by simpa using h2⟩
theorem pts_own {n : Nat} {w : World} {H K : Nat} {v : Value} {P : List (Nat × Ex n)} (h : w.ownsRow H 180 2 v K (prC P K)) (hK : P.length = K) : ∃ a cap, v = .slice a K cap ∧ Pts w a K (pbE P) (peE P) := by
  obtain ⟨hl, ⟨rfl, rfl⟩ | ⟨g, cap, cur, rfl, hb, hg, r⟩⟩ := id h
  · exact ⟨none, 0, rfl, fun m hm => absurd hm (by omega)⟩
  · refine ⟨_, cap, rfl, fun m hm => ⟨g, 0, cur, rfl, hg, ?_⟩⟩
    have e : P[m]? = some P[m] := List.getElem?_eq_getElem (by omega)
    obtain ⟨e1, e2⟩ := pb_at e
    obtain ⟨f1, f2⟩ := flat_at (fun p : Nat × Ex n => Value.int .i64 (p.1 : Int)) (fun p => Value.int .i64 (en p : Int)) P m _ e
    have ep : prC P K = P.flatMap fun p => [.int .i64 (p.1 : Int), .int .i64 (en p : Int)] := by
      unfold prC; rw [List.take_of_length_le (by omega)]
    rw [Nat.zero_add, h.cellAt (m * 2) (by omega), h.cellAt (m * 2 + 1) (by omega), ep, f1, f2, e1, e2]
    exact ⟨rfl, rfl⟩
theorem info180 : (Tryz.prog.info? 180).map (fun i => (i.zero, i.size, i.bytes)) = some (some (.agg #[.int .i64 0, .int .i64 0]), 2, 16) := by kernel_rfl
theorem two_new (w : World) (x y : Value) (t : TypeId) : ∀ j u, [x, y][j]? = some u → (w.alloc (.cells #[x, y] t)).cell? ((⟨w.heap.size, 0, none⟩ : Addr).add j) = some u := World.news_of_block (cs := #[x, y]) (heap_alloc_last w _)

/-- Where the steps of the first parts lie. -/
theorem take_rng {n : Nat} {l : List (Ex n)} {s k : Nat} (hf : ∀ x ∈ l, full n x) (hk : k ≤ l.length) {p : Nat × Ex n} (hp : p ∈ (layE s l).take k) : s ≤ p.1 ∧ p.1 + 2 * realN n p.2 ≤ posE s l k ∧ full n p.2 ∧ 1 ≤ realN n p.2 := by
  obtain ⟨m, hm, e⟩ := List.getElem_of_mem hp
  have hm' : m < k ∧ m < (layE s l).length := by rw [List.length_take] at hm; omega
  have hml : m < l.length := by rw [← lay_len l s]; exact hm'.2
  have e2 := lay_at l s m _ (List.getElem?_eq_getElem hml)
  have e3 : (layE s l)[m]? = some p := by rw [← e, List.getElem_take]; exact List.getElem?_eq_getElem hm'.2
  rw [e3] at e2
  obtain rfl : p = (posE s l m, l[m]) := Option.some.inj e2
  have h1 := pos_next (s := s) (List.getElem?_eq_getElem hml)
  have h2 := pos_mono (l := l) (s := s) k (m + 1) (by omega) hk
  refine ⟨by show s ≤ posE s l m; unfold posE; omega, by show posE s l m + 2 * realN n l[m] ≤ _; omega, hf _ (List.getElem_mem hml), real_pos (hf _ (List.getElem_mem hml))⟩
def FK {n : Nat} (F : Nat → Nat → Prop) (s : Nat) (l : List (Ex n)) (k i j : Nat) : Prop := F i j ∨ ∃ p ∈ (layE s l).take k, Fr n p.2 p.1 i j
def SK {n : Nat} (S : Nat → Nat → Nat → Prop) (s : Nat) (l : List (Ex n)) (k i u j : Nat) : Prop := S i u j ∨ ∃ p ∈ (layE s l).take k, Sp n p.2 p.1 i u j
theorem fk_rng {n : Nat} {F : Nat → Nat → Prop} {l : List (Ex n)} {N s k : Nat} (hs : N ≤ s) (hF : ∀ i j, F i j → i < N ∧ j < N) (hf : ∀ x ∈ l, full n x) (hk : k ≤ l.length) (i j : Nat) (h : FK F s l k i j) : i < posE s l k ∧ j < posE s l k := by
  rcases h with h | ⟨p, hp, h⟩
  · have := hF i j h; unfold posE; omega
  · obtain ⟨a1, a2, a3, a4⟩ := take_rng hf hk hp
    have := fr_rng n p.2 p.1 i j a3 h
    omega
theorem sk_rng {n : Nat} {S : Nat → Nat → Nat → Prop} {l : List (Ex n)} {N s k : Nat} (hs : N ≤ s) (hS : ∀ i u j, S i u j → i < N) (hf : ∀ x ∈ l, full n x) (hk : k ≤ l.length) (i u j : Nat) (h : SK S s l k i u j) : i < posE s l k := by
  rcases h with h | ⟨p, hp, h⟩
  · have := hS i u j h; unfold posE; omega
  · obtain ⟨a1, a2, a3, a4⟩ := take_rng hf hk hp
    have := sp_rng n p.2 p.1 i u j a3 h
    omega
theorem fk_next {n : Nat} {F : Nat → Nat → Prop} {l : List (Ex n)} {s k : Nat} {x : Ex n} (hx : l[k]? = some x) (i j : Nat) : (FK F s l k i j ∨ Fr n x (posE s l k) i j) ↔ FK F s l (k + 1) i j := by
  unfold FK
  rw [take_at (lay_at l s k x hx)]
  constructor
  · rintro ((h | ⟨p, hp, h⟩) | h)
    · exact .inl h
    · exact .inr ⟨p, by simp [hp], h⟩
    · exact .inr ⟨(posE s l k, x), by simp, h⟩
  · rintro (h | ⟨p, hp, h⟩)
    · exact .inl (.inl h)
    · rcases List.mem_append.1 hp with hp | hp
      · exact .inl (.inr ⟨p, hp, h⟩)
      · rw [List.mem_singleton] at hp; subst hp; exact .inr h
theorem sk_next {n : Nat} {S : Nat → Nat → Nat → Prop} {l : List (Ex n)} {s k : Nat} {x : Ex n} (hx : l[k]? = some x) (i u j : Nat) : (SK S s l k i u j ∨ Sp n x (posE s l k) i u j) ↔ SK S s l (k + 1) i u j := by
  unfold SK
  rw [take_at (lay_at l s k x hx)]
  constructor
  · rintro ((h | ⟨p, hp, h⟩) | h)
    · exact .inl h
    · exact .inr ⟨p, by simp [hp], h⟩
    · exact .inr ⟨(posE s l k, x), by simp, h⟩
  · rintro (h | ⟨p, hp, h⟩)
    · exact .inl (.inl h)
    · rcases List.mem_append.1 hp with hp | hp
      · exact .inl (.inr ⟨p, hp, h⟩)
      · rw [List.mem_singleton] at hp; subst hp; exact .inr h
theorem fk_zero {n : Nat} {F : Nat → Nat → Prop} {l : List (Ex n)} {s : Nat} (i j : Nat) : F i j ↔ FK F s l 0 i j := ⟨.inl, fun h => h.elim id (fun ⟨_, hp, _⟩ => by simp at hp)⟩
theorem sk_zero {n : Nat} {S : Nat → Nat → Nat → Prop} {l : List (Ex n)} {s : Nat} (i u j : Nat) : S i u j ↔ SK S s l 0 i u j := ⟨.inl, fun h => h.elim id (fun ⟨_, hp, _⟩ => by simp at hp)⟩
/-- Behind all parts no step leaves the node's first state, nor the last one of a part. -/
theorem fk_src {n : Nat} {F : Nat → Nat → Prop} {t : Ex (n + 1)} {N : Nat} (hF : ∀ i j, F i j → i < N ∧ j < N) (hf : full (n + 1) t) (m j : Nat) (hm : m ≤ (ks t).length) : ¬ FK F (N + 1) (ks t) (ks t).length (src N (peE (layE (N + 1) (ks t))) m) j := by
  have hg := lay_geo hf N
  rintro (h | ⟨p, hp, h⟩)
  · have h1 := (hF _ _ h).1
    cases m with
    | zero => exact absurd h1 (by show ¬ N < N; omega)
    | succ m =>
      have h2 : peE (layE (N + 1) (ks t)) m < N := h1
      have := hg.lo m (by omega); have := hg.mid m (by omega); omega
  · have hp0 := List.mem_of_mem_take hp
    obtain ⟨a1, a2, a3, a4, _, _⟩ := lay_in hf hp0
    have hr := fr_rng n p.2 p.1 _ _ a4 h
    cases m with
    | zero => have h2 : p.1 ≤ N := hr.1; omega
    | succ m =>
      have e := lay_at (ks t) (N + 1) m _ (List.getElem?_eq_getElem (show m < (ks t).length by omega))
      obtain ⟨_, e2⟩ := pb_at e
      have hp' := List.mem_of_getElem? e
      have hr1 : p.1 ≤ peE (layE (N + 1) (ks t)) m := hr.1
      have hr2 : peE (layE (N + 1) (ks t)) m < p.1 + 2 * realN n p.2 - 1 := hr.2.1
      rw [e2] at hr1 hr2
      have b := lay_in hf hp'
      have := lay_uniq (ks t) (N + 1) (en (posE (N + 1) (ks t) m, (ks t)[m])) p _ hf hp0 hp' hr1 (by unfold en at hr2 ⊢; omega) b.2.1 (Nat.le_refl _)
      rw [← this] at hr2
      have h3 : en p < en p := hr2
      omega
theorem sk_here {n : Nat} {S : Nat → Nat → Nat → Prop} {t : Ex (n + 1)} {N : Nat} (hS : ∀ i u j, S i u j → i < N) (hf : full (n + 1) t) (u j : Nat) : ¬ SK S (N + 1) (ks t) (ks t).length N u j := by
  rintro (h | ⟨p, hp, h⟩)
  · have := hS _ _ _ h; omega
  · obtain ⟨a1, a2, a3, a4⟩ := take_rng (l := ks t) hf (Nat.le_refl _) hp
    have := sp_rng n p.2 p.1 N u j a3 h
    omega
end Go.Proofs.YtbbfjjjnifomgaaGreatDoor.A

/- The program's builder: the states and steps of an expression. -/
namespace Go.Proofs.YtbbfjjjnifomgaaGreatDoor.A
open Go.RowKit

theorem blk60 {w : World} {g : Nat} {x y : Value} (h : w.heap[g]? = some (.cells #[x, y] 180 (0, 0))) : (w.cell? ⟨g, 0, none⟩ = some x ∧ w.cell? ⟨g, 1, none⟩ = some y) ∧ ∀ i, w.frozen? ⟨g, i, none⟩ = false := by
  refine ⟨⟨?_, ?_⟩, fun i => ?_⟩
  · rw [cell_of_row _ _ _ _ _ _ h]; rfl
  · rw [cell_of_row _ _ _ _ _ _ h]; rfl
  · simp [World.frozen?, h]
theorem blk51 {w : World} {g : Nat} {x y z : Value} (h : w.heap[g]? = some (.cells #[x, y, z] 55 (0, 0))) : w.cell? ⟨g, 0, none⟩ = some x ∧ w.cell? ⟨g, 1, none⟩ = some y ∧ w.cell? ⟨g, 2, none⟩ = some z := by
  refine ⟨?_, ?_, ?_⟩
  · rw [cell_of_row _ _ _ _ _ _ h]; rfl
  · rw [cell_of_row _ _ _ _ _ _ h]; rfl
  · rw [cell_of_row _ _ _ _ _ _ h]; rfl
theorem kb60 {base : Nat} {w w' : World} {g : Nat} {cs : Array Value} (hk : Kb base w w') (h : w.heap[g]? = some (.cells cs 180 (0, 0))) : w'.heap[g]? = some (.cells cs 180 (0, 0)) := (hk.block g (Array.getElem?_eq_some_iff.1 h).1 (far60 h)).trans h
theorem kb51 {base : Nat} {w w' : World} {g : Nat} {cs : Array Value} (hk : Kb base w w') (h : w.heap[g]? = some (.cells cs 55 (0, 0))) : w'.heap[g]? = some (.cells cs 55 (0, 0)) := (hk.block g (Array.getElem?_eq_some_iff.1 h).1 (far51 h)).trans h
theorem rep_next (rs : List Int) {a N k : Nat} (h : N ≤ a) : (rs ++ List.replicate (a - N) (-1)) ++ List.replicate k (-1) = rs ++ List.replicate (a + k - N) (-1) := by
  rw [List.append_assoc, List.replicate_append_replicate, show a - N + k = a + k - N by omega]

theorem len_real {n : Nat} : ∀ (l : List (Ex n)), (∀ x ∈ l, full n x) → l.length ≤ (l.map (fun x => realN n x)).sum
  | [], _ => by simp
  | x :: r, h => by
    have h1 := real_pos (h x (by simp))
    have h2 := len_real r (fun y hy => h y (by simp [hy]))
    rw [List.map_cons, List.sum_cons, List.length_cons]
    omega
theorem expr_boxes {w : World} {base q N : Nat} {F : Nat → Nat → Prop} {S : Nat → Nat → Nat → Prop} {rs : List Int} (hB : Bm w base q F S N rs) (kk ss : Nat) (x : Value) :
    ((w.alloc (.cells #[.int .u8 kk, .int .u16 ss, x] 55)).alloc (.cells #[.int .i64 0, .int .i64 0] 180)).heap[w.heap.size]? = some (.cells #[.int .u8 kk, .int .u16 ss, x] 55 (0, 0)) ∧ ((w.alloc (.cells #[.int .u8 kk, .int .u16 ss, x] 55)).alloc (.cells #[.int .i64 0, .int .i64 0] 180)).heap[w.heap.size + 1]? = some (.cells #[.int .i64 0, .int .i64 0] 180 (0, 0)) ∧
      Below w.heap.size w ((w.alloc (.cells #[.int .u8 kk, .int .u16 ss, x] 55)).alloc (.cells #[.int .i64 0, .int .i64 0] 180)) ∧ Bm ((w.alloc (.cells #[.int .u8 kk, .int .u16 ss, x] 55)).alloc (.cells #[.int .i64 0, .int .i64 0] 180)) base q F S N rs ∧ ((w.alloc (.cells #[.int .u8 kk, .int .u16 ss, x] 55)).alloc (.cells #[.int .i64 0, .int .i64 0] 180)).heap.size = w.heap.size + 2 := by
  have hb := ((Below.refl w.heap.size w).alloc (Nat.le_refl _) (.cells #[.int .u8 kk, .int .u16 ss, x] 55)).alloc (by simp) (.cells #[.int .i64 0, .int .i64 0] 180)
  have e := heap_alloc_last (w.alloc (.cells #[.int .u8 kk, .int .u16 ss, x] 55)) (.cells #[.int .i64 0, .int .i64 0] 180)
  rw [show (w.alloc (.cells #[.int .u8 kk, .int .u16 ss, x] 55)).heap.size = w.heap.size + 1 by simp] at e
  exact ⟨by rw [Below.heap_alloc _ _ _ (by simp)]; exact heap_alloc_last w _, e, hb, bm_below hb hB, by simp⟩

set_option maxRecDepth 100000 in
set_option maxHeartbeats 6400000 in
theorem expr_any (base q : Nat) (w0 : World) (h0 : w0.heap.size ≤ base) : ∀ (n : Nat) (t : Ex n) (v : Value) (F : Nat → Nat → Prop) (S : Nat → Nat → Nat → Prop) (N : Nat) (rs : List Int) (w : World), Rx w0 n t v → Below w0.heap.size w0 w → shapesE n t = true → N + 2 * realN n t ≤ 9999 → (∀ i j, F i j → i < N ∧ j < N) → (∀ i s j, S i s j → i < N) → Bm w base q F S N rs →
    Calls Tryz.prog 123 #[.pointer (some ⟨q, 0, none⟩), v] w fun e w' => e = .returned (.agg #[.int .i64 N, .int .i64 (N + 2 * realN n t - 1 : Nat)]) ∧ Bm w' base q (fun i j => F i j ∨ Fr n t N i j) (fun i s j => S i s j ∨ Sp n t N i s j) (N + 2 * realN n t) (rs ++ List.replicate (2 * realN n t) (-1)) ∧ Kb base w w' := by
  intro n
  obtain ⟨i60, hi60, hz60, hs60, hy60⟩ := info_parts info180
  induction n with
  | zero => intro t v F S N rs w h; exact h.elim
  | succ n ih =>
    intro t v F S N rs w h hb0 hsh hle hF hS hB
    have hful := rx_full (n + 1) t v h
    obtain ⟨a, len, cap, rfl, hkd, hst, hl, h6, hkids⟩ := rx_open h
    obtain ⟨hok, hksh⟩ := shapes_open hsh
    have hre := real_eq t
    have hpa := pos_all (ks t) (N + 1)
    have hlr := len_real (ks t) hful
    have hlen : len ≤ 5000 := by omega
    have H := hide (expr_boxes hB (kd t) (st t) (.slice a len cap))
    have HBS := hide (bm_lt hB)
    have HB0 := hide (hb0.trans (H.out.2.2.1.mono hb0.size))
    have HF := hide hF
    have HS := hide hS
    have HFUL := hide hful
    have HK := hide hkids
    have HOK := hide hok
    have HKS := hide hksh
    have HRE := hide hre
    have HPA := hide hpa
    have HLE := hide hle
    have HL6 := hide h6
    have HSB := hide (show base ≤ w.heap.size by have := bm_lt hB; omega)
    clear hB hb0 hF hS hful hkids h hsh hok hksh hlr
    unfold maxLen at hl
    go_enter Tryz.func123, Tryz.ntmps123
    go_wp2_with fail
    generalize (w.alloc (.cells #[.int .u8 (kd t : Nat), .int .u16 (st t : Nat), .slice a len cap] 55)).alloc (.cells #[.int .i64 0, .int .i64 0] 180) = W at *
    generalize hQ : w.heap.size = P at *
    refine (state_m base q F S N rs W H.out.2.2.2.1 (by omega) (fun j hj => by have := HF.out N j hj; omega) (fun s j hj => by have := HS.out N s j hj; omega)).mono ?_
    rintro e w1 ⟨rfl, hbm1, hk1⟩
    have HBM1 := hide hbm1
    have HK1 := hide hk1
    obtain ⟨-, -, d2⟩ := blk51 (kb51 hk1 H.out.1)
    clear hbm1 hk1 hre hpa hle h6
    go_wp2_with fail
    go_loopw [6, 8, 15] (fun vk _ i wr => ∃ (k : Nat), k ≤ len ∧ i = .int .i64 k ∧ wr.ownsRow W.heap.size 180 2 vk k (prC (layE (N + 1) (ks t)) k) ∧ Bm wr base q (FK F (N + 1) (ks t) k) (SK S (N + 1) (ks t) k) (posE (N + 1) (ks t) k) (rs ++ List.replicate (posE (N + 1) (ks t) k - N) (-1)) ∧ Kb base W wr) (fun _ _ i _ => len - (intOf i).toNat)
    case atStart => exact ⟨0, Nat.zero_le _, rfl, World.ownsRow_nil _ _ _ _, by
      have := bm_congr HBM1.out (fun i j => fk_zero (n := n) (l := ks t) (s := N + 1) i j) (fun i u j => sk_zero (n := n) (l := ks t) (s := N + 1) i u j)
      have e : posE (N + 1) (ks t) 0 = N + 1 := by simp [posE]
      rw [e, show N + 1 - N = 1 by omega]
      exact this, HK1.out⟩
    case round =>
      obtain ⟨k, hk, rfl, hown, hbm, hkb⟩ := hrel
      have HOWN := hide hown
      have HBM := hide hbm
      have HKB := hide hkb
      clear hown hbm hkb d2
      have HB1 := hide (show Below w0.heap.size w0 wr from HB0.out.trans ((HKB.out.below (by have := H.out.2.2.2.2; have := HSB.out; omega)).mono h0))
      by_cases hlt : k < len
      · obtain ⟨x, b, off, c0, c1, c2, rfl, hx, m0, m1, m2, m3⟩ := HK.out wr HB1.out k hlt
        obtain ⟨x', b', off', c0', c1', c2', eb, hx', m0', m1', m2', m3'⟩ := HK.out w0 (Below.refl _ _) k hlt
        obtain rfl : x = x' := Option.some.inj (hx.symm.trans hx')
        cases eb
        have e0 : c0' = c0 := Option.some.inj (((HB1.out.cell (p := ⟨b, off + k * 3, none⟩) (cell_lt m0')).trans m0').symm.trans m0)
        have e1 : c1' = c1 := Option.some.inj (((HB1.out.cell (p := ⟨b, off + k * 3 + 1, none⟩) (cell_lt m1')).trans m1').symm.trans m1)
        have e2 : c2' = c2 := Option.some.inj (((HB1.out.cell (p := ⟨b, off + k * 3 + 2, none⟩) (cell_lt m2')).trans m2').symm.trans m2)
        subst e0; subst e1; subst e2
        obtain ⟨kx, sx, ax, lx, cx, rfl, rfl, rfl⟩ := rx_cells m3'
        have HX3 := hide m3'
        have HXX := hide hx
        have i3 : (0 : Int) ≤ (k : Int) := by omega
        have i4 : (k : Int) < (len : Int) := by omega
        have hmx := List.mem_of_getElem? hx
        have HMX := hide hmx
        have hpn := pos_next (s := N + 1) hx
        have hpm := pos_mono (l := ks t) (s := N + 1) (ks t).length (k + 1) (by have := HL6.out; omega) (Nat.le_refl _)
        have hbound : posE (N + 1) (ks t) k + 2 * realN n x ≤ N + 2 * realN (n + 1) t := by have := HPA.out; have := HRE.out; omega
        have hrx := real_pos (HFUL.out x hmx)
        have hgeN : N + 1 ≤ posE (N + 1) (ks t) k := by unfold posE; omega
        have HPN := hide hpn
        have HBD := hide hbound
        have HGE := hide hgeN
        have HBA := hide (bm_below ((Below.refl _ _).alloc (Nat.le_refl _) (.cells #[.int .u8 kx, .int .u16 sx, .slice ax lx cx] 55)) HBM.out)
        have HBB := hide (HB1.out.alloc HB1.out.size (.cells #[.int .u8 kx, .int .u16 sx, .slice ax lx cx] 55))
        have HRX := hide hrx
        have HPRC := hide (show prC (layE (N + 1) (ks t)) (k + 1) = prC (layE (N + 1) (ks t)) k ++ [.int .i64 (posE (N + 1) (ks t) k : Nat), .int .i64 (posE (N + 1) (ks t) k + 2 * realN n x - 1 : Nat)] from prC_next (lay_at (ks t) (N + 1) k x hx))
        have HFN := hide (fun i j => fk_next (F := F) (s := N + 1) hx i j)
        have HSN := hide (fun i u j => sk_next (S := S) (s := N + 1) hx i u j)
        clear m0' m1' m2' m3' m3 hx hx' hmx hpn hpm hbound hrx hgeN
        go_wp2_with fail
        refine (ih x _ (FK F (N + 1) (ks t) k) (SK S (N + 1) (ks t) k) (posE (N + 1) (ks t) k) _ _ HX3.out HBB.out (HKS.out x HMX.out) (by have := HBD.out; have := HLE.out; omega) (fk_rng (by omega) HF.out HFUL.out (by have := HL6.out; omega)) (sk_rng (by omega) HS.out HFUL.out (by have := HL6.out; omega)) HBA.out).mono ?_
        rintro e w2 ⟨rfl, hbm2, hk2⟩
        have HO2 := hide (own_kb (HOWN.out.alloc (.cells #[.int .u8 kx, .int .u16 sx, .slice ax lx cx] 55)) hk2)
        have HK2 := hide (HKB.out.trans ((kb_alloc (.cells #[.int .u8 kx, .int .u16 sx, .slice ax lx cx] 55)).trans hk2))
        have HBM2 := hide hbm2
        have HPB := hide (show posE (N + 1) (ks t) k ≤ 10000 ∧ posE (N + 1) (ks t) k + 2 * realN n x - 1 ≤ 10000 by have := HBD.out; have := HLE.out; omega)
        have HENQ := hide (show en (posE (N + 1) (ks t) k, x) = posE (N + 1) (ks t) k + 2 * realN n x - 1 from rfl)
        have HWS := hide (show W.heap.size ≤ w2.heap.size from HK2.out.size)
        clear hbm2 hk2 m0 m1 m2
        generalize posE (N + 1) (ks t) k = pk at *
        generalize hek : pk + 2 * realN n x - 1 = ek at *
        go_wp2_with (at_builtin; refine wpList_append_lies _ rfl _ _ 203 rfl W.heap.size 180 i60 (.agg #[.int .i64 0, .int .i64 0]) 2 16 Tryz.underlying203 hi60 hz60 hs60 hy60 rfl (by decide) _ _ _ rfl (HO2.out.alloc _) ⟨_, 0, none⟩ 1 1 [.int .i64 pk, .int .i64 ek] rfl rfl (two_new w2 _ _ _) (fun u hu => by simp only [List.mem_cons, List.not_mem_nil, or_false] at hu; rcases hu with rfl | rfl <;> rfl) (by decide) (by unfold maxLen; omega) (by omega) (by have := HWS.out; simp; omega) _ rfl ?_)
        intro g cap' w3 hown3 hgrow3 hat3 hlt3
        have HO3 := hide (show w3.ownsRow W.heap.size 180 2 (.slice (some ⟨g, 0, none⟩) (k + 1) cap') (k + 1) (prC (layE (N + 1) (ks t)) (k + 1)) from by rw [HPRC.out]; exact hown3)
        have HB3 := hide (bm_grown (bm_below ((Below.refl _ _).alloc (Nat.le_refl _) _) HBM2.out) hgrow3 (fun j hj => by
          obtain ⟨_, _, cs, hc⟩ := own_type (HO2.out.alloc _) hj
          exact ⟨cs, _, hc⟩))
        have HK3 := hide (kb_grown (HK2.out.trans (kb_alloc _)) hgrow3 (fun j hj => (own_type HO2.out hj).1))
        clear hown3 hgrow3 hat3 hlt3
        go_wp2
        go_roundw
        case rel => exact ⟨k + 1, by omega, by go_num, HO3.out, by
          have := bm_congr HB3.out HFN.out HSN.out
          rw [HPN.out, ← rep_next rs (by have := HGE.out; omega)]
          exact this, HK3.out⟩
        case measure => simp [intOf]; omega
      · have e' : k = len := by omega
        subst e'
        obtain ⟨ed, hed⟩ : ∃ ed, N + 2 * realN (n + 1) t - 1 = ed := ⟨_, rfl⟩
        have hpe : posE (N + 1) (ks t) k = ed := by have := HPA.out; have := HRE.out; have := HL6.out; rw [← HL6.out]; omega
        have hr1 := real_pos HFUL.out
        have hedN : N < ed ∧ ed ≤ 9998 := by have := HLE.out; omega
        have HED := hide hed
        have HEN := hide hedN
        have hfr := fk_rng (k := k) (show N ≤ N + 1 by omega) HF.out HFUL.out (by have := HL6.out; omega)
        have hsr := sk_rng (k := k) (show N ≤ N + 1 by omega) HS.out HFUL.out (by have := HL6.out; omega)
        rw [hpe] at HBM hfr hsr
        have HFR := hide hfr
        have HSR := hide hsr
        have hfs := fun m j hm => fk_src (t := t) HF.out HFUL.out m j hm
        have hsh := fun u j => sk_here (t := t) HS.out HFUL.out u j
        rw [HL6.out] at hfs hsh
        have HFS := hide hfs
        have HSH := hide hsh
        clear hed hpe hr1 hedN hfr hsr hfs hsh
        go_wp2_with fail
        refine (state_m base q _ _ ed _ wr HBM.out (by have := HEN.out; omega) (fun j hj => by have := HFR.out ed j hj; omega) (fun s j hj => by have := HSR.out ed s j hj; omega)).mono ?_
        rintro e w2 ⟨rfl, hbm2, hk2⟩
        have HBM2 := hide hbm2
        have HK2 := hide (HKB.out.trans hk2)
        have HO2 := hide (own_kb HOWN.out hk2)
        obtain ⟨d0, d1, d2⟩ := blk51 (kb51 HK2.out H.out.1)
        obtain ⟨av, capv, rfl, hpts⟩ := pts_own HO2.out (by rw [lay_len]; exact HL6.out)
        have HPT := hide (pts_kb (kb_alloc (base := base) (.cells #[.int .i64 N, .int .i64 ed] 180)) hpts)
        have HBMA := hide (bm_below ((Below.refl _ _).alloc (Nat.le_refl _) (.cells #[.int .i64 N, .int .i64 ed] 180)) hbm2)
        have HKA := hide (HK2.out.trans (kb_alloc (.cells #[.int .i64 N, .int .i64 ed] 180)))
        have HP9 := hide (heap_alloc_last w2 (.cells #[.int .i64 N, .int .i64 ed] 180))
        have hlt2 := cell_lt d0
        clear hbm2 hk2 hpts
        go_wp2_with fail
        have st := steps_any base q _ _ (ed + 1) _ t (.slice a k cap) av capv N ed (ed + 1) _ HBMA.out (by have := HEN.out; omega) (by have := HEN.out; omega) (fun a b h => by have := HFR.out a b h; omega) (by omega) (by omega) HED.out HFUL.out HOK.out (by have := HL6.out; omega) (by rw [HL6.out]; exact HFS.out) HSH.out (by rw [HL6.out]; exact HPT.out)
        rw [HL6.out] at st
        refine st.mono ?_
        rintro e w3 ⟨rfl, hbm3, hk3⟩
        have HBM3 := hide hbm3
        have HK3 := hide (HKA.out.trans hk3)
        obtain ⟨⟨s0, s1⟩, -⟩ := blk60 (kb60 hk3 HP9.out)
        have hP1 := kb60 HK3.out H.out.2.1
        obtain ⟨⟨r0, r1⟩, rz⟩ := blk60 hP1
        have f0 := rz 0
        have f1 := rz 1
        have HP1 := hide hP1
        clear hbm3 hk3 d0 d1 d2 rz hP1 st
        have g3 : w3.grownBy ((w3.setCell ⟨P + 1, 0, none⟩ (.int .i64 N)).setCell ⟨P + 1, 1, none⟩ (.int .i64 ed)) (some (P + 1)) := ⟨rfl, rfl, rfl, by simp, fun k _ hk => by rw [Below.heap_setCell _ _ _ _ (fun e => hk (by rw [show k = P + 1 from e])), Below.heap_setCell _ _ _ _ (fun e => hk (by rw [show k = P + 1 from e]))]⟩
        have HWF := hide (blk_set (blk_set HP1.out 0 (.int .i64 N)) 1 (.int .i64 ed))
        have HBF := hide (bm_grown HBM3.out g3 (fun k e => by cases e; exact ⟨_, _, HP1.out⟩))
        have HKF := hide (kb_grown (Kb.trans (show Kb base w W from ⟨H.out.2.2.1.os, H.out.2.2.1.tape, H.out.2.2.1.output, by have := H.out.2.2.2.2; omega, fun k hk _ => H.out.2.2.1.block k (by omega)⟩) HK3.out) g3 (fun k e => by cases e; omega))
        clear g3
        go_wp2
        obtain ⟨⟨m0, m1⟩, -⟩ := blk60 HWF.out
        refine bodyPost_ret (v := .agg #[.int .i64 N, .int .i64 ed]) (by simp [results, Tryz.results123, go_sem, m0, m1]) rfl ?_
        refine ⟨by rw [HED.out], ?_, HKF.out⟩
        have hE := HEN.out
        have hD := HED.out
        have e1 : N + 2 * realN (n + 1) t = ed + 1 := by have := real_pos HFUL.out; omega
        have e2 : 2 * realN (n + 1) t = ed + 1 - N := by omega
        have hB := HBF.out
        rw [show ([-1] : List Int) = List.replicate 1 (-1) from rfl, rep_next rs (by omega)] at hB
        rw [e1, e2]
        have ht : (layE (N + 1) (ks t)).take k = layE (N + 1) (ks t) := List.take_of_length_le (by rw [lay_len]; have := HL6.out; omega)
        refine bm_congr hB (fun i j => ?_) (fun i u j => ?_)
        · rw [fr_node]; unfold FK; rw [ht]; exact or_assoc
        · unfold SK
          rw [ht]
          show ((S i u j ∨ ∃ p ∈ layE (N + 1) (ks t), Sp n p.2 p.1 i u j) ∨ _) ↔ (S i u j ∨ ((kd t = 1 ∧ i = N ∧ u = st t ∧ j = N + 2 * realN (n + 1) t - 1) ∨ ∃ p ∈ layE (N + 1) (ks t), Sp n p.2 p.1 i u j))
          rw [hD]
          constructor
          · rintro ((h | h) | h)
            · exact .inl h
            · exact .inr (.inr h)
            · exact .inr (.inl h)
          · rintro (h | h | h)
            · exact .inl (.inl h)
            · exact .inr h
            · exact .inl (.inr h)
end Go.Proofs.YtbbfjjjnifomgaaGreatDoor.A


