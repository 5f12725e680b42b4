/- The document's Ends, whole. -/
import Derived.Test.YtccaknabpnpjaaaGreatDoorPk7
namespace Go.Proofs.YtccaknabpnpjaaaGreatDoor.A
open Go.RowKit

theorem gives_congr {w : World} {N : Nat} {g h : Nat → Bool} {e : Ending} {w' : World} (d : Gives w N g e w') (q : ∀ j, j < N → g j = h j) : Gives w N h e w' := by
  obtain ⟨B, h1, h2, h3, h4⟩ := d
  exact ⟨B, h1, h2, mk_congr h3 q, h4⟩
theorem ends_any (word : List Int) : ∀ (n : Nat) (t : Ex n), EndsOf word n t
  | 0, _ => fun _ _ _ _ _ _ _ _ _ _ _ h => h.elim
  | n + 1, t => by
    intro v a L N cap F o w hw hN hL h hsh hW hF
    obtain ⟨y, len, ycap, rfl, hk, hs, hl, h6, hkids⟩ := rx_open h
    have hsh2 : (okE (kd t) (st t) (ks t).length && (ks t).all (fun x => shapesE n x)) = true := hsh
    rw [Bool.and_eq_true, List.all_eq_true] at hsh2
    obtain ⟨hok, hall⟩ := hsh2
    have hkk : kd t = 0 ∨ kd t = 1 ∨ kd t = 2 ∨ kd t = 3 ∨ kd t = 4 ∨ kd t = 5 ∨ 5 < kd t := by omega
    have one : kd t = 4 ∨ kd t = 5 → len = 1 := fun q => by
      rw [h6] at hok
      unfold okE at hok
      simp only [Bool.or_eq_true, Bool.and_eq_true, decide_eq_true_eq] at hok
      omega
    rcases hkk with e | e | e | e | e | e | e
    · rw [e]
      refine (ends_k0 _ _ a L N cap F o w hN hL hF).mono fun e' w' hg => gives_congr hg (fun j hj => ?_)
      unfold endsE; rw [if_pos e]
    · rw [e]
      refine (ends_k1 (st t) _ a word L N cap F o w hN hL hw hs hF hW).mono fun e' w' hg => gives_congr hg (fun j hj => ?_)
      unfold endsE chB; rw [if_neg (by omega), if_pos e, show decide (j ≤ L) = true from decide_eq_true (by omega), Bool.true_and]; cases word[j - 1]? <;> rfl
    · rw [e]
      refine (ends_k2 word n (fun x => ends_any word n x) _ y a len ycap (ks t) L N cap F o w hw hN hL hF hW hl h6 hkids hall).mono fun e' w' hg => gives_congr hg (fun j hj => ?_)
      conv => rhs; unfold endsE
      rw [if_neg (by omega), if_neg (by omega), if_pos e]
    · rw [e]
      refine (ends_k3 word n (fun x => ends_any word n x) _ y a len ycap (ks t) L N cap F o w hw hN hL hF hW hl h6 hkids hall).mono fun e' w' hg => gives_congr hg (fun j hj => ?_)
      conv => rhs; unfold endsE
      rw [if_neg (by omega), if_neg (by omega), if_neg (by omega), if_pos e]; rfl
    · obtain rfl := one (.inl e)
      obtain ⟨x, hx⟩ := List.length_eq_one_iff.1 h6
      rw [hx] at hkids hall
      rw [e]
      refine (ends_k4 word n x (ends_any word n x) _ y a ycap L N cap F o w hw hN hL hF hW hkids (hall x (by simp))).mono fun e' w' hg => gives_congr hg (fun j hj => ?_)
      conv => rhs; unfold endsE
      rw [if_neg (by omega), if_neg (by omega), if_neg (by omega), if_neg (by omega), if_pos e, hx, show word.length + 1 = N by omega]; rfl
    · obtain rfl := one (.inr e)
      obtain ⟨x, hx⟩ := List.length_eq_one_iff.1 h6
      rw [hx] at hkids hall
      rw [e]
      refine (ends_k5 word n x (ends_any word n x) _ y a ycap L N cap F o w hw hN hL hF hW hkids (hall x (by simp))).mono fun e' w' hg => gives_congr hg (fun j hj => ?_)
      conv => rhs; unfold endsE
      rw [if_neg (by omega), if_neg (by omega), if_neg (by omega), if_neg (by omega), if_neg (by omega), if_pos e, hx]; rfl
    · exfalso
      rw [h6] at hok
      unfold okE at hok
      simp only [Bool.or_eq_true, Bool.and_eq_true, decide_eq_true_eq] at hok
      omega
theorem mk_newg (w : World) (o1 : Obj) (N : Nat) (g : Nat → Bool) : Mk ((w.alloc o1).alloc (.cells (rowB N g) 4)) (w.heap.size + 1) N g := by
  have := heap_alloc_last (w.alloc o1) (.cells (rowB N g) 4)
  rw [show (w.alloc o1).heap.size = w.heap.size + 1 by simp] at this
  exact this
set_option maxRecDepth 100000 in
set_option maxHeartbeats 1600000 in
/-- Has. -/
theorem has_any (word : List Int) (n : Nat) (t : Ex n) (v : Value) (a : Option Addr) (L cap : Nat) (w : World) (hw : word.length = L) (hL : L ≤ 1000) (h : Rx w n t v) (hsh : shapesE n t = true) (hW : Wd w a word) :
    Calls Tryz.prog 10 #[v, .slice a L cap] w fun e w' => e = .returned (.bool (hasE n t word)) ∧ Below w.heap.size w w' := by
  obtain ⟨N, hN⟩ : ∃ N : Nat, (L : Int) + 1 = (N : Int) := ⟨L + 1, by omega⟩
  have hmk : ∀ w, (Instr.makeSlice 68 (.int .i64 (N : Int)) (.int .i64 (N : Int))).run Tryz.prog w = .ok (.slice (some ⟨w.heap.size, 0, none⟩) N N) (w.alloc (.cells (rowB N fun _ => false) 4)) := make39 N (by omega)
  have m0 := rowB_at (n := N) (fun _ => false) (j := 0) (by omega)
  have i0 : (0 : Int) < (N : Int) := by omega
  have HX := hide h
  have HS := hide hsh
  have HW := hide hW
  have HWL := hide hw
  clear h hsh hW hw
  cases n with
  | zero => exact HX.out.elim
  | succ n =>
  obtain ⟨y, len, ycap, rfl, -, -, -, -, -⟩ := rx_open HX.out
  have HB0 := hide (((Below.refl w.heap.size w).alloc (Nat.le_refl _) (.cells #[.int .u8 (kd t : Nat), .int .u16 (st t : Nat), .slice y len ycap] 38)).alloc (by simp) (.cells (rowB N fun i => if i = 0 then true else false) 4))
  have HM := hide (mk_newg w (.cells #[.int .u8 (kd t : Nat), .int .u16 (st t : Nat), .slice y len ycap] 38) N (fun i => if i = 0 then true else false))
  have HST := hide (rowB_set (n := N) (fun _ => false) (j := 0) true (by omega))
  have i1 : (0 : Int) ≤ (L : Int) := by omega
  have i2 : (L : Int) < (N : Int) := by omega
  go_enter Tryz.func10, Tryz.ntmps10
  go_wp2_with fail
  rw [HST.out]
  have HB := HB0
  clear HB0 hmk HST
  refine (ends_any word (n + 1) t _ a L N cap (w.heap.size + 1) _ _ HWL.out hN hL (rx_below HB.out _ _ _ HX.out) HS.out (wd_below HB.out HW.out) HM.out).mono ?_
  rintro e w2 ⟨C, hC, rfl, hm2, hb2⟩
  obtain ⟨r0, -⟩ := mk_cell hm2 (j := L) (by omega)
  have HB2 := hide (HB.out.trans (hb2.mono HB.out.size))
  have HR := hide (show endsE word (n + 1) t (fun i => if i = 0 then true else false) L = hasE (n + 1) t word from by
    unfold hasE
    rw [HWL.out]
    exact ends_looks word N (n + 1) t _ _ (fun j _ => by by_cases q : j = 0 <;> simp [q]) L (by omega))
  clear hm2 hb2 HM HB
  go_wp2
  go_ret
  exact ⟨ret_bool HR.out, HB2.out⟩
end Go.Proofs.YtccaknabpnpjaaaGreatDoor.A

/- The machine of an expression, as steps between states: plain mathematics. -/
namespace Go.Proofs.YtccaknabpnpjaaaGreatDoor.A
set_option linter.unusedVariables false
theorem real_pos {n : Nat} {t : Ex n} (h : full n t) : 1 ≤ realN n t := by
  cases n with
  | zero => exact h.elim
  | succ n => show 1 ≤ 1 + _; omega

/-- The last state of an expression that begins somewhere. -/
def en {n : Nat} (p : Nat × Ex n) : Nat := p.1 + 2 * realN n p.2 - 1
/-- Parts, each with the state at which it begins. -/
def layE {n : Nat} : Nat → List (Ex n) → List (Nat × Ex n)
  | _, [] => []
  | b, x :: r => (b, x) :: layE (b + 2 * realN n x) r
/-- From each part to the next. -/
def Cj {n : Nat} : Nat → List (Nat × Ex n) → Nat → Nat → Nat → Prop
  | last, [], e, i, j => i = last ∧ j = e
  | last, p :: r, e, i, j => (i = last ∧ j = p.1) ∨ Cj (en p) r e i j
/-- The free steps. -/
def Fr : (n : Nat) → Ex n → Nat → Nat → Nat → Prop
  | 0, _, _, _, _ => False
  | n + 1, t, b, i, j => (∃ p ∈ layE (b + 1) (ks t), Fr n p.2 p.1 i j) ∨ (kd t = 0 ∧ i = b ∧ j = b + 2 * realN (n + 1) t - 1) ∨
      (kd t = 2 ∧ Cj b (layE (b + 1) (ks t)) (b + 2 * realN (n + 1) t - 1) i j) ∨
      (kd t = 3 ∧ ∃ p ∈ layE (b + 1) (ks t), (i = b ∧ j = p.1) ∨ (i = en p ∧ j = b + 2 * realN (n + 1) t - 1)) ∨
      (kd t = 4 ∧ ∃ p ∈ layE (b + 1) (ks t), (i = b ∧ j = p.1) ∨ (i = b ∧ j = b + 2 * realN (n + 1) t - 1) ∨ (i = en p ∧ j = p.1) ∨ (i = en p ∧ j = b + 2 * realN (n + 1) t - 1)) ∨
      (kd t = 5 ∧ ∃ p ∈ layE (b + 1) (ks t), (i = b ∧ j = p.1) ∨ (i = b ∧ j = b + 2 * realN (n + 1) t - 1) ∨ (i = en p ∧ j = b + 2 * realN (n + 1) t - 1))
/-- The steps by a set. -/
def Sp : (n : Nat) → Ex n → Nat → Nat → Nat → Nat → Prop
  | 0, _, _, _, _, _ => False
  | n + 1, t, b, i, s, j => (kd t = 1 ∧ i = b ∧ s = st t ∧ j = b + 2 * realN (n + 1) t - 1) ∨ ∃ p ∈ layE (b + 1) (ks t), Sp n p.2 p.1 i s j

theorem real_eq {n : Nat} (t : Ex (n + 1)) : realN (n + 1) t = 1 + ((ks t).map (fun x => realN n x)).sum := rfl
theorem lay_rng {n : Nat} : ∀ (l : List (Ex n)) (s : Nat) (p : Nat × Ex n), p ∈ layE s l → s ≤ p.1 ∧ p.1 + 2 * realN n p.2 ≤ s + 2 * (l.map (fun x => realN n x)).sum ∧ p.2 ∈ l
  | [], s, p, h => by cases h
  | x :: r, s, p, h => by
    rw [List.map_cons, List.sum_cons]
    rcases List.mem_cons.1 h with rfl | h
    · exact ⟨Nat.le_refl _, by show s + 2 * realN n x ≤ _; omega, by simp⟩
    · obtain ⟨h1, h2, h3⟩ := lay_rng r _ p h
      exact ⟨by omega, by omega, by simp [h3]⟩
theorem lay_in {n : Nat} {t : Ex (n + 1)} (h : full (n + 1) t) {b : Nat} {p : Nat × Ex n} (hp : p ∈ layE (b + 1) (ks t)) : b < p.1 ∧ p.1 ≤ en p ∧ en p < b + 2 * realN (n + 1) t - 1 ∧ full n p.2 ∧ p.2 ∈ ks t ∧ 1 ≤ realN n p.2 := by
  obtain ⟨h1, h2, h3⟩ := lay_rng _ _ _ hp
  have hf : full n p.2 := h _ h3
  have hr := real_pos hf
  have e := real_eq t
  unfold en
  exact ⟨by omega, by omega, by omega, hf, h3, hr⟩
theorem cj_src {n : Nat} : ∀ (l : List (Nat × Ex n)) (last e i j : Nat), Cj last l e i j → i = last ∨ ∃ p ∈ l, i = en p
  | [], last, e, i, j, h => .inl h.1
  | p :: r, last, e, i, j, h => by
    rcases h with h | h
    · exact .inl h.1
    · rcases cj_src r _ e i j h with h | ⟨q, hq, h⟩
      · exact .inr ⟨p, by simp, h⟩
      · exact .inr ⟨q, by simp [hq], h⟩
theorem cj_dst {n : Nat} : ∀ (l : List (Nat × Ex n)) (last e i j : Nat), Cj last l e i j → j = e ∨ ∃ p ∈ l, j = p.1
  | [], last, e, i, j, h => .inl h.2
  | p :: r, last, e, i, j, h => by
    rcases h with h | h
    · exact .inr ⟨p, by simp, h.2⟩
    · rcases cj_dst r _ e i j h with h | ⟨q, hq, h⟩
      · exact .inl h
      · exact .inr ⟨q, by simp [hq], h⟩
theorem fr_rng : ∀ (n : Nat) (t : Ex n) (b i j : Nat), full n t → Fr n t b i j → b ≤ i ∧ i < b + 2 * realN n t - 1 ∧ b < j ∧ j ≤ b + 2 * realN n t - 1
  | 0, _, _, _, _, h, _ => h.elim
  | n + 1, t, b, i, j, hf, h => by
    have hr := real_pos hf
    rcases h with ⟨p, hp, h⟩ | ⟨_, rfl, rfl⟩ | ⟨_, h⟩ | ⟨_, p, hp, h⟩ | ⟨_, p, hp, h⟩ | ⟨_, p, hp, h⟩
    · obtain ⟨a1, a2, a3, a4, _, _⟩ := lay_in hf hp
      have := fr_rng n p.2 p.1 i j a4 h
      unfold en at a2 a3
      omega
    · omega
    · have s := cj_src _ _ _ _ _ h
      have d := cj_dst _ _ _ _ _ h
      have hs : b ≤ i ∧ i < b + 2 * realN (n + 1) t - 1 := by
        rcases s with rfl | ⟨p, hp, rfl⟩
        · omega
        · obtain ⟨a1, a2, a3, _⟩ := lay_in hf hp; omega
      have hd : b < j ∧ j ≤ b + 2 * realN (n + 1) t - 1 := by
        rcases d with rfl | ⟨p, hp, rfl⟩
        · omega
        · obtain ⟨a1, a2, a3, _⟩ := lay_in hf hp; omega
      exact ⟨hs.1, hs.2, hd.1, hd.2⟩
    all_goals
      obtain ⟨a1, a2, a3, _⟩ := lay_in hf hp
      omega
theorem sp_rng : ∀ (n : Nat) (t : Ex n) (b i s j : Nat), full n t → Sp n t b i s j → b ≤ i ∧ i < b + 2 * realN n t - 1 ∧ b < j ∧ j ≤ b + 2 * realN n t - 1
  | 0, _, _, _, _, _, h, _ => h.elim
  | n + 1, t, b, i, s, j, hf, h => by
    have hr := real_pos hf
    rcases h with ⟨_, rfl, _, rfl⟩ | ⟨p, hp, h⟩
    · omega
    · obtain ⟨a1, a2, a3, a4, _, _⟩ := lay_in hf hp
      have := sp_rng n p.2 p.1 i s j a4 h
      unfold en at a2 a3
      omega

/-- Ways: from a state and a place of a word to others. -/
inductive Wy (word : List Int) (F : Nat → Nat → Prop) (S : Nat → Nat → Nat → Prop) (q0 i0 : Nat) : Nat → Nat → Prop
  | here : Wy word F S q0 i0 q0 i0
  | free {q i q' : Nat} : Wy word F S q0 i0 q i → F q q' → Wy word F S q0 i0 q' i
  | step {q i s q' : Nat} {c : Int} : Wy word F S q0 i0 q i → S q s q' → word[i]? = some c → inS s c = true → Wy word F S q0 i0 q' (i + 1)
theorem Wy.trans {word : List Int} {F : Nat → Nat → Prop} {S : Nat → Nat → Nat → Prop} {q0 i0 q1 i1 q2 i2 : Nat} (h : Wy word F S q0 i0 q1 i1) (k : Wy word F S q1 i1 q2 i2) : Wy word F S q0 i0 q2 i2 := by
  induction k with
  | here => exact h
  | free _ f ih => exact ih.free f
  | step _ s c d ih => exact ih.step s c d
theorem Wy.mono {word : List Int} {F F' : Nat → Nat → Prop} {S S' : Nat → Nat → Nat → Prop} (hF : ∀ a b, F a b → F' a b) (hS : ∀ a s b, S a s b → S' a s b) {q0 i0 q i : Nat} (h : Wy word F S q0 i0 q i) : Wy word F' S' q0 i0 q i := by
  induction h with
  | here => exact .here
  | free _ f ih => exact ih.free (hF _ _ f)
  | step _ s c d ih => exact ih.step (hS _ _ _ s) c d

/-- A way through parts, one behind the other. -/
theorem way_chain {n : Nat} {word : List Int} {F : Nat → Nat → Prop} {S : Nat → Nat → Nat → Prop} (hw : ∀ (x : Ex n) (b i j : Nat), Mt word n x i j → (∀ a c, Fr n x b a c → F a c) → (∀ a s c, Sp n x b a s c → S a s c) → Wy word F S b i (b + 2 * realN n x - 1) j) :
    ∀ (l : List (Ex n)) (s last e i j : Nat), (∀ a c, Cj last (layE s l) e a c → F a c) → (∀ p ∈ layE s l, (∀ a c, Fr n p.2 p.1 a c → F a c) ∧ ∀ a u c, Sp n p.2 p.1 a u c → S a u c) → Ch (l.map (fun x => Mt word n x)) i j → Wy word F S last i e j
  | [], s, last, e, i, j, hj, _, h => by
    cases h
    exact Wy.here.free (hj last e ⟨rfl, rfl⟩)
  | x :: l, s, last, e, i, j, hj, hp, ⟨k, h1, h2⟩ => by
    obtain ⟨f1, f2⟩ := hp (s, x) (by show (s, x) ∈ (s, x) :: _; simp)
    have w1 : Wy word F S last i s i := Wy.here.free (hj last s (.inl ⟨rfl, rfl⟩))
    have w2 := hw x s i k h1 f1 f2
    have w3 := way_chain hw l (s + 2 * realN n x) (en (s, x)) e k j (fun a c h => hj a c (.inr h)) (fun p hp' => hp p (by show p ∈ (s, x) :: _; simp [hp'])) h2
    exact (w1.trans w2).trans w3
/-- What matches is a way. -/
theorem way_of : ∀ (n : Nat) (t : Ex n) (word : List Int) (b i j : Nat) (F : Nat → Nat → Prop) (S : Nat → Nat → Nat → Prop), Mt word n t i j → (∀ a c, Fr n t b a c → F a c) → (∀ a s c, Sp n t b a s c → S a s c) → Wy word F S b i (b + 2 * realN n t - 1) j
  | 0, _, _, _, _, _, _, _, h, _, _ => h.elim
  | n + 1, t, word, b, i, j, F, S, ⟨hi, h⟩, hF, hS => by
    have inner : ∀ p ∈ layE (b + 1) (ks t), (∀ a c, Fr n p.2 p.1 a c → F a c) ∧ ∀ a u c, Sp n p.2 p.1 a u c → S a u c := fun p hp => ⟨fun a c h => hF a c (.inl ⟨p, hp, h⟩), fun a u c h => hS a u c (.inr ⟨p, hp, h⟩)⟩
    have head : ∀ x ∈ (ks t).head?, (b + 1, x) ∈ layE (b + 1) (ks t) := fun x hx => by
      cases hk : ks t with
      | nil => rw [hk] at hx; cases hx
      | cons y r =>
        rw [hk] at hx
        have e : y = x := by simpa using hx
        subst e
        show (b + 1, y) ∈ (b + 1, y) :: _
        simp
    have place : ∀ (l : List (Ex n)) (s : Nat) (x : Ex n), x ∈ l → ∃ p ∈ layE s l, p.2 = x := by
      intro l
      induction l with
      | nil => intro s x hx; cases hx
      | cons y r ih =>
        intro s x hx
        rcases List.mem_cons.1 hx with rfl | hx
        · exact ⟨(s, x), by show (s, x) ∈ (s, x) :: _; simp, rfl⟩
        · obtain ⟨p, hp, e⟩ := ih (s + 2 * realN n y) x hx
          exact ⟨p, by show p ∈ (s, y) :: _; simp [hp], e⟩
    rcases h with ⟨k0, rfl⟩ | ⟨k1, rfl, c, hc, hin⟩ | ⟨k2, h⟩ | ⟨k3, x, hx, h⟩ | ⟨k4, x, hx, m, h⟩ | ⟨k5, x, hx, h⟩
    · exact Wy.here.free (hF _ _ (.inr (.inl ⟨k0, rfl, rfl⟩)))
    · exact Wy.here.step (hS _ _ _ (.inl ⟨k1, rfl, rfl, rfl⟩)) hc hin
    · exact way_chain (fun x b' i' j' h1 f1 f2 => way_of n x word b' i' j' F S h1 f1 f2) (ks t) (b + 1) b _ i j (fun a c hc => hF a c (.inr (.inr (.inl ⟨k2, hc⟩)))) inner h
    · obtain ⟨p, hp, rfl⟩ := place (ks t) (b + 1) x hx
      obtain ⟨f1, f2⟩ := inner p hp
      have w1 : Wy word F S b i p.1 i := Wy.here.free (hF _ _ (.inr (.inr (.inr (.inl ⟨k3, p, hp, .inl ⟨rfl, rfl⟩⟩)))))
      have w2 := way_of n p.2 word p.1 i j F S h f1 f2
      exact (w1.trans w2).free (hF _ _ (.inr (.inr (.inr (.inl ⟨k3, p, hp, .inr ⟨rfl, rfl⟩⟩)))))
    · have hp := head x hx
      obtain ⟨f1, f2⟩ := inner _ hp
      have rounds : ∀ (m i j : Nat), Tm (Mt word n x) (m + 1) i j → Wy word F S (b + 1) i (en (b + 1, x)) j := by
        intro m
        induction m with
        | zero =>
          rintro i j ⟨k, h1, h2⟩
          cases h2
          exact way_of n x word (b + 1) i _ F S h1 f1 f2
        | succ m ih =>
          rintro i j ⟨k, h1, h2⟩
          have w1 := way_of n x word (b + 1) i k F S h1 f1 f2
          have w2 : Wy word F S (b + 1) i (b + 1) k := w1.free (hF _ _ (.inr (.inr (.inr (.inr (.inl ⟨k4, _, hp, .inr (.inr (.inl ⟨rfl, rfl⟩))⟩))))))
          exact w2.trans (ih k j h2)
      cases m with
      | zero =>
        cases h
        exact Wy.here.free (hF _ _ (.inr (.inr (.inr (.inr (.inl ⟨k4, _, hp, .inr (.inl ⟨rfl, rfl⟩)⟩))))))
      | succ m =>
        have w1 : Wy word F S b i (b + 1) i := Wy.here.free (hF _ _ (.inr (.inr (.inr (.inr (.inl ⟨k4, _, hp, .inl ⟨rfl, rfl⟩⟩))))))
        exact (w1.trans (rounds m i j h)).free (hF _ _ (.inr (.inr (.inr (.inr (.inl ⟨k4, _, hp, .inr (.inr (.inr ⟨rfl, rfl⟩))⟩))))))
    · have hp := head x hx
      obtain ⟨f1, f2⟩ := inner _ hp
      rcases h with rfl | h
      · exact Wy.here.free (hF _ _ (.inr (.inr (.inr (.inr (.inr ⟨k5, _, hp, .inr (.inl ⟨rfl, rfl⟩)⟩))))))
      · have w1 : Wy word F S b i (b + 1) i := Wy.here.free (hF _ _ (.inr (.inr (.inr (.inr (.inr ⟨k5, _, hp, .inl ⟨rfl, rfl⟩⟩))))))
        have w2 := way_of n x word (b + 1) i j F S h f1 f2
        exact (w1.trans w2).free (hF _ _ (.inr (.inr (.inr (.inr (.inr ⟨k5, _, hp, .inr (.inr ⟨rfl, rfl⟩)⟩))))))
end Go.Proofs.YtccaknabpnpjaaaGreatDoor.A

/- A way through the machine of an expression is a word of it: plain mathematics. -/
namespace Go.Proofs.YtccaknabpnpjaaaGreatDoor.A
set_option linter.unusedVariables false

/-- Within parts, one behind the other: where one may be that began at a place. -/
def AtC {n : Nat} (R : Ex n → Nat → Nat → Prop) (At : Ex n → Nat → Nat → Nat → Nat → Prop) : List (Nat × Ex n) → Nat → Nat → Nat → Prop
  | [], _, _, _ => False
  | p :: r, i0, q, i => At p.2 p.1 i0 q i ∨ ∃ j, R p.2 i0 j ∧ AtC R At r j q i
/-- Where one may be, that began at the expression's first state. -/
def AtE (word : List Int) : (n : Nat) → Ex n → Nat → Nat → Nat → Nat → Prop
  | 0, _, _, _, _, _ => False
  | n + 1, t, b, i0, q, i => i0 ≤ word.length ∧ ((q = b ∧ i = i0) ∨ (q = b + 2 * realN (n + 1) t - 1 ∧ Mt word (n + 1) t i0 i) ∨
      (kd t = 2 ∧ AtC (Mt word n) (AtE word n) (layE (b + 1) (ks t)) i0 q i) ∨ (kd t = 3 ∧ ∃ p ∈ layE (b + 1) (ks t), AtE word n p.2 p.1 i0 q i) ∨
      (kd t = 4 ∧ ∃ p ∈ (layE (b + 1) (ks t)).head?, ∃ m j, Tm (Mt word n p.2) m i0 j ∧ AtE word n p.2 p.1 j q i) ∨
      (kd t = 5 ∧ ∃ p ∈ (layE (b + 1) (ks t)).head?, AtE word n p.2 p.1 i0 q i))
theorem atc_in {n : Nat} {R : Ex n → Nat → Nat → Prop} {At : Ex n → Nat → Nat → Nat → Nat → Prop} : ∀ (l : List (Nat × Ex n)) (i0 q i : Nat), AtC R At l i0 q i → ∃ p ∈ l, ∃ j, At p.2 p.1 j q i
  | [], _, _, _, h => h.elim
  | p :: r, i0, q, i, h => by
    rcases h with h | ⟨j, _, h⟩
    · exact ⟨p, by simp, i0, h⟩
    · obtain ⟨p', hp, k, h⟩ := atc_in r j q i h
      exact ⟨p', by simp [hp], k, h⟩
theorem head_in {α : Type} {l : List α} {p : α} (h : p ∈ l.head?) : p ∈ l := by
  cases l with
  | nil => cases h
  | cons x r =>
    have e : x = p := by simpa using h
    subst e
    simp
theorem ate_rng (word : List Int) : ∀ (n : Nat) (t : Ex n) (b i0 q i : Nat), full n t → AtE word n t b i0 q i → b ≤ q ∧ q ≤ b + 2 * realN n t - 1
  | 0, _, _, _, _, _, h, _ => h.elim
  | n + 1, t, b, i0, q, i, hf, ⟨_, h⟩ => by
    have hr := real_pos hf
    have key : ∀ p ∈ layE (b + 1) (ks t), (∃ j, AtE word n p.2 p.1 j q i) → b ≤ q ∧ q ≤ b + 2 * realN (n + 1) t - 1 := fun p hp ⟨j, h⟩ => by
      obtain ⟨a1, a2, a3, a4, _, _⟩ := lay_in hf hp
      have := ate_rng word n p.2 p.1 j q i a4 h
      unfold en at a2 a3
      omega
    rcases h with ⟨rfl, _⟩ | ⟨rfl, _⟩ | ⟨_, h⟩ | ⟨_, p, hp, h⟩ | ⟨_, p, hp, m, j, _, h⟩ | ⟨_, p, hp, h⟩
    · omega
    · omega
    · obtain ⟨p, hp, j, h⟩ := atc_in _ _ _ _ h
      exact key p hp ⟨j, h⟩
    · exact key p hp ⟨i0, h⟩
    · exact key p (head_in hp) ⟨j, h⟩
    · exact key p (head_in hp) ⟨i0, h⟩
/-- At the end a word of the expression lies behind. -/
theorem ate_end (word : List Int) {n : Nat} {t : Ex n} {b i0 i : Nat} (hf : full n t) (h : AtE word n t b i0 (b + 2 * realN n t - 1) i) : Mt word n t i0 i := by
  cases n with
  | zero => exact hf.elim
  | succ n =>
    obtain ⟨_, h⟩ := h
    have hr := real_pos hf
    have key : ∀ p ∈ layE (b + 1) (ks t), ∀ j, ¬ AtE word n p.2 p.1 j (b + 2 * realN (n + 1) t - 1) i := fun p hp j h => by
      obtain ⟨a1, a2, a3, a4, _, _⟩ := lay_in hf hp
      have := ate_rng word n p.2 p.1 j _ i a4 h
      unfold en at a2 a3
      omega
    rcases h with ⟨e, _⟩ | ⟨_, h⟩ | ⟨_, h⟩ | ⟨_, p, hp, h⟩ | ⟨_, p, hp, m, j, _, h⟩ | ⟨_, p, hp, h⟩
    · omega
    · exact h
    · obtain ⟨p, hp, j, h⟩ := atc_in _ _ _ _ h
      exact (key p hp j h).elim
    · exact (key p hp _ h).elim
    · exact (key p (head_in hp) _ h).elim
    · exact (key p (head_in hp) _ h).elim
theorem ate_le {word : List Int} {n : Nat} {t : Ex n} {b i0 q i : Nat} (h : AtE word n t b i0 q i) : i0 ≤ word.length := by
  cases n with
  | zero => exact h.elim
  | succ n => exact h.1
theorem ate_begin (word : List Int) {n : Nat} {t : Ex n} (b i : Nat) (hf : full n t) (hi : i ≤ word.length) : AtE word n t b i b i := by
  cases n with
  | zero => exact hf.elim
  | succ n => exact ⟨hi, .inl ⟨rfl, rfl⟩⟩
/-- Where parts are laid, each begins behind the one ahead. -/
theorem lay_tail {n : Nat} {l : List (Ex n)} {s : Nat} {p : Nat × Ex n} (h : p ∈ layE s l) : s ≤ p.1 := (lay_rng l s p h).1
theorem cj_ge {n : Nat} (l : List (Ex n)) (hf : ∀ x ∈ l, full n x) {s last e i j : Nat} (hl : last < s) (h : Cj last (layE s l) e i j) : last ≤ i := by
  rcases cj_src _ _ _ _ _ h with rfl | ⟨p, hp, rfl⟩
  · exact Nat.le_refl _
  · obtain ⟨h1, _, h3⟩ := lay_rng _ _ _ hp
    have := real_pos (hf _ h3)
    unfold en
    omega
/-- A free step within parts, one behind the other. -/
theorem chain_free (word : List Int) {n : Nat} :
    ∀ (l : List (Ex n)) (s last e i0 q q' i : Nat), (∀ x ∈ l, ∀ (b i0 q q' i : Nat), AtE word n x b i0 q i → Fr n x b q q' → AtE word n x b i0 q' i) → (∀ x ∈ l, full n x) → i0 ≤ word.length → last < s → ((q = last ∧ i = i0) ∨ AtC (Mt word n) (AtE word n) (layE s l) i0 q i) →
      (Cj last (layE s l) e q q' ∨ ∃ p ∈ layE s l, Fr n p.2 p.1 q q') → AtC (Mt word n) (AtE word n) (layE s l) i0 q' i ∨ (q' = e ∧ Ch (l.map (fun x => Mt word n x)) i0 i)
  | [], s, last, e, i0, q, q', i, _, _, _, _, h, g => by
    rcases h with ⟨rfl, rfl⟩ | h
    · rcases g with g | ⟨p, hp, _⟩
      · exact .inr ⟨g.2, rfl⟩
      · cases hp
    · exact h.elim
  | x :: l, s, last, e, i0, q, q', i, hc, hf, hi, hl, h, g => by
    have hx : full n x := hf x (by simp)
    have hr := real_pos hx
    have hf' : ∀ y ∈ l, full n y := fun y hy => hf y (by simp [hy])
    have hc' : ∀ y ∈ l, ∀ (b i0 q q' i : Nat), AtE word n y b i0 q i → Fr n y b q q' → AtE word n y b i0 q' i := fun y hy => hc y (by simp [hy])
    have hen : en (s, x) = s + 2 * realN n x - 1 := rfl
    -- steps that leave from within the rest
    have tail_ge : ∀ a c, (Cj (en (s, x)) (layE (s + 2 * realN n x) l) e a c ∨ ∃ p ∈ layE (s + 2 * realN n x) l, Fr n p.2 p.1 a c) → en (s, x) ≤ a := fun a c g => by
      rcases g with g | ⟨p, hp, g⟩
      · exact cj_ge l hf' (by rw [hen]; omega) g
      · obtain ⟨h1, _, h3⟩ := lay_rng _ _ _ hp
        have := fr_rng n p.2 p.1 a c (hf' _ h3) g
        rw [hen]
        omega
    have split : (q = last ∧ q' = s) ∨ Fr n x s q q' ∨ (Cj (en (s, x)) (layE (s + 2 * realN n x) l) e q q' ∨ ∃ p ∈ layE (s + 2 * realN n x) l, Fr n p.2 p.1 q q') := by
      rcases g with g | ⟨p, hp, g⟩
      · rcases g with g | g
        · exact .inl g
        · exact .inr (.inr (.inl g))
      · rcases List.mem_cons.1 (show p ∈ (s, x) :: layE (s + 2 * realN n x) l from hp) with rfl | hp
        · exact .inr (.inl g)
        · exact .inr (.inr (.inr ⟨p, hp, g⟩))
    rcases h with ⟨rfl, rfl⟩ | h
    · rcases split with ⟨_, rfl⟩ | g | g
      · exact .inl (.inl (ate_begin word q' i hx hi))
      · have := fr_rng n x s q q' hx g; omega
      · have := tail_ge q q' g; rw [hen] at this; omega
    · rcases h with h | ⟨j, h1, h2⟩
      · have hq := ate_rng word n x s i0 q i hx h
        rcases split with ⟨e1, _⟩ | g | g
        · have hq1 : s ≤ q := hq.1; omega
        · exact .inl (.inl (hc x (by simp) s i0 q q' i h g))
        · have hge := tail_ge q q' g
          have hqe : q = en (s, x) := by rw [hen] at hge ⊢; have : q ≤ s + 2 * realN n x - 1 := hq.2; omega
          have hm : Mt word n x i0 i := by
            have h' : AtE word n x s i0 (s + 2 * realN n x - 1) i := by rw [← hen, ← hqe]; exact h
            exact ate_end word hx h'
          have hup := mt_up word n x i0 i hm
          rcases chain_free word l (s + 2 * realN n x) (en (s, x)) e i q q' i hc' hf' hup.2 (by rw [hen]; omega) (.inl ⟨hqe, rfl⟩) g with k | ⟨k1, k2⟩
          · exact .inl (.inr ⟨i, hm, k⟩)
          · exact .inr ⟨k1, i, hm, k2⟩
      · have hup := mt_up word n x i0 j h1
        obtain ⟨p, hp, j', hat⟩ := atc_in _ _ _ _ h2
        obtain ⟨b1, _, b3⟩ := lay_rng _ _ _ hp
        have hq := ate_rng word n p.2 p.1 j' q i (hf' _ b3) hat
        rcases split with ⟨e1, _⟩ | g | g
        · omega
        · have := fr_rng n x s q q' hx g; omega
        · rcases chain_free word l (s + 2 * realN n x) (en (s, x)) e j q q' i hc' hf' hup.2 (by rw [hen]; omega) (.inr h2) g with k | ⟨k1, k2⟩
          · exact .inl (.inr ⟨j, h1, k⟩)
          · exact .inr ⟨k1, j, h1, k2⟩
/-- A state is of one part alone. -/
theorem lay_uniq {n : Nat} : ∀ (l : List (Ex n)) (s q : Nat) (p p' : Nat × Ex n), (∀ x ∈ l, full n x) → p ∈ layE s l → p' ∈ layE s l → p.1 ≤ q → q ≤ en p → p'.1 ≤ q → q ≤ en p' → p = p'
  | [], s, q, p, p', _, h, _, _, _, _, _ => by cases h
  | x :: l, s, q, p, p', hf, h, h', a1, a2, b1, b2 => by
    have hr := real_pos (hf x (by simp))
    have hen : en (s, x) = s + 2 * realN n x - 1 := rfl
    rcases List.mem_cons.1 (show p ∈ (s, x) :: layE (s + 2 * realN n x) l from h) with rfl | h
    · rcases List.mem_cons.1 (show p' ∈ (s, x) :: layE (s + 2 * realN n x) l from h') with rfl | h'
      · rfl
      · have := (lay_rng _ _ _ h').1; rw [hen] at a2; omega
    · rcases List.mem_cons.1 (show p' ∈ (s, x) :: layE (s + 2 * realN n x) l from h') with rfl | h'
      · have := (lay_rng _ _ _ h).1; rw [hen] at b2; omega
      · exact lay_uniq l _ q p p' (fun y hy => hf y (by simp [hy])) h h' a1 a2 b1 b2
theorem tm_snoc {R : Nat → Nat → Prop} : ∀ (m i j k : Nat), Tm R m i j → R j k → Tm R (m + 1) i k
  | 0, i, j, k, e, h => by cases e; exact ⟨k, h, rfl⟩
  | m + 1, i, j, k, ⟨z, h1, h2⟩, h => ⟨z, h1, tm_snoc m z j k h2 h⟩
theorem shapes_open {n : Nat} {t : Ex (n + 1)} (h : shapesE (n + 1) t = true) : okE (kd t) (st t) (ks t).length = true ∧ ∀ x ∈ ks t, shapesE n x = true := by
  have e : (okE (kd t) (st t) (ks t).length && (ks t).all (fun x => shapesE n x)) = true := h
  rw [Bool.and_eq_true, List.all_eq_true] at e
  exact e
theorem ok_none {k s l : Nat} (h : okE k s l = true) (hk : k = 0 ∨ k = 1) : l = 0 := by
  unfold okE at h
  simp only [Bool.or_eq_true, Bool.and_eq_true, decide_eq_true_eq] at h
  omega
theorem ok_one {k s l : Nat} (h : okE k s l = true) (hk : k = 4 ∨ k = 5) : l = 1 := by
  unfold okE at h
  simp only [Bool.or_eq_true, Bool.and_eq_true, decide_eq_true_eq] at h
  omega
/-- A free step. -/
theorem ate_free (word : List Int) : ∀ (n : Nat) (t : Ex n) (b i0 q q' i : Nat), full n t → shapesE n t = true → AtE word n t b i0 q i → Fr n t b q q' → AtE word n t b i0 q' i
  | 0, _, _, _, _, _, _, h, _, _, _ => h.elim
  | n + 1, t, b, i0, q, q', i, hf, hsh, ⟨hi, h⟩, g => by
    obtain ⟨hok, hks⟩ := shapes_open hsh
    have hrn := fr_rng (n + 1) t b q q' hf g
    have hcl : ∀ x ∈ ks t, ∀ (b i0 q q' i : Nat), AtE word n x b i0 q i → Fr n x b q q' → AtE word n x b i0 q' i := fun x hx b i0 q q' i h g => ate_free word n x b i0 q q' i (hf x hx) (hks x hx) h g
    refine ⟨hi, ?_⟩
    have inb : ∀ p ∈ layE (b + 1) (ks t), Fr n p.2 p.1 q q' → b < q ∧ p.1 ≤ q ∧ q < en p := fun p hp g => by
      obtain ⟨a1, a2, a3, a4, _, _⟩ := lay_in hf hp
      have := fr_rng n p.2 p.1 q q' a4 g
      unfold en
      omega
    have atp : ∀ p ∈ layE (b + 1) (ks t), ∀ j, AtE word n p.2 p.1 j q i → b < q ∧ p.1 ≤ q ∧ q ≤ en p := fun p hp j h => by
      obtain ⟨a1, a2, a3, a4, _, _⟩ := lay_in hf hp
      have := ate_rng word n p.2 p.1 j q i a4 h
      unfold en
      omega
    have enp : ∀ p ∈ layE (b + 1) (ks t), b < en p ∧ p.1 ≤ en p := fun p hp => by
      obtain ⟨a1, a2, a3, _⟩ := lay_in hf hp
      omega
    have fin : ∀ p ∈ layE (b + 1) (ks t), ∀ j, q = en p → AtE word n p.2 p.1 j q i → Mt word n p.2 j i := fun p hp j e h => by
      obtain ⟨_, _, _, a4, _, _⟩ := lay_in hf hp
      rw [e] at h
      exact ate_end word a4 h
    have uniq : ∀ p ∈ layE (b + 1) (ks t), ∀ p' ∈ layE (b + 1) (ks t), p.1 ≤ q → q ≤ en p → p'.1 ≤ q → q ≤ en p' → p = p' := fun p hp p' hp' a1 a2 b1 b2 => lay_uniq (ks t) _ q p p' hf hp hp' a1 a2 b1 b2
    have beg : ∀ p ∈ layE (b + 1) (ks t), ∀ j, j ≤ word.length → AtE word n p.2 p.1 j p.1 j := fun p hp j hj => ate_begin word p.1 j (lay_in hf hp).2.2.2.1 hj
    have one : kd t = 4 ∨ kd t = 5 → ∃ x, ks t = [x] ∧ layE (b + 1) (ks t) = [(b + 1, x)] := fun hk => by
      have hl := ok_one hok hk
      match hx : ks t, hl with
      | [x], _ => exact ⟨x, rfl, rfl⟩
    rcases h with ⟨rfl, rfl⟩ | ⟨e, _⟩ | ⟨k2, h⟩ | ⟨k3, p, hp, h⟩ | ⟨k4, p, hp, m, j, hm, h⟩ | ⟨k5, p, hp, h⟩
    · -- at the beginning
      rcases g with ⟨p, hp, g⟩ | ⟨k0, _, rfl⟩ | ⟨k2, g⟩ | ⟨k3, p, hp, g⟩ | ⟨k4, p, hp, g⟩ | ⟨k5, p, hp, g⟩
      · have := inb p hp g; omega
      · exact .inr (.inl ⟨rfl, hi, .inl ⟨k0, rfl⟩⟩)
      · rcases chain_free word (ks t) (q + 1) q _ i q q' i hcl hf hi (by omega) (.inl ⟨rfl, rfl⟩) (.inl g) with k | ⟨k1, k⟩
        · exact .inr (.inr (.inl ⟨k2, k⟩))
        · exact .inr (.inl ⟨k1, hi, .inr (.inr (.inl ⟨k2, k⟩))⟩)
      · rcases g with ⟨_, rfl⟩ | ⟨e, _⟩
        · exact .inr (.inr (.inr (.inl ⟨k3, p, hp, beg p hp i hi⟩)))
        · have := enp p hp; omega
      · obtain ⟨x, e1, e2⟩ := one (.inl k4)
        have hp0 := hp
        rw [e2] at hp
        have ep : p = (q + 1, x) := by simpa using hp
        subst ep
        rcases g with ⟨_, rfl⟩ | ⟨_, rfl⟩ | ⟨e, _⟩ | ⟨e, _⟩
        · exact .inr (.inr (.inr (.inr (.inl ⟨k4, (q + 1, x), by rw [e2]; rfl, 0, i, rfl, beg _ hp0 i hi⟩))))
        · exact .inr (.inl ⟨rfl, hi, .inr (.inr (.inr (.inr (.inl ⟨k4, x, by rw [e1]; rfl, 0, rfl⟩))))⟩)
        · have := enp _ hp0; omega
        · have := enp _ hp0; omega
      · obtain ⟨x, e1, e2⟩ := one (.inr k5)
        have hp0 := hp
        rw [e2] at hp
        have ep : p = (q + 1, x) := by simpa using hp
        subst ep
        rcases g with ⟨_, rfl⟩ | ⟨_, rfl⟩ | ⟨e, _⟩
        · exact .inr (.inr (.inr (.inr (.inr ⟨k5, (q + 1, x), by rw [e2]; rfl, beg _ hp0 i hi⟩))))
        · exact .inr (.inl ⟨rfl, hi, .inr (.inr (.inr (.inr (.inr ⟨k5, x, by rw [e1]; rfl, .inl rfl⟩))))⟩)
        · have := enp _ hp0; omega
    · omega
    · -- within parts, one behind the other
      have g' : Cj b (layE (b + 1) (ks t)) (b + 2 * realN (n + 1) t - 1) q q' ∨ ∃ p ∈ layE (b + 1) (ks t), Fr n p.2 p.1 q q' := by
        rcases g with ⟨p, hp, g⟩ | ⟨k0, _⟩ | ⟨_, g⟩ | ⟨k3, _⟩ | ⟨k4, _⟩ | ⟨k5, _⟩
        · exact .inr ⟨p, hp, g⟩
        · omega
        · exact .inl g
        all_goals omega
      rcases chain_free word (ks t) (b + 1) b _ i0 q q' i hcl hf hi (by omega) (.inr h) g' with k | ⟨k1, k⟩
      · exact .inr (.inr (.inl ⟨k2, k⟩))
      · exact .inr (.inl ⟨k1, hi, .inr (.inr (.inl ⟨k2, k⟩))⟩)
    · have r1 := atp p hp i0 h
      rcases g with ⟨p', hp', g⟩ | ⟨k0, _⟩ | ⟨k2, _⟩ | ⟨_, p', hp', g⟩ | ⟨k4, _⟩ | ⟨k5, _⟩
      · have r2 := inb p' hp' g
        obtain rfl := uniq p hp p' hp' r1.2.1 r1.2.2 r2.2.1 (by omega)
        exact .inr (.inr (.inr (.inl ⟨k3, p, hp, hcl _ (lay_in hf hp).2.2.2.2.1 _ _ _ _ _ h g⟩)))
      · omega
      · omega
      · rcases g with ⟨e, _⟩ | ⟨e, rfl⟩
        · omega
        · have r3 := enp p' hp'
          obtain rfl := uniq p hp p' hp' r1.2.1 r1.2.2 (by omega) (by omega)
          exact .inr (.inl ⟨rfl, hi, .inr (.inr (.inr (.inl ⟨k3, p.2, (lay_in hf hp).2.2.2.2.1, fin p hp i0 e h⟩)))⟩)
      all_goals omega
    · obtain ⟨x, e1, e2⟩ := one (.inl k4)
      have hp0 := head_in hp
      have r1 := atp p hp0 j h
      have hjl := ate_le h
      have hx : x ∈ (ks t).head? := by rw [e1]; rfl
      have ep : p = (b + 1, x) := by rw [e2] at hp; simpa using hp.symm
      subst ep
      rcases g with ⟨p', hp', g⟩ | ⟨k0, _⟩ | ⟨k2, _⟩ | ⟨k3, _⟩ | ⟨_, p', hp', g⟩ | ⟨k5, _⟩
      · have ep' : p' = (b + 1, x) := by rw [e2] at hp'; simpa using hp'
        subst ep'
        exact .inr (.inr (.inr (.inr (.inl ⟨k4, _, hp, m, j, hm, hcl _ (lay_in hf hp0).2.2.2.2.1 _ _ _ _ _ h g⟩))))
      · omega
      · omega
      · omega
      · have ep' : p' = (b + 1, x) := by rw [e2] at hp'; simpa using hp'
        subst ep'
        rcases g with ⟨e, _⟩ | ⟨e, _⟩ | ⟨e, rfl⟩ | ⟨e, rfl⟩
        · omega
        · omega
        · have hmt := fin _ hp0 j e h
          have hup := mt_up word n x j i hmt
          exact .inr (.inr (.inr (.inr (.inl ⟨k4, _, hp, m + 1, i, tm_snoc m i0 j i hm hmt, beg _ hp0 i hup.2⟩))))
        · have hmt := fin _ hp0 j e h
          exact .inr (.inl ⟨rfl, hi, .inr (.inr (.inr (.inr (.inl ⟨k4, x, hx, m + 1, tm_snoc m i0 j i hm hmt⟩))))⟩)
      · omega
    · obtain ⟨x, e1, e2⟩ := one (.inr k5)
      have hp0 := head_in hp
      have r1 := atp p hp0 i0 h
      have hx : x ∈ (ks t).head? := by rw [e1]; rfl
      have ep : p = (b + 1, x) := by rw [e2] at hp; simpa using hp.symm
      subst ep
      rcases g with ⟨p', hp', g⟩ | ⟨k0, _⟩ | ⟨k2, _⟩ | ⟨k3, _⟩ | ⟨k4, _⟩ | ⟨_, p', hp', g⟩
      · have ep' : p' = (b + 1, x) := by rw [e2] at hp'; simpa using hp'
        subst ep'
        exact .inr (.inr (.inr (.inr (.inr ⟨k5, _, hp, hcl _ (lay_in hf hp0).2.2.2.2.1 _ _ _ _ _ h g⟩))))
      · omega
      · omega
      · omega
      · omega
      · have ep' : p' = (b + 1, x) := by rw [e2] at hp'; simpa using hp'
        subst ep'
        rcases g with ⟨e, _⟩ | ⟨e, _⟩ | ⟨e, rfl⟩
        · omega
        · omega
        · exact .inr (.inl ⟨rfl, hi, .inr (.inr (.inr (.inr (.inr ⟨k5, x, hx, .inr (fin _ hp0 i0 e h)⟩))))⟩)
end Go.Proofs.YtccaknabpnpjaaaGreatDoor.A
