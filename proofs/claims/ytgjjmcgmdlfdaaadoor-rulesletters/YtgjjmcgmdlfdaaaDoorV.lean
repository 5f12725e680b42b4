/- Expressions that a call has made: each list of parts in a block of its own. -/
import Derived.Test.YtgjjmcgmdlfdaaaDoorT
import Derived.Laws.OwnMore
import Derived.Deep.AppendLies
namespace Go.Proofs.YtgjjmcgmdlfdaaaDoor.A
open Go.RowKit

structure Nd where
  k : Nat
  s : Nat
  a : Option Addr
  l : Nat
  c : Nat
def Nd.val (x : Nd) : Value := .agg #[.int .u8 x.k, .int .u16 x.s, .slice x.a x.l x.c]
def cellsO (x : Nd) : List Value := [.int .u8 x.k, .int .u16 x.s, .slice x.a x.l x.c]
def cellsN : List Nd → List Value | [] => [] | x :: l => cellsO x ++ cellsN l
theorem cellsN_app (a b : List Nd) : cellsN (a ++ b) = cellsN a ++ cellsN b := by
  induction a with
  | nil => rfl
  | cons r a ih => simp [cellsN, ih]
theorem cellsN_one (r : Nd) : cellsN [r] = cellsO r := by simp [cellsN]
theorem cellsN_len : ∀ l : List Nd, (cellsN l).length = l.length * 3
  | [] => rfl
  | r :: l => by simp [cellsN, cellsO, cellsN_len l]; omega
theorem cellsN_at : ∀ (l : List Nd) (i : Nat) (x : Nd), l[i]? = some x → (cellsN l)[i * 3]? = some (.int .u8 x.k) ∧ (cellsN l)[i * 3 + 1]? = some (.int .u16 x.s) ∧ (cellsN l)[i * 3 + 2]? = some (.slice x.a x.l x.c)
  | [], i, x, h => by simp at h
  | r :: l, 0, x, h => by simp at h; subst h; simp [cellsN, cellsO]
  | r :: l, i + 1, x, h => by
    have ih := cellsN_at l i x (by simpa using h)
    refine ⟨?_, ?_, ?_⟩
    · rw [← ih.1]; show (Value.int .u8 r.k :: .int .u16 r.s :: .slice r.a r.l r.c :: cellsN l)[(i + 1) * 3]? = _; rw [show (i + 1) * 3 = i * 3 + 1 + 1 + 1 by omega]; simp
    · rw [← ih.2.1]; show (Value.int .u8 r.k :: .int .u16 r.s :: .slice r.a r.l r.c :: cellsN l)[(i + 1) * 3 + 1]? = _; rw [show (i + 1) * 3 + 1 = i * 3 + 1 + 1 + 1 + 1 by omega]; simp
    · rw [← ih.2.2]; show (Value.int .u8 r.k :: .int .u16 r.s :: .slice r.a r.l r.c :: cellsN l)[(i + 1) * 3 + 2]? = _; rw [show (i + 1) * 3 + 2 = i * 3 + 2 + 1 + 1 + 1 by omega]; simp
theorem cellsN_set : ∀ (l : List Nd) (i : Nat) (x : Nd), i < l.length → (((cellsN l).set (i * 3) (.int .u8 x.k)).set (i * 3 + 1) (.int .u16 x.s)).set (i * 3 + 2) (.slice x.a x.l x.c) = cellsN (l.set i x)
  | [], i, _, h => by simp at h
  | r :: l, 0, x, _ => by simp [cellsN, cellsO]
  | r :: l, i + 1, x, h => by
    have ih := cellsN_set l i x (by simpa using h)
    rw [List.set_cons_succ]
    show (((Value.int .u8 r.k :: .int .u16 r.s :: .slice r.a r.l r.c :: cellsN l).set ((i + 1) * 3) _).set ((i + 1) * 3 + 1) _).set ((i + 1) * 3 + 2) _ = Value.int .u8 r.k :: .int .u16 r.s :: .slice r.a r.l r.c :: cellsN _
    rw [← ih, show (i + 1) * 3 + 1 = i * 3 + 1 + 1 + 1 + 1 by omega, show (i + 1) * 3 + 2 = i * 3 + 2 + 1 + 1 + 1 by omega, show (i + 1) * 3 = i * 3 + 1 + 1 + 1 by omega]
    simp
theorem cellsN_one' (l : List Nd) : ∀ u ∈ cellsN l, u.oneCell' = true := by
  induction l with
  | nil => intro u h; cases h
  | cons r l ih =>
    intro u h
    simp only [cellsN, cellsO, List.cons_append, List.nil_append, List.mem_cons] at h
    rcases h with rfl | rfl | rfl | h
    · rfl
    · rfl
    · rfl
    · exact ih u h
theorem cellsO_one' (x : Nd) : ∀ u ∈ cellsO x, u.oneCell' = true := by
  have := cellsN_one' [x]
  rw [cellsN_one] at this
  exact this

/-- An expression whose lists of parts lie each in a block of its own, whole and unmarked: the blocks. -/
def Tr (w : World) : (n : Nat) → Ex n → Nd → List Nat → Prop
  | 0, _, _, _ => False
  | n + 1, t, x, S => x.k = kd t ∧ x.s = st t ∧ kd t < 256 ∧ st t < 65536 ∧ x.l ≤ x.c ∧ x.c ≤ maxLen ∧ (ks t).length = x.l ∧
      ((x.l = 0 ∧ S = []) ∨ ∃ (b : Nat) (cs : Array Value) (ys : List Nd) (Ss : List (List Nat)), x.a = some ⟨b, 0, none⟩ ∧ w.heap[b]? = some (.cells cs 40 (0, 0)) ∧ cs.toList.take (x.l * 3) = cellsN ys ∧ ys.length = x.l ∧ Ss.length = x.l ∧ S = b :: Ss.flatten ∧
        ∀ (i : Nat) (e : Ex n) (y : Nd) (T : List Nat), (ks t)[i]? = some e → ys[i]? = some y → Ss[i]? = some T → Tr w n e y T)
theorem mem_flat {Ss : List (List Nat)} {i : Nat} {T : List Nat} (h : Ss[i]? = some T) {b : Nat} (hb : b ∈ T) : b ∈ Ss.flatten := List.mem_flatten.2 ⟨T, List.mem_of_getElem? h, hb⟩
theorem tr_keep {w w' : World} : ∀ (n : Nat) (t : Ex n) (x : Nd) (S : List Nat), (∀ b ∈ S, w'.heap[b]? = w.heap[b]?) → Tr w n t x S → Tr w' n t x S
  | 0, _, _, _, _, h => h
  | n + 1, t, x, S, hS, ⟨h1, h2, h3, h4, h5, h6, h7, h8⟩ => by
    refine ⟨h1, h2, h3, h4, h5, h6, h7, ?_⟩
    rcases h8 with h8 | ⟨b, cs, ys, Ss, a1, a2, a3, a4, a5, a6, a7⟩
    · exact .inl h8
    · refine .inr ⟨b, cs, ys, Ss, a1, (hS b (by rw [a6]; simp)).trans a2, a3, a4, a5, a6, fun i e y T he hy hT => ?_⟩
      exact tr_keep n e y T (fun b' hb' => hS b' (by rw [a6]; exact List.mem_cons_of_mem _ (mem_flat hT hb'))) (a7 i e y T he hy hT)
theorem tr_lt {w : World} : ∀ (n : Nat) (t : Ex n) (x : Nd) (S : List Nat), Tr w n t x S → ∀ b ∈ S, b < w.heap.size
  | 0, _, _, _, h => h.elim
  | n + 1, t, x, S, ⟨_, _, _, _, _, _, h7, h8⟩ => by
    rcases h8 with ⟨_, h8⟩ | ⟨b, cs, ys, Ss, _, a2, _, a4, a5, a6, a7⟩
    · intro b hb; rw [h8] at hb; cases hb
    · intro c hc
      rw [a6] at hc
      rcases List.mem_cons.1 hc with rfl | hc
      · exact (Array.getElem?_eq_some_iff.1 a2).1
      · obtain ⟨T, hT, hc⟩ := List.mem_flatten.1 hc
        obtain ⟨i, hi⟩ := List.getElem?_of_mem hT
        have hlt := (List.getElem?_eq_some_iff.1 hi).1
        exact tr_lt n (ks t)[i] ys[i] T (a7 i _ _ T (by simp) (by simp) hi) c hc
theorem tr_rx {w : World} : ∀ (n : Nat) (t : Ex n) (x : Nd) (S : List Nat), Tr w n t x S → Rx w n t x.val
  | 0, _, _, _, h => h.elim
  | n + 1, t, x, S, ⟨h1, h2, h3, h4, h5, h6, h7, h8⟩ => by
    refine ⟨x.a, x.l, x.c, by unfold Nd.val; rw [h1, h2], h3, h4, h5, h6, h7, ?_⟩
    rcases h8 with ⟨h8, _⟩ | ⟨b, cs, ys, Ss, a1, a2, a3, a4, a5, a6, a7⟩
    · exact .inl h8
    · refine .inr ⟨b, 0, a1, fun i e he => ?_⟩
      have hlt : i < x.l := by have := (List.getElem?_eq_some_iff.1 he).1; omega
      have hy : ys[i]? = some ys[i] := by simp
      have hT : Ss[i]? = some Ss[i] := by simp
      obtain ⟨q0, q1, q2⟩ := cellsN_at ys i _ hy
      have hc : ∀ j u, (cellsN ys)[j]? = some u → w.cell? ⟨b, j, none⟩ = some u := fun j u hj => by
        rw [cell_of_row w b j cs 40 (0, 0) a2]
        rw [← a3] at hj
        have := List.getElem?_take_of_lt (l := cs.toList) (i := j) (j := x.l * 3) (by have := (List.getElem?_eq_some_iff.1 hj).1; simp at this; omega)
        rw [this] at hj
        simpa using hj
      rw [Nat.zero_add]
      exact ⟨_, _, _, hc _ _ q0, hc _ _ q1, hc _ _ q2, tr_rx n e ys[i] Ss[i] (a7 i e _ _ he hy hT)⟩

/-- A list of parts that is being made. -/
def Mkg (base : Nat) (w : World) (n : Nat) (l : List (Ex n)) (v : Value) (ys : List Nd) (Ss : List (List Nat)) : Prop :=
  w.ownsRow base 40 3 v l.length (cellsN ys) ∧ ys.length = l.length ∧ Ss.length = l.length ∧ (∀ (i : Nat) (e : Ex n) (y : Nd) (T : List Nat), l[i]? = some e → ys[i]? = some y → Ss[i]? = some T → Tr w n e y T) ∧
    Ss.flatten.Nodup ∧ (∀ b ∈ Ss.flatten, base ≤ b ∧ b < w.heap.size) ∧ (∀ g, v.ownBlock = some g → g ∉ Ss.flatten)
theorem mkg_nil (base : Nat) (w : World) (n : Nat) : Mkg base w n [] (.slice none 0 0) [] [] :=
  ⟨World.ownsRow_nil _ _ _ _, rfl, rfl, fun i e y T h => by simp at h, by simp, fun b h => by simp at h, fun g h => by simp [Value.ownBlock] at h⟩
theorem own_below {w w' : World} {base n size : Nat} {e : TypeId} {v : Value} {xs : List Value} (h : w.ownsRow base e size v n xs) (hb : Below w.heap.size w w') : w'.ownsRow base e size v n xs := by
  refine ⟨h.1, ?_⟩
  rcases h.2 with h0 | ⟨g, cap, cur, hv, hg, hcur, h1, h2, h3, h4⟩
  · exact .inl h0
  · have hlt : g < w.heap.size := (h.lt g (by rw [hv]; rfl)).2
    exact .inr ⟨g, cap, cur, hv, hg, (hb.block g hlt).trans hcur, h1, h2, h3, h4⟩
theorem mkg_below {base : Nat} {w w' : World} {n : Nat} {l : List (Ex n)} {v : Value} {ys : List Nd} {Ss : List (List Nat)} (h : Mkg base w n l v ys Ss) (hb : Below w.heap.size w w') : Mkg base w' n l v ys Ss := by
  obtain ⟨h1, h2, h3, h4, h5, h6, h7⟩ := h
  exact ⟨own_below h1 hb, h2, h3, fun i e y T he hy hT => tr_keep n e y T (fun b hb' => hb.block b (h6 b (mem_flat hT hb')).2) (h4 i e y T he hy hT), h5, fun b hb' => ⟨(h6 b hb').1, Nat.lt_of_lt_of_le (h6 b hb').2 hb.size⟩, h7⟩
/-- A cell of one's own that is no row of it. -/
theorem mkg_set {base : Nat} {w : World} {n : Nat} {l : List (Ex n)} {v : Value} {ys : List Nd} {Ss : List (List Nat)} (h : Mkg base w n l v ys Ss) {a : Addr} (ha : a.block < base) (u : Value) : Mkg base (w.setCell a u) n l v ys Ss := by
  obtain ⟨h1, h2, h3, h4, h5, h6, h7⟩ := h
  refine ⟨ownsRow_setCell_below h1 ha u, h2, h3, fun i e y T he hy hT => tr_keep n e y T (fun b hb' => Below.heap_setCell _ _ _ _ (by have := (h6 b (mem_flat hT hb')).1; omega)) (h4 i e y T he hy hT), h5, fun b hb' => ⟨(h6 b hb').1, by simpa using (h6 b hb').2⟩, h7⟩
theorem mkg_app {base : Nat} {w w3 : World} {n : Nat} {l : List (Ex n)} {v : Value} {ys : List Nd} {Ss : List (List Nat)} (h : Mkg base w n l v ys Ss) {e : Ex n} {y : Nd} {T : List Nat} (ht : Tr w n e y T) (hT : T.Nodup) {lo : Nat} (hlo : ∀ b ∈ T, lo ≤ b ∧ b < w.heap.size) (hbl : base ≤ lo)
    (hS : ∀ b ∈ Ss.flatten, b < lo) (hv : ∀ g, v.ownBlock = some g → g < lo) {g cap : Nat} (hown : w3.ownsRow base 40 3 (.slice (some ⟨g, 0, none⟩) (l.length + 1) cap) (l.length + 1) (cellsN ys ++ cellsO y)) (hgrow : w.grownBy w3 v.ownBlock) (hat : v.ownBlock = some g ∨ g = w.heap.size) :
    Mkg base w3 n (l ++ [e]) (.slice (some ⟨g, 0, none⟩) (l.length + 1) cap) (ys ++ [y]) (Ss ++ [T]) := by
  obtain ⟨h1, h2, h3, h4, h5, h6, h7⟩ := h
  have hT2 : ∀ b ∈ T, v.ownBlock ≠ some b := fun b hb q => by have := hv b q; have := hlo b hb; omega
  refine ⟨by rw [cellsN_app, cellsN_one, List.length_append]; exact hown, by simp [h2], by simp [h3], ?_, ?_, ?_, ?_⟩
  · intro i e' y' T' he hy hT'
    by_cases hi : i < l.length
    · rw [List.getElem?_append_left hi] at he
      rw [List.getElem?_append_left (by omega)] at hy hT'
      exact tr_keep n e' y' T' (fun b hb => hgrow.block b (h6 b (mem_flat hT' hb)).2 (fun q => h7 b q.symm (mem_flat hT' hb))) (h4 i e' y' T' he hy hT')
    · have hi2 : i = l.length := by have := (List.getElem?_eq_some_iff.1 he).1; simp at this; omega
      subst hi2
      rw [List.getElem?_append_right (Nat.le_refl _)] at he
      rw [List.getElem?_append_right (by omega)] at hy hT'
      rw [h2] at hy
      rw [h3] at hT'
      simp only [Nat.sub_self, List.getElem?_cons_zero, Option.some.injEq] at he hy hT'
      subst he; subst hy; subst hT'
      exact tr_keep n _ _ _ (fun b hb => hgrow.block b (hlo b hb).2 (fun q => hT2 b hb q.symm)) ht
  · rw [List.flatten_append]
    refine List.nodup_append.2 ⟨h5, by simpa using hT, fun b hb c hc q => ?_⟩
    subst q
    have := hS b hb
    have := hlo b (by simpa using hc)
    omega
  · intro b hb
    rw [List.flatten_append] at hb
    rcases List.mem_append.1 hb with hb | hb
    · exact ⟨(h6 b hb).1, Nat.lt_of_lt_of_le (h6 b hb).2 hgrow.size⟩
    · have := hlo b (by simpa using hb)
      exact ⟨by omega, Nat.lt_of_lt_of_le this.2 hgrow.size⟩
  · intro g' hg' hm
    have hg2 : g' = g := by simpa [Value.ownBlock] using hg'.symm
    subst hg2
    rw [List.flatten_append] at hm
    rcases List.mem_append.1 hm with hm | hm
    · rcases hat with hat | hat
      · exact h7 g' hat hm
      · have := (h6 g' hm).2; omega
    · have hm' : g' ∈ T := by simpa using hm
      rcases hat with hat | hat
      · exact hT2 g' hm' hat
      · have := (hlo g' hm').2; omega
theorem mkg_rev {base : Nat} {w w3 : World} {n : Nat} {l : List (Ex n)} {v : Value} {ys : List Nd} {Ss : List (List Nat)} (h : Mkg base w n l v ys Ss) (hown : w3.ownsRow base 40 3 v l.length (cellsN ys.reverse)) (hgrow : w.grownBy w3 v.ownBlock) : Mkg base w3 n l.reverse v ys.reverse Ss.reverse := by
  obtain ⟨h1, h2, h3, h4, h5, h6, h7⟩ := h
  have hp : Ss.reverse.flatten.Perm Ss.flatten := (List.reverse_perm Ss).flatten
  refine ⟨by rw [List.length_reverse]; exact hown, by simp [h2], by simp [h3], ?_, hp.nodup_iff.2 h5, ?_, ?_⟩
  · intro i e y T he hy hT
    have hi : i < l.length := by have := (List.getElem?_eq_some_iff.1 he).1; simpa using this
    rw [List.getElem?_reverse (by omega)] at he
    rw [List.getElem?_reverse (by omega), h2] at hy
    rw [List.getElem?_reverse (by omega), h3] at hT
    exact tr_keep n e y T (fun b hb => hgrow.block b (h6 b (mem_flat hT hb)).2 (fun q => h7 b q.symm (mem_flat hT hb))) (h4 _ e y T he hy hT)
  · intro b hb
    have := h6 b (hp.mem_iff.1 hb)
    exact ⟨this.1, Nat.lt_of_lt_of_le this.2 hgrow.size⟩
  · intro g hg hm
    exact h7 g hg (hp.mem_iff.1 hm)
/-- What is made is an expression. -/
theorem mkg_end {base : Nat} {w : World} {n : Nat} {l : List (Ex n)} {v : Value} {ys : List Nd} {Ss : List (List Nat)} (h : Mkg base w n l v ys Ss) {k s : Nat} (hk : k < 256) (hs : s < 65536) :
    ∃ (a : Option Addr) (len cap : Nat) (S : List Nat), v = .slice a len cap ∧ Tr w (n + 1) ((k, s, l) : Ex (n + 1)) ⟨k, s, a, len, cap⟩ S ∧ S.Nodup ∧ ∀ b ∈ S, base ≤ b := by
  obtain ⟨h1, h2, h3, h4, h5, h6, h7⟩ := h
  rcases h1.2 with ⟨rfl, h0⟩ | ⟨g, cap, cur, rfl, hg, hcur, q1, q2, q3, q4⟩
  · exact ⟨none, 0, 0, [], rfl, ⟨rfl, rfl, hk, hs, Nat.le_refl _, by show 0 ≤ maxLen; unfold maxLen; omega, h0, .inl ⟨rfl, rfl⟩⟩, by simp, fun b hb => by cases hb⟩
  · by_cases h0 : l.length = 0
    · exact ⟨_, _, _, [], rfl, ⟨rfl, rfl, hk, hs, q1, q2, rfl, .inl ⟨h0, rfl⟩⟩, by simp, fun b hb => by cases hb⟩
    · refine ⟨_, _, _, g :: Ss.flatten, rfl, ⟨rfl, rfl, hk, hs, q1, q2, rfl, .inr ⟨g, cur, ys, Ss, rfl, hcur, q4, h2, h3, rfl, h4⟩⟩, List.nodup_cons.2 ⟨h7 g rfl, h5⟩, fun b hb => ?_⟩
      rcases List.mem_cons.1 hb with rfl | hb
      · exact hg
      · exact (h6 b hb).1
end Go.Proofs.YtgjjmcgmdlfdaaaDoor.A
