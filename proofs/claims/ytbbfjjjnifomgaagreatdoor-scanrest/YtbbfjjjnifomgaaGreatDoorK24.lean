/- The program's finder in memory: sets numbered as they are found. -/
import Derived.Maps.OwnSet
import Derived.Maps.OwnOps
import Derived.WalkKit
import Derived.ProofKit
import Derived.Outline
import Derived.BigQuiet
import Derived.Deep.QuietTactic
import Derived.Below
import Derived.Deep.RegionHeld3
import Derived.OpenShut
import Derived.Deep.Slices
import Derived.Deep.Strs
import Derived.Deep.OwnRows
import Derived.Deep.WholeRow
import Derived.Deep.AppendSrc
import Derived.Deep.Heap
import Derived.Laws.AppendOwnNone
import Derived.Deep.AppendLies
import Derived.Deep.RegionLaw
import Derived.Shelf.Small.Strs
import Derived.Shelf.Strconv.Itoa0
import Derived.Shelf.Strconv.Itoa1
import Derived.Shelf.LaysM
import Derived.Shelf.Strconv.Itoa2
import Derived.Shelf.Strconv.Clone
import Derived.Shelf.Strings.Search1
import Derived.Shelf.Strings.Search2
import Derived.Shelf.Strings.Search3
import Derived.Shelf.Strings.Count
import Derived.Shelf.Strings.Shaped
import Derived.Shelf.Strconv.AppendUint10
import Derived.Shelf.Strconv.AppendInt10
import Derived.Shelf.Strconv.AppendIntPublic10
import Derived.Shelf.Strings.Split
import Derived.Shelf.Strings.SplitShaped
import Derived.Shelf.Bits.Mul64
import Derived.Shelf.Unicode.DecodeSlow
import Derived.Ground.Names2Prog
import Derived.Shelf.Slices.Clone
import Derived.Ground.SlgnProg
import Derived.Shelf.SlicesE.Clone
import Derived.Laws.IdiomStrings
import Derived.Laws.BytesArg
import Derived.Test.YtbbfjjjnifomgaaGreatDoorK1
import Derived.Test.YtbbfjjjnifomgaaGreatDoorK4
import Derived.Test.YtbbfjjjnifomgaaGreatDoorK6
import Derived.Test.YtbbfjjjnifomgaaGreatDoorK8
import Derived.Test.YtbbfjjjnifomgaaGreatDoorK11
import Derived.Test.YtbbfjjjnifomgaaGreatDoorK12
import Derived.Test.YtbbfjjjnifomgaaGreatDoorK13
import Derived.Test.YtbbfjjjnifomgaaGreatDoorK23
import Derived.Deep.MidRow
import Derived.Test.YtbbfjjjnifomgaaGreatDoorK7
import Derived.WalkLawsBesides
import Derived.Laws.AppendOwn
import Derived.Test.YtbbfjjjnifomgaaGreatDoorK20
namespace Go.Proofs.YtbbfjjjnifomgaaGreatDoor.A
open Go.RowKit Go.Maps

/-- A block that a finder never writes. -/
def FarF (w : World) (base k : Nat) : Prop := k < base ∨ ∃ cs t fr, w.heap[k]? = some (.cells cs t fr) ∧ t ≠ 157 ∧ t ≠ 23
structure Kf (base : Nat) (w w' : World) : Prop where
  os : w'.os = w.os
  tape : w'.tape = w.tape
  output : w'.output = w.output
  size : w.heap.size ≤ w'.heap.size
  block : ∀ k, k < w.heap.size → FarF w base k → w'.heap[k]? = w.heap[k]?
theorem Kf.refl (base : Nat) (w : World) : Kf base w w := ⟨rfl, rfl, rfl, Nat.le_refl _, fun _ _ _ => rfl⟩
theorem Kf.far {base : Nat} {w w' : World} (h : Kf base w w') {k : Nat} (hk : k < w.heap.size) (hf : FarF w base k) : FarF w' base k := by
  rcases hf with hf | ⟨cs, t, fr, e, ht⟩
  · exact .inl hf
  · exact .inr ⟨cs, t, fr, (h.block k hk (.inr ⟨cs, t, fr, e, ht⟩)).trans e, ht⟩
theorem Kf.trans {base : Nat} {a b c : World} (h : Kf base a b) (k : Kf base b c) : Kf base a c :=
  ⟨k.os.trans h.os, k.tape.trans h.tape, k.output.trans h.output, Nat.le_trans h.size k.size, fun i hi hf => (k.block i (Nat.lt_of_lt_of_le hi h.size) (h.far hi hf)).trans (h.block i hi hf)⟩
theorem Kf.of_below {base : Nat} {w w' : World} (h : Below w.heap.size w w') : Kf base w w' := ⟨h.os, h.tape, h.output, h.size, fun k hk _ => h.block k hk⟩
theorem Kf.alloc {base : Nat} {w w' : World} (h : Kf base w w') (o : Obj) : Kf base w (w'.alloc o) := h.trans (Kf.of_below ((Below.refl _ _).alloc (Nat.le_refl _) o))
theorem Kf.below {base : Nat} {w w' : World} (h : Kf base w w') (hb : base ≤ w.heap.size) : Below base w w' := ⟨h.os, h.tape, h.output, h.size, fun k hk => h.block k (by omega) (.inl hk)⟩
theorem Kf.heap {base : Nat} {w w' : World} (h : Kf base w w') {k : Nat} {cs : Array Value} {t : TypeId} {fr : Nat × Nat} (hk : w.heap[k]? = some (.cells cs t fr)) (h1 : t ≠ 157) (h2 : t ≠ 23) : w'.heap[k]? = some (.cells cs t fr) :=
  (h.block k (Array.getElem?_eq_some_iff.1 hk).1 (.inr ⟨cs, t, fr, hk, h1, h2⟩)).trans hk
theorem Kf.own {base base' : Nat} {w w' : World} (h : Kf base w w') {e : TypeId} {s : Nat} {v : Value} {n : Nat} {xs : List Value} (ho : w.ownsRow base' e s v n xs) (h1 : e ≠ 157) (h2 : e ≠ 23) : w'.ownsRow base' e s v n xs :=
  own_move ho (fun k hk => by
    obtain ⟨_, h3, cs, h4⟩ := own_type ho hk
    exact h.block k h3 (.inr ⟨cs, e, _, h4, h1, h2⟩))

/-- The key of a set. -/
def ks' (s : List Int) : Lit := .string (textL s)
theorem law9 : Keyed Tryz.prog 9 := string_keyed Tryz.underlying9
theorem key_s {s : List Int} (h : (textL s).length ≤ maxLen) : keyOf Tryz.prog 9 (.string (textB s)) = some (ks' s) := by
  have := WideMaps.keyOf_string_mk (P := Tryz.prog) (k := 9) Tryz.underlying9 (s := textB s) (by
    show (textL s).toArray.size ≤ maxLen
    simpa using h)
  rw [this]
  unfold ks' textB
  simp
/-- Numbers of states. -/
def NN (s : List Int) : Prop := s.length ≤ 10000 ∧ ∀ z ∈ s, 0 ≤ z ∧ z < 10000
theorem nn_len {s : List Int} (h : NN s) : (textL s).length ≤ maxLen := by
  have := textL_len s h.2
  have := h.1
  unfold maxLen; omega
theorem ks_inj {s s' : List Int} (h : NN s) (h' : NN s') (e : ks' s = ks' s') : s = s' :=
  textL_inj s s' (fun z hz => (h.2 z hz).1) (fun z hz => (h'.2 z hz).1) (by unfold ks' at e; exact Lit.string.inj e)
/-- The map tells which sets were found, and their numbers. -/
def TieS (S : List (List Int)) (D : DataW Unit) : Prop :=
  ∀ s, NN s → Maps.has D (ks' s) = decide (s ∈ S) ∧ (s ∈ S → D.atKey (ks' s) (.lit (.int .i64 0)) = .lit (.int .i64 (S.idxOf s : Nat)))
theorem tieS_nil : TieS [] (.map []) := fun s _ => ⟨by simp [Maps.has], fun h => by cases h⟩
theorem tieS_new {S : List (List Int)} {D : DataW Unit} (t : TieS S D) (hD : IsMap D) {s : List Int} (hs : NN s) (hm : ¬ s ∈ S) : TieS (S ++ [s]) (D.put (ks' s) (.lit (.int .i64 (S.length : Nat)))) := by
  intro s' hs'
  by_cases e : s' = s
  · subst e
    rw [has_put_same hD (law9.key (key_s (nn_len hs))), atKey_put_same hD (law9.key (key_s (nn_len hs)))]
    refine ⟨by simp, fun _ => ?_⟩
    rw [List.idxOf_append, if_neg hm]
    simp
  · have ek : ks' s' ≠ ks' s := fun q => e (ks_inj hs' hs q)
    rw [has_put_other ek, atKey_put_other ek, (t s' hs').1]
    refine ⟨by simp [e], fun q => ?_⟩
    have q' : s' ∈ S := by simpa [e] using q
    rw [(t s' hs').2 q', List.idxOf_append, if_pos q']

/-- A finder: its block, its sets, its map. -/
structure Fd (w : World) (base q m : Nat) (x0 x1 x2 x3 sv : Value) (vs : List Value) (S : List (List Int)) : Prop where
  blk : w.heap[q]? = some (.cells #[x0, x1, x2, x3, sv, .map (some m)] 157 (0, 0))
  low : base ≤ q
  own : w.ownsRow base 23 1 sv vs.length vs
  len : vs.length = S.length
  set : ∀ (i : Nat) (v : Value) (s : List Int), vs[i]? = some v → S[i]? = some s → w.ownsRow base 3 1 v s.length (s.map (Value.int .i64))
  map : ∃ D : DataW Unit, w.ownsMap Tryz.prog 9 (plainElem Tryz.prog 3) m S.length D ∧ TieS S D
  mlow : base ≤ m
theorem map_move {w w1 : World} {k : TypeId} {R : Value → Option (DataW Unit × List MemPlace)} {b n : Nat} {D : DataW Unit} (h : w.ownsMap Tryz.prog k R b n D) (hb : w1.heap[b]? = w.heap[b]?) : w1.ownsMap Tryz.prog k R b n D := by
  obtain ⟨es, clock, hb', F, hs, hD⟩ := h
  exact ⟨es, clock, hb.trans hb', F, hs, hD⟩
theorem map_obj {w : World} {k : TypeId} {R : Value → Option (DataW Unit × List MemPlace)} {b n : Nat} {D : DataW Unit} (h : w.ownsMap Tryz.prog k R b n D) : ∃ es clock, w.heap[b]? = some (.map es clock) := by
  obtain ⟨es, clock, hb', _⟩ := h
  exact ⟨es, clock, hb'⟩
theorem fd_lt {w : World} {base q m : Nat} {x0 x1 x2 x3 sv : Value} {vs : List Value} {S : List (List Int)} (h : Fd w base q m x0 x1 x2 x3 sv vs S) : q < w.heap.size ∧ m < w.heap.size ∧ q ≠ m ∧ base ≤ w.heap.size := by
  have h1 := (Array.getElem?_eq_some_iff.1 h.blk).1
  obtain ⟨D, hD, _⟩ := h.map
  obtain ⟨es, c, hm⟩ := map_obj hD
  have h2 := (Array.getElem?_eq_some_iff.1 hm).1
  have h3 := h.low
  refine ⟨h1, h2, fun e => ?_, by omega⟩
  subst e
  rw [h.blk] at hm
  cases hm
theorem fd_move {w w' : World} {base q m : Nat} {x0 x1 x2 x3 sv : Value} {vs : List Value} {S : List (List Int)} (h : Fd w base q m x0 x1 x2 x3 sv vs S) (hb : ∀ k, k < w.heap.size → base ≤ k → w'.heap[k]? = w.heap[k]?) : Fd w' base q m x0 x1 x2 x3 sv vs S := by
  have mv : ∀ {e : TypeId} {v : Value} {n : Nat} {xs : List Value}, w.ownsRow base e 1 v n xs → w'.ownsRow base e 1 v n xs := fun h => own_move h (fun k hk => hb k (own_type h hk).2.1 (own_type h hk).1)
  obtain ⟨h1, h2, _, _⟩ := fd_lt h
  obtain ⟨D, hD, ht⟩ := h.map
  exact ⟨(hb q h1 h.low).trans h.blk, h.low, mv h.own, h.len, fun i v s a b => mv (h.set i v s a b), ⟨D, map_move hD (hb m h2 h.mlow), ht⟩, h.mlow⟩
theorem fd_below {w w' : World} {base q m : Nat} {x0 x1 x2 x3 sv : Value} {vs : List Value} {S : List (List Int)} (hb : Below w.heap.size w w') (h : Fd w base q m x0 x1 x2 x3 sv vs S) : Fd w' base q m x0 x1 x2 x3 sv vs S :=
  fd_move h (fun k hk _ => hb.block k hk)
theorem f_cells {w : World} {q : Nat} {v0 v1 v2 v3 v4 v5 : Value} (h : w.heap[q]? = some (.cells #[v0, v1, v2, v3, v4, v5] 157 (0, 0))) : (w.cell? ⟨q, 0, none⟩ = some v0 ∧ w.cell? ⟨q, 1, none⟩ = some v1 ∧ w.cell? ⟨q, 2, none⟩ = some v2 ∧ w.cell? ⟨q, 3, none⟩ = some v3 ∧ w.cell? ⟨q, 4, none⟩ = some v4 ∧ w.cell? ⟨q, 5, none⟩ = some v5) ∧ (∀ i, w.frozen? ⟨q, i, none⟩ = false) := by
  refine ⟨⟨?_, ?_, ?_, ?_, ?_, ?_⟩, fun i => ?_⟩
  · rw [cell_of_row _ _ _ _ _ _ h]; rfl
  · rw [cell_of_row _ _ _ _ _ _ h]; rfl
  · rw [cell_of_row _ _ _ _ _ _ h]; rfl
  · rw [cell_of_row _ _ _ _ _ _ h]; rfl
  · rw [cell_of_row _ _ _ _ _ _ h]; rfl
  · rw [cell_of_row _ _ _ _ _ _ h]; rfl
  · simp [World.frozen?, h]
section
variable {w w1 w2 : World} {base q m : Nat} {x0 x1 x2 x3 sv : Value} {vs : List Value} {S : List (List Int)}
/-- What is found is put into the map. -/
theorem fd_put (h : Fd w base q m x0 x1 x2 x3 sv vs S) (hg : w.grownBy w1 (some m)) : w1.heap[q]? = some (.cells #[x0, x1, x2, x3, sv, .map (some m)] 157 (0, 0)) ∧ w1.ownsRow base 23 1 sv vs.length vs ∧ (∀ (i : Nat) (v : Value) (s : List Int), vs[i]? = some v → S[i]? = some s → w1.ownsRow base 3 1 v s.length (s.map (Value.int .i64))) ∧ Kf base w w1 := by
  obtain ⟨h1, h2, h3, h4⟩ := fd_lt h
  obtain ⟨D, hD, _⟩ := h.map
  obtain ⟨es, c, hm⟩ := map_obj hD
  have mv : ∀ {e : TypeId} {v : Value} {n : Nat} {xs : List Value}, w.ownsRow base e 1 v n xs → w1.ownsRow base e 1 v n xs := fun h => own_move h (fun k hk => by
    obtain ⟨_, h5, cs, h6⟩ := own_type h hk
    exact hg.block k h5 (fun e => by cases e; rw [hm] at h6; cases h6))
  refine ⟨(hg.block q h1 (fun e => by cases e; exact h3 rfl)).trans h.blk, mv h.own, fun i v s a b => mv (h.set i v s a b), ⟨hg.os, hg.tape, hg.output, hg.size, fun k hk hf => hg.block k hk (fun e => ?_)⟩⟩
  cases e
  rcases hf with hf | ⟨cs, t, fr, e, _⟩
  · have := h.mlow; omega
  · rw [hm] at e; cases e
/-- .. and behind the sets. -/
theorem fd_app {v : Value} {s : List Int} {o : Obj} {g cap : Nat} {D : DataW Unit} (hq : w1.heap[q]? = some (.cells #[x0, x1, x2, x3, sv, .map (some m)] 157 (0, 0))) (low : base ≤ q) (mlow : base ≤ m) (ho : w1.ownsRow base 23 1 sv vs.length vs) (len : vs.length = S.length)
    (hset : ∀ (i : Nat) (v : Value) (s : List Int), vs[i]? = some v → S[i]? = some s → w1.ownsRow base 3 1 v s.length (s.map (Value.int .i64))) (hv : w1.ownsRow base 3 1 v s.length (s.map (Value.int .i64)))
    (hD : w1.ownsMap Tryz.prog 9 (plainElem Tryz.prog 3) m (S.length + 1) D) (ht : TieS (S ++ [s]) D) (hmq : q ≠ m) (hg : (w1.alloc o).grownBy w2 sv.ownBlock) (ho2 : w2.ownsRow base 23 1 (.slice (some ⟨g, 0, none⟩) (vs.length + 1) cap) (vs.length + 1) (vs ++ [v])) :
    Fd (w2.setCell ⟨q, 4, none⟩ (.slice (some ⟨g, 0, none⟩) (vs.length + 1) cap)) base q m x0 x1 x2 x3 (.slice (some ⟨g, 0, none⟩) (vs.length + 1) cap) (vs ++ [v]) (S ++ [s]) ∧ Kf base w1 (w2.setCell ⟨q, 4, none⟩ (.slice (some ⟨g, 0, none⟩) (vs.length + 1) cap)) := by
  have hqlt := (Array.getElem?_eq_some_iff.1 hq).1
  obtain ⟨es, c, hm⟩ := map_obj hD
  have hmlt := (Array.getElem?_eq_some_iff.1 hm).1
  have hr : sv.ownBlock ≠ some q := own_not ho hq (by decide)
  have hq2 : w2.heap[q]? = some (.cells #[x0, x1, x2, x3, sv, .map (some m)] 157 (0, 0)) := by
    rw [hg.block q (by simp; omega) (fun e => hr e.symm), Below.heap_alloc _ _ _ hqlt]; exact hq
  have mv : ∀ {v : Value} {n : Nat} {xs : List Value}, w1.ownsRow base 3 1 v n xs → (w2.setCell ⟨q, 4, none⟩ (.slice (some ⟨g, 0, none⟩) (vs.length + 1) cap)).ownsRow base 3 1 v n xs := fun hv =>
    set_far (kept1 hv hg (fun k hk e => own_types hv ho (by decide) k hk e)) (own_not (kept1 hv hg (fun k hk e => own_types hv ho (by decide) k hk e)) hq2 (by decide))
  have hsm : sv.ownBlock ≠ some m := fun hk => by
    obtain ⟨_, _, cs, h'⟩ := own_type ho hk
    rw [hm] at h'; cases h'
  have hs := hg.size
  refine ⟨⟨?_, low, ?_, by simp [len], fun i u t hu ht => ?_, ⟨D, ?_, ht⟩, mlow⟩, ⟨hg.os, hg.tape, hg.output, by simp at hs ⊢; omega, fun k hk hf => ?_⟩⟩
  · rw [blk_set hq2 4 _]; rfl
  · rw [List.length_append]; exact set_far ho2 (own_not ho2 hq2 (by decide))
  · by_cases e : i < vs.length
    · rw [List.getElem?_append_left e] at hu
      rw [List.getElem?_append_left (by rw [← len]; exact e)] at ht
      exact mv (hset i u t hu ht)
    · rw [List.getElem?_append_right (by omega)] at hu
      rw [List.getElem?_append_right (by rw [← len]; omega)] at ht
      have e1 : i - vs.length = 0 := by have := (List.getElem?_eq_some_iff.1 hu).1; simp at this; omega
      rw [e1] at hu
      rw [← len, e1] at ht
      have hu' : v = u := by simpa using hu
      have ht' : s = t := by simpa using ht
      subst hu'
      subst ht'
      exact mv hv
  · rw [List.length_append]
    refine map_move (map_move hD ((hg.block m (by simp; omega) (fun e => hsm e.symm)).trans (Below.heap_alloc _ _ _ hmlt))) (Below.heap_setCell _ _ _ _ (fun e => hmq e.symm))
  · have h1 : k ≠ q := fun e => by
      subst e
      rcases hf with hf | ⟨cs, t, fr, e, h60, _⟩
      · omega
      · rw [hq] at e; cases e; exact h60 rfl
    have h2 : some k ≠ sv.ownBlock := fun e => by
      obtain ⟨h3, _, cs, h4⟩ := own_type ho e.symm
      rcases hf with hf | ⟨cs', t, fr, e', _, h26⟩
      · omega
      · rw [h4] at e'; cases e'; exact h26 rfl
    rw [Below.heap_setCell _ _ _ _ h1, hg.block k (by simp; omega) h2, Below.heap_alloc _ _ _ hk]
end
theorem zero3 (w : World) : (zeroValue 3).run Tryz.prog w = .ok (.int .i64 0) w := by kernel_rfl
theorem own_len {w : World} {base : Nat} {v : Value} {s : List Int} (h : w.ownsRow base 3 1 v s.length (s.map (Value.int .i64))) : ∃ a cap, v = .slice a s.length cap ∧ Wd w a s := own_slice h

set_option maxRecDepth 100000 in
set_option maxHeartbeats 3200000 in
theorem find_any (base q m : Nat) (x0 x1 x2 x3 sv : Value) (vs : List Value) (S : List (List Int)) (v : Value) (s : List Int) (w : World) (hF : Fd w base q m x0 x1 x2 x3 sv vs S) (hv : w.ownsRow base 3 1 v s.length (s.map (Value.int .i64))) (hs : NN s) (hS : S.length ≤ 10000) (ht : Tab base w) :
    Calls Tryz.prog 98 #[.pointer (some ⟨q, 0, none⟩), v] w fun e w' => e = .returned (.int .i64 (findF S s).2) ∧ (∃ sv' vs', Fd w' base q m x0 x1 x2 x3 sv' vs' (findF S s).1 ∧ (vs' = vs ∨ vs' = vs ++ [v])) ∧ Kf base w w' := by
  obtain ⟨i26, hi26, hz26, hs26, hb26⟩ := info_parts info23
  obtain ⟨a, cap, rfl, hW⟩ := own_len hv
  obtain ⟨b1, b2, b3, b4⟩ := fd_lt hF
  have HF := hide hF
  have HV := hide hv
  have HS := hide hs
  have HSL := hide hS
  have HLT := hide (And.intro b1 (And.intro b2 (And.intro b3 b4)))
  have hln := hs.1
  obtain ⟨n, hn⟩ : ∃ n, s.length = n := ⟨_, rfl⟩
  have HT := hide (text_any base a s.length cap s w rfl hs.1 hs.2 hW b4 ht)
  have HN := hide hn
  rw [hn]
  rw [hn] at HT hln
  clear hF hv hs hS hW ht b1 b2 b3 b4 hn
  by_cases c : n = 0
  · subst c
    have HE := hide (show findF S s = (S, -1) by unfold findF; rw [if_pos (List.eq_nil_of_length_eq_zero HN.out)])
    go_enter Tryz.func98, Tryz.ntmps98
    go_wp2
    go_ret
    exact ⟨by rw [HE.out]; rfl, ⟨sv, vs, by rw [HE.out]; exact HF.out, .inl rfl⟩, Kf.refl _ _⟩
  · have hne : s ≠ [] := fun e => by have := HN.out; rw [e] at this; simp at this; omega
    have d0 : ((n : Int) == 0) = false := by simp; omega
    have HC := hide c
    have HNE := hide hne
    clear c hne
    go_enter Tryz.func98, Tryz.ntmps98
    go_wp2_with fail
    refine HT.out.mono ?_
    rintro e w1 ⟨rfl, hb1⟩
    have HF1 := hide (fd_below hb1 HF.out)
    have HV1 := hide (own_move (w' := w1) HV.out (fun k hk => hb1.block k (own_type HV.out hk).2.1))
    have HB1 := hide hb1
    have HKY := hide (key_s (nn_len HS.out))
    obtain ⟨⟨c0, c1, c2, c3, c4, c5⟩, fz⟩ := f_cells HF1.out.blk
    obtain ⟨D, hown, htie⟩ := HF1.out.map
    have HTI := hide htie
    clear hb1 HT htie
    by_cases hm : s ∈ S
    · have hhas : Maps.has D (ks' s) = true := by rw [(HTI.out s HS.out).1]; simp [hm]
      have hat0 := (HTI.out s HS.out).2 hm
      have HE := hide (show findF S s = (S, ((S.idxOf s : Nat) : Int)) by unfold findF; rw [if_neg HNE.out, if_pos hm])
      clear hm
      generalize S.idxOf s = ix at *
      go_wp2_with (at_lookup; refine wpList_lookup_own_ok_int _ rfl _ _ 155 rfl 9 3 .i64 law9 Tryz.underlying155 Tryz.underlying3 (zero3 _) m S.length D rfl hown _ _ rfl HKY.out ?_; intro c hat hwc; rw [hhas]; obtain rfl : c = (ix : Int) := by (rw [hat0] at hat; injection hat with h1; injection h1 with _ h2; exact h2.symm))
      go_ret
      exact ⟨by rw [HE.out]; rfl, ⟨sv, vs, by rw [HE.out]; exact HF1.out, .inl rfl⟩, Kf.of_below HB1.out⟩
    · have hhas : Maps.has D (ks' s) = false := by rw [(HTI.out s HS.out).1]; simp [hm]
      have HE := hide (show findF S s = (S ++ [s], ((S.length : Nat) : Int)) by unfold findF; rw [if_neg HNE.out, if_neg hm])
      have HTN := hide (tieS_new HTI.out hown.isMap HS.out hm)
      have HLN := hide HF1.out.len
      have HO1 := hide HF1.out.own
      obtain ⟨xb, cb, rfl⟩ : ∃ x c, sv = .slice x vs.length c := by
        rcases HF1.out.own.2 with ⟨rfl, h0⟩ | ⟨g, cap, cur, rfl, _⟩
        · exact ⟨_, _, by rw [h0]⟩
        · exact ⟨_, _, rfl⟩
      have hSL := HSL.out
      obtain ⟨ns, hns⟩ : ∃ ns, S.length = ns := ⟨_, rfl⟩
      have HNS := hide hns
      have hvl : vs.length = ns := HLN.out.trans hns
      rw [hvl] at c4
      rw [hns] at hown hSL
      clear hm hns
      go_wp2_with (first
        | (at_lookup; refine wpList_lookup_own_ok_int _ rfl _ _ 155 rfl 9 3 .i64 law9 Tryz.underlying155 Tryz.underlying3 (zero3 _) m ns D rfl hown _ _ rfl HKY.out ?_; intro c hat hwc; rw [hhas])
        | (at_mapUpdate; refine wpList_mapUpdate_own _ rfl _ _ _ 155 rfl 9 3 law9 Tryz.underlying155 _ m ns D rfl hown (by unfold maxLen; omega) _ _ _ rfl rfl HKY.out _ [] (plainElem_int Tryz.underlying3 (WalkArith.wf_i64 (by omega))) ?_; intro w2 hown2 hg2; obtain ⟨p1, p2, p3, p4⟩ := fd_put HF1.out hg2; rw [hvl] at p1; obtain ⟨⟨k0, k1, k2, k3, k4, k5⟩, fz2⟩ := f_cells p1; have f4 := fz2 4; have HP1 := hide p1; have HP2 := hide p2; have HP3 := hide p3; have HP4 := hide p4; have HO2 := hide hown2; have HSZ := hide (show base ≤ (w2.alloc (.cells #[.slice a n cap] 23)).heap.size by have := (fd_lt HF1.out).2.2.2; have := p4.size; simp; omega); have HOW := hide (show w2.ownsRow base 23 1 (.slice xb ns cb) ns vs by have := p2; rw [hvl] at this; exact this); clear p1 p2 p3 p4 c0 c1 c2 c3 c4 c5 fz fz2 hown hown2 hg2)
        | (at_builtin; refine wpList_append_lies _ rfl _ _ 36 rfl base 23 i26 (.slice none 0 0) 1 24 Tryz.underlying36 hi26 hz26 hs26 hb26 rfl (by decide) _ _ _ rfl (HOW.out.alloc _) ⟨_, 0, none⟩ 1 1 [.slice a n cap] rfl rfl (one_new _ _ _) (fun u hu => by simp only [List.mem_singleton] at hu; subst hu; rfl) (by decide) (by unfold maxLen; omega) (by omega) HSZ.out _ rfl ?_; intro g cap' w3 hown3 hg3 hat3 hlt3; have hq3 : w3.heap[q]? = some (.cells #[x0, x1, x2, x3, .slice xb ns cb, .map (some m)] 157 (0, 0)) := (hg3.block q (by have := (Array.getElem?_eq_some_iff.1 HP1.out).1; simp; omega) (fun e => own_not HOW.out HP1.out (by decide) e.symm)).trans ((Below.heap_alloc _ _ _ (Array.getElem?_eq_some_iff.1 HP1.out).1).trans HP1.out); have r4 := (f_cells hq3).1.2.2.2.2.1; have g4 := (f_cells hq3).2 4; clear k0 k1 k2 k3 k4 k5 f4 hq3))
      go_ret
      have hV2 := HP4.out.own HV1.out (by decide) (by decide)
      have hV3 : w2.ownsRow base 3 1 (.slice a n cap) s.length (s.map (Value.int .i64)) := by have := hV2; rw [HN.out] at this; rw [HN.out]; exact this
      have hz := fd_app (v := .slice a n cap) (s := s) (g := g) (cap := cap') HP1.out HF1.out.low HF1.out.mlow (by rw [hvl]; exact HOW.out) HF1.out.len HP3.out hV3 (by rw [HNS.out]; exact HO2.out) (by have := HTN.out; rw [HNS.out] at this; exact this) (HLT.out.2.2.1) hg3 (by rw [hvl]; exact hown3)
      rw [hvl] at hz
      exact ⟨by rw [HE.out, HNS.out]; rfl, ⟨_, _, by rw [HE.out]; exact hz.1, .inr rfl⟩, (Kf.of_below HB1.out).trans (HP4.out.trans hz.2)⟩
end Go.Proofs.YtbbfjjjnifomgaaGreatDoor.A



/- Where a set goes by each category: the program's row. -/
namespace Go.Proofs.YtbbfjjjnifomgaaGreatDoor.A
open Go.RowKit Go.Maps

/-- 16 numbers as cells. -/
def rowG (g : Nat → Int) : Array Value := ((List.range 16).map fun (j : Nat) => Value.int .i64 (g j)).toArray
theorem rowG_size (g : Nat → Int) : (rowG g).size = 16 := by simp [rowG]
theorem rowG_at (g : Nat → Int) (j : Nat) (h : j < 16) : (rowG g)[j]? = some (.int .i64 (g j)) := by simp [rowG, h]
theorem rowG_congr {g h : Nat → Int} (e : ∀ j, j < 16 → g j = h j) : rowG g = rowG h := by
  unfold rowG
  congr 1
  refine List.map_congr_left fun j hj => ?_
  rw [e j (by simpa using hj)]
theorem rowG_set (g : Nat → Int) (j : Nat) (v : Int) (h : j < 16) : (rowG g).setIfInBounds j (.int .i64 v) = rowG (fun i => if i = j then v else g i) := by
  apply Array.ext_getElem?
  intro i
  by_cases hi : i < 16
  · rw [rowG_at _ _ hi]
    by_cases e : i = j
    · subst e; simp [rowG_size, h]
    · rw [Array.getElem?_setIfInBounds, if_neg (fun q => e q.symm), rowG_at _ _ hi, if_neg e]
  · rw [Array.getElem?_eq_none (by simp [rowG_size]; omega), Array.getElem?_eq_none (by simp [rowG_size]; omega)]
theorem zero63 : (Tryz.prog.info? 66).map (fun i => (i.zero, i.size)) = some (some (.agg (Array.replicate 16 (.int .i64 0))), 16) := by kernel_rfl
theorem rowG_zero : Array.replicate 16 (.int .i64 0) = rowG (fun _ => 0) := by
  apply Array.ext_getElem?
  intro i
  by_cases hi : i < 16
  · rw [rowG_at _ _ hi]; simp [hi]
  · rw [Array.getElem?_eq_none (by simp; omega), Array.getElem?_eq_none (by simp [rowG_size]; omega)]
theorem rowG_one (g : Nat → Int) : (rowG g).all (·.oneCell') = true := by
  rw [Array.all_eq_true_iff_forall_mem]
  intro v hv
  simp only [rowG, List.mem_toArray, List.mem_map] at hv
  obtain ⟨j, _, rfl⟩ := hv
  rfl
/-- A row of numbers, as a function. -/
def fnL (l : List Int) (j : Nat) : Int := l.getD j 0
theorem rowG_list {l : List Int} (h : l.length = 16) : rowG (fnL l) = (l.map (Value.int .i64)).toArray := by
  apply Array.ext_getElem?
  intro i
  by_cases hi : i < 16
  · rw [rowG_at _ _ hi]
    simp [fnL, List.getD_eq_getElem?_getD, hi, h]
  · rw [Array.getElem?_eq_none (by simp [rowG_size]; omega), Array.getElem?_eq_none (by simp [h]; omega)]
theorem below_setRow {B g : Nat} {a w : World} (h : Below B a w) (hg : B ≤ g) (cs : Array Value) : Below B a (w.setRow g cs) :=
  ⟨h.os, h.tape, h.output, by rw [size_setRow]; exact h.size, fun k hk => (setRow_other w g k cs (by omega)).trans (h.block k hk)⟩

theorem Kf.set {base : Nat} {w w' : World} (h : Kf base w w') {p : Addr} (hp : w.heap.size ≤ p.block) (u : Value) : Kf base w (w'.setCell p u) :=
  ⟨h.os, h.tape, h.output, by simpa using h.size, fun k hk hf => (Below.heap_setCell _ _ _ _ (by omega)).trans (h.block k hk hf)⟩
theorem Kf.setRow {base : Nat} {w w' : World} (h : Kf base w w') {g : Nat} (hp : w.heap.size ≤ g) (cs : Array Value) : Kf base w (w'.setRow g cs) :=
  ⟨h.os, h.tape, h.output, by rw [size_setRow]; exact h.size, fun k hk hf => (setRow_other _ _ _ _ (by omega)).trans (h.block k hk hf)⟩
section
variable {w w' : World} {base q m : Nat} {x0 x1 x2 x3 sv : Value} {vs : List Value} {S : List (List Int)}
/-- What is written elsewhere: a block of 16 numbers. -/
theorem fd_else {b : Nat} {cs : Array Value} {fr : Nat × Nat} (h : Fd w base q m x0 x1 x2 x3 sv vs S) (hb : w.heap[b]? = some (.cells cs 66 fr)) (hw : ∀ k, k ≠ b → w'.heap[k]? = w.heap[k]?) : Fd w' base q m x0 x1 x2 x3 sv vs S := by
  have mv : ∀ {e : TypeId} {v : Value} {n : Nat} {xs : List Value}, w.ownsRow base e 1 v n xs → e ≠ 66 → w'.ownsRow base e 1 v n xs := fun h he => own_move h (fun k hk => hw k (fun e => by
    obtain ⟨_, _, cs', h'⟩ := own_type h hk
    rw [e, hb] at h'; cases h'; exact he rfl))
  obtain ⟨D, hD, ht⟩ := h.map
  obtain ⟨es, c, hm⟩ := map_obj hD
  exact ⟨(hw q (fun e => by have := h.blk; rw [e, hb] at this; cases this)).trans h.blk, h.low, mv h.own (by decide), h.len, fun i v s a b => mv (h.set i v s a b) (by decide), ⟨D, map_move hD (hw m (fun e => by rw [e, hb] at hm; cases hm)), ht⟩, h.mlow⟩
end

/-- Where sets go, once and for all. -/
def TrS (fs : List (List Int)) (ss : List Nat) (ts : List Int) (N : Nat) (tr : List Int → Nat → List Int) : Prop :=
  ∀ (g : Nat → Bool) (c : Nat), c < 16 → ∃ h, IsCl fs N (stpB ss ts (c : Int) g N) h ∧ tr (lstL g N) c = lstL h N
theorem nn_lst {g : Nat → Bool} {N : Nat} (hN : N ≤ 10000) : NN (lstL g N) :=
  ⟨Nat.le_trans (lstL_le g N) hN, fun z hz => by obtain ⟨j, rfl, hj, _⟩ := (lst_mem g N z).1 hz; omega⟩
theorem tr_close {fs : List (List Int)} {ss : List Nat} {ts : List Int} {N : Nat} {tr : List Int → Nat → List Int} (ht : TrS fs ss ts N tr) {g h : Nat → Bool} {c : Nat} (hc : c < 16)
    (hcl : IsCl fs N (tblB (lstL (stpB ss ts (c : Int) (tblB (lstL g N) (lstL g N).length) N) N) (lstL (stpB ss ts (c : Int) (tblB (lstL g N) (lstL g N).length) N) N).length) h) : lstL h N = tr (lstL g N) c := by
  obtain ⟨h', h1, h2⟩ := ht g c hc
  rw [h2]
  refine lst_congr (isCl_one (isCl_congr (fun j hj => ?_) hcl) h1)
  rw [tbl_lst _ _ _ hj]
  exact stp_congr (fun i hi => tbl_lst g N i hi) j

/-- The machine stays whatever is done from base on. -/
def NmB (base : Nat) (w : World) (a0 a1 a2 a3 : Option Addr) (fs : List (List Int)) (ss : List Nat) (ts rs : List Int) : Prop := ∀ w', Below base w w' → Nm w' a0 a1 a2 a3 fs ss ts rs
theorem nmB_on {base : Nat} {w w1 : World} {a0 a1 a2 a3 : Option Addr} {fs : List (List Int)} {ss : List Nat} {ts rs : List Int} (h : NmB base w a0 a1 a2 a3 fs ss ts rs) (hb : Below base w w1) : NmB base w1 a0 a1 a2 a3 fs ss ts rs := fun w' h' => h w' (hb.trans h')
theorem row_end {B : Nat} {w wr : World} {base : Nat} {g : Nat → Int} (P : World → Prop) (tmps : Array Value) (hp : tmps.getD 4 undef = .pointer (some ⟨B, 0, none⟩)) (hb : wr.heap[B]? = some (.cells (rowG fun _ => 0) 66 (0, 0))) (hk : Kf base w wr) (hB : w.heap.size = B) (hP : P (wr.setRow B (rowG g))) :
    bodyPost Tryz.prog Tryz.f100 (fun e w' => e = .returned (.agg (rowG g)) ∧ P w' ∧ Kf base w w') Exit.ret { tmps := tmps, defers := [] } (wr.setRow B (rowG g)) := by
  obtain ⟨_, hi63⟩ := zero_of_info zero63
  refine bodyPost_ret (results_cell_row rfl _ _ B 66 (rowG g) (0, 0) _ hp (setRow_heap _ _ _ _ _ _ hb) Tryz.underlying66 rfl (by rw [rowG_size]; exact hi63)) rfl ⟨rfl, hP, hk.setRow (by omega) _⟩
/-- The two arrays of a row that is being filled. -/
def Fl (B : Nat) (wr : World) (g : Nat → Int) : Prop := wr.heap[B]? = some (.cells (rowG fun _ => 0) 66 (0, 0)) ∧ wr.heap[B + 1]? = some (.cells (rowG g) 66 (0, 0))
theorem fl_kf {base B : Nat} {wr w' : World} {g : Nat → Int} (h : Fl B wr g) (hk : Kf base wr w') : Fl B w' g := ⟨hk.heap h.1 (by decide) (by decide), hk.heap h.2 (by decide) (by decide)⟩
theorem fl_cell {B : Nat} {wr : World} {g : Nat → Int} (h : Fl B wr g) {j : Nat} (hj : j < 16) : wr.cell? ⟨B + 1, j, none⟩ = some (.int .i64 (g j)) ∧ wr.frozen? ⟨B + 1, j, none⟩ = false := by
  constructor
  · rw [cell_of_row _ _ j _ _ _ h.2, rowG_at _ _ hj]
  · simp [World.frozen?, h.2]
theorem fl_set {B : Nat} {wr : World} {g : Nat → Int} (h : Fl B wr g) {j : Nat} (hj : j < 16) (v : Int) : Fl B (wr.setCell ⟨B + 1, j, none⟩ (.int .i64 v)) (fun i => if i = j then v else g i) := by
  constructor
  · rw [Below.heap_setCell _ _ _ _ (by simp)]; exact h.1
  · rw [setCell_eq_setRow _ _ _ _ _ _ _ h.2, setRow_heap _ _ _ _ _ _ h.2, rowG_set _ _ _ hj]
theorem fl_start (w : World) : Fl w.heap.size ((w.alloc (.cells (rowG fun _ => 0) 66)).alloc (.cells (rowG fun _ => 0) 66)) (fun _ => 0) := by
  have e : (w.alloc (.cells (rowG fun _ => 0) 66)).heap.size = w.heap.size + 1 := by simp
  refine ⟨?_, ?_⟩
  · rw [Below.heap_alloc _ _ _ (by simp)]; exact heap_alloc_last w _
  · rw [← e]; exact heap_alloc_last _ _
theorem fl_congr {B : Nat} {wr : World} {g h : Nat → Int} (hf : Fl B wr g) (e : ∀ j, j < 16 → g j = h j) : Fl B wr h := ⟨hf.1, by rw [← rowG_congr e]; exact hf.2⟩

set_option maxRecDepth 100000 in
set_option maxHeartbeats 6400000 in
theorem row_any (base q m : Nat) (a0 a1 a2 a3 : Option Addr) (N c0 c1 c2 c3 : Nat) (fs : List (List Int)) (ss : List Nat) (ts rs : List Int) (tr : List Int → Nat → List Int) (sv : Value) (vs : List Value) (S : List (List Int)) (v : Value) (g : Nat → Bool) (w : World)
    (hm : Mach fs ss ts rs N) (hn : NmB base w a0 a1 a2 a3 fs ss ts rs) (htr : TrS fs ss ts N tr) (hF : Fd w base q m (.slice a0 N c0) (.slice a1 N c1) (.slice a2 N c2) (.slice a3 N c3) sv vs S) (hv : w.ownsRow base 3 1 v (lstL g N).length ((lstL g N).map (Value.int .i64))) (hS : S.length ≤ 5000) (ht : Tab base w) :
    Calls Tryz.prog 100 #[.pointer (some ⟨q, 0, none⟩), v] w fun e w' => e = .returned (.agg (rowG (fnL (rowF tr (lstL g N) S 16).2))) ∧ (∃ sv' vs' r, Fd w' base q m (.slice a0 N c0) (.slice a1 N c1) (.slice a2 N c2) (.slice a3 N c3) sv' vs' (rowF tr (lstL g N) S 16).1 ∧ vs' = vs ++ r ∧ ∀ u ∈ r, ∀ k, u.ownBlock = some k → w.heap.size ≤ k) ∧ Kf base w w' := by
  obtain ⟨hv63, hi63⟩ := zero_of_info zero63
  rw [rowG_zero] at hv63
  obtain ⟨b1, b2, b3, b4⟩ := fd_lt hF
  have HM := hide hm
  have HNM := hide hn
  have HTR := hide htr
  have HF := hide hF
  have HV := hide hv
  have HSL := hide hS
  have HT := hide ht
  have HI := hide hi63
  have hN33 := hm.most
  obtain ⟨a, cap, rfl, hW⟩ := own_len hv
  have hlen := lstL_le g N
  have HFL0 := hide (fl_start w)
  have HK0 := hide (((Kf.refl base w).alloc (.cells (rowG fun _ => 0) 66)).alloc (.cells (rowG fun _ => 0) 66))
  have HS0 := hide (show w.heap.size + 2 ≤ ((w.alloc (.cells (rowG fun _ => 0) 66)).alloc (.cells (rowG fun _ => 0) 66)).heap.size by simp)
  have HF0 := hide (fd_below ((Below.refl w.heap.size (w.alloc (.cells (rowG fun _ => 0) 66))).alloc (by simp) (.cells (rowG fun _ => 0) 66) |> fun h => ((Below.refl w.heap.size w).alloc (Nat.le_refl _) (.cells (rowG fun _ => 0) 66)).trans h) hF)
  have HLT := hide (And.intro b1 (And.intro b2 (And.intro b3 b4)))
  obtain ⟨n, hnn⟩ : ∃ n, (lstL g N).length = n := ⟨_, rfl⟩
  have HNN := hide hnn
  rw [hnn] at hlen ⊢
  clear hm hn htr hF hv hS ht hi63 hW b1 b2 b3 b4 hnn
  go_enter Tryz.func100, Tryz.ntmps100
  go_wp2_with fail
  generalize ((w.alloc (.cells (rowG fun _ => 0) 66)).alloc (.cells (rowG fun _ => 0) 66)) = W0 at *
  generalize hB : w.heap.size = B at *
  go_loopw [6, 7] (fun _ i wr => ∃ (k : Nat) (sv' : Value) (vs' r : List Value), k ≤ 16 ∧ i = .int .i64 k ∧ Fl B wr (fnL (rowF tr (lstL g N) S k).2) ∧ Fd wr base q m (.slice a0 N c0) (.slice a1 N c1) (.slice a2 N c2) (.slice a3 N c3) sv' vs' (rowF tr (lstL g N) S k).1 ∧ vs' = vs ++ r ∧ (∀ u ∈ r, ∀ k, u.ownBlock = some k → B ≤ k) ∧ Kf base w wr) (fun _ i _ => 16 - (intOf i).toNat)
  case atStart => exact ⟨0, sv, vs, [], by omega, rfl, fl_congr HFL0.out (fun j _ => rfl), HF0.out, by simp, fun u hu => (by cases hu), HK0.out⟩
  case round =>
    obtain ⟨k, sv', vs', r, hk, rfl, hfl, hfd, hr, hrb, hkf⟩ := hrel
    have HFL := hide hfl
    have HFD := hide hfd
    have HR := hide (And.intro hr hrb)
    have HKF := hide hkf
    clear hfl hfd hr hrb hkf
    by_cases hlt : k < 16
    · obtain ⟨⟨p0, p1, p2, p3, p4, p5⟩, fz⟩ := f_cells HFD.out.blk
      have HBB := hide (HKF.out.below (by rw [hB]; exact HLT.out.2.2.2))
      have HVW := hide (HKF.out.own HV.out (by decide) (by decide))
      have HBS := hide (show B ≤ wr.heap.size by have := HKF.out.size; omega)
      have HWD := hide (show Wd wr.drew a (lstL g N) from by
        obtain ⟨a', cap', e, hW⟩ := own_len HVW.out
        cases e
        exact hW)
      have HST := hide (pstep_yes a0 a1 a2 a3 N c0 c1 c2 c3 fs ss ts rs a n cap (lstL g N) k wr.drew HM.out (HNM.out _ (HBB.out.trans ((below_drew1 wr).mono (fd_lt HFD.out).2.2.2))) HNN.out (by unfold maxLen; omega) HWD.out)
      have i3 : (0 : Int) ≤ (k : Int) := by omega
      have i4 : (k : Int) < 16 := by omega
      have hqB : q ≠ B + 1 := fun e => by
        have h1 := HFL.out.2
        rw [← e, HFD.out.blk] at h1
        cases h1
      have hBq : B + 1 ≠ q := Ne.symm hqB
      have HLR := hide (show (rowF tr (lstL g N) S k).1.length ≤ 10000 by
        obtain ⟨r, hr, hl⟩ := row_pre tr (lstL g N) S k
        have := HSL.out
        rw [hr, List.length_append]; omega)
      clear p4 p5 fz
      go_wp2_with fail
      go_region_held3 (fun w' => w'.cell? ⟨q, 0, none⟩ = some (.slice a0 N c0) ∧ w'.cell? ⟨q, 1, none⟩ = some (.slice a1 N c1) ∧ w'.cell? ⟨q, 2, none⟩ = some (.slice a2 N c2) ∧ w'.cell? ⟨q, 3, none⟩ = some (.slice a3 N c3)) (first | assumption | go_keep) ((first
          | (go_at_call 98; refine (find_any base q m _ _ _ _ sv' vs' (rowF tr (lstL g N) S k).1 (.slice a4 _ cap4) (lstL h4 N) w4 HF4.out HV4.out (nn_lst (by omega)) HLR.out HT4.out).mono ?_; rintro e w5 ⟨rfl, ⟨sv5, vs5, hf5, hvs5⟩, hk5⟩; have HF5 := hide hf5; have HVS5 := hide hvs5; have HK5 := hide hk5; have HFL5 := hide (fl_kf (fl_kf (fl_kf HFL.out HK3.out) HK4.out) hk5); obtain ⟨⟨j0, j1, j2, j3, -, -⟩, -⟩ := f_cells hf5.blk; have k9 := And.intro j0 (And.intro j1 (And.intro j2 j3)); obtain ⟨r5, f5⟩ := fl_cell HFL5.out hlt)
          | (go_at_call 99; refine (pclose_yes a0 a1 a2 a3 N c0 c1 c2 c3 fs ss ts rs a3' _ cap3' _ w3 HM.out HN3.out rfl (by have := lstL_le (stpB ss ts k (tblB (lstL g N) n) N) N; unfold maxLen; omega) HW3.out).mono ?_; rintro e w4 ⟨h4, v4, hcl4, rfl, ho4, hb4⟩; obtain ⟨a4, cap4, rfl, -⟩ := own_len ho4; have HF4 := hide (fd_below hb4 HF3.out); have HV4 := hide (own_low ho4 HB3.out); have HK4 := hide (Kf.of_below (base := base) hb4); have HT4 := hide (tab_on HT3.out (hb4.mono HB3.out)); have HCL := hide hcl4; have HO4 := hide ho4; obtain ⟨⟨j0, j1, j2, j3, -, -⟩, -⟩ := f_cells HF4.out.blk; have k8 := And.intro j0 (And.intro j1 (And.intro j2 j3)))
          | (go_at_call 128; refine HST.out.mono ?_; rintro e w3 ⟨v3, rfl, ho3, hb3⟩; obtain ⟨a3', cap3', rfl, hW3⟩ := own_slice ho3; have HW3 := hide hW3; have HF3 := hide (fd_below hb3 (fd_below (below_drew1 wr) HFD.out)); have HB3 := hide (show base ≤ w3.heap.size by have := (fd_lt HFD.out).2.2.2; have := hb3.size; simp at this; omega); have HK3 := hide ((Kf.of_below (base := base) (below_drew1 wr)).trans (Kf.of_below hb3)); have HN3 := hide (HNM.out _ (HBB.out.trans (HK3.out.below (fd_lt HFD.out).2.2.2))); have HT3 := hide (tab_on HT.out (HBB.out.trans (HK3.out.below (fd_lt HFD.out).2.2.2))); obtain ⟨⟨j0, j1, j2, j3, -, -⟩, -⟩ := f_cells HF3.out.blk; have k7 := And.intro j0 (And.intro j1 (And.intro j2 j3)))))
      have hcl := HCL.out
      rw [← HNN.out] at hcl
      have htk := tr_close HTR.out hlt hcl
      rw [htk] at HF5 HVS5 HO4
      have hfx := fl_set HFL5.out hlt (findF (rowF tr (lstL g N) S k).1 (lstL h4 N)).2
      rw [htk] at hfx ⊢
      have HFX := hide hfx
      have HF6 := hide (fd_else HF5.out HFL5.out.2 (fun k' hk' => Below.heap_setCell w5 ⟨B + 1, k, none⟩ (.int .i64 (findF (rowF tr (lstL g N) S k).1 (tr (lstL g N) k)).2) k' hk'))
      have HK6 := hide ((HKF.out.trans (HK3.out.trans (HK4.out.trans HK5.out))).set (p := ⟨B + 1, k, none⟩) (by rw [hB]; exact Nat.le_succ B) (.int .i64 (findF (rowF tr (lstL g N) S k).1 (tr (lstL g N) k)).2))
      have HR6 := hide (show ∃ r', vs5 = vs ++ r' ∧ ∀ u ∈ r', ∀ k, u.ownBlock = some k → B ≤ k from by
        rcases HVS5.out with e | e
        · exact ⟨r, e.trans HR.out.1, HR.out.2⟩
        · refine ⟨r ++ [.slice a4 _ cap4], by rw [e, HR.out.1, List.append_assoc], fun u hu kk hkk => ?_⟩
          rw [List.mem_append, List.mem_singleton] at hu
          rcases hu with hu | rfl
          · exact HR.out.2 u hu kk hkk
          · have h1 := (own_type HO4.out hkk).1
            have h2 := HK3.out.size
            have h3 := HBS.out
            omega)
      clear hcl htk hfx ho3 hb3 ho4 hb4 hcl4 hW3 hf5 hk5 hvs5 k7 k8 k9 j0 j1 j2 j3 r5 f5 p0 p1 p2 p3 HST HVW HWD HBB
      obtain ⟨r6, e6, h6⟩ := HR6.out
      go_wp2
      go_roundw
      case rel => exact ⟨k + 1, sv5, vs5, r6, by omega, by go_num, fl_congr HFX.out (fun j _ => by
        have hl := row_len tr (lstL g N) S k
        show (if j = k then _ else fnL (rowF tr (lstL g N) S k).2 j) = fnL ((rowF tr (lstL g N) S k).2 ++ [(findF (rowF tr (lstL g N) S k).1 (tr (lstL g N) k)).2]) j
        unfold fnL
        rw [List.getD_eq_getElem?_getD, List.getD_eq_getElem?_getD]
        by_cases e : j = k
        · subst e; rw [if_pos rfl, List.getElem?_append_right (by omega), hl, Nat.sub_self]; rfl
        · rw [if_neg e]
          by_cases e2 : j < k
          · rw [List.getElem?_append_left (by omega)]
          · rw [List.getElem?_eq_none (by omega), List.getElem?_eq_none (by rw [List.length_append, hl]; simp; omega)]), HF6.out, e6, h6, HK6.out⟩
      case measure => simp [intOf]; omega
    · have e : k = 16 := by omega
      subst e
      go_wp2_with (first
        | refine wpList_load_row rfl 66 _ rfl (B + 1) rfl 66 _ (0, 0) _ HFL.out.2 Tryz.underlying66 rfl (by rw [rowG_size]; exact HI.out) ?_
        | refine wpList_store_row rfl 66 _ _ rfl B _ rfl rfl 66 _ HFL.out.1 (by rw [rowG_size]; exact HI.out) (by rw [rowG_size, rowG_size]) (rowG_one _) ?_)
      refine row_end (fun w' => ∃ sv' vs' r, Fd w' base q m (.slice a0 N c0) (.slice a1 N c1) (.slice a2 N c2) (.slice a3 N c3) sv' vs' (rowF tr (lstL g N) S 16).1 ∧ vs' = vs ++ r ∧ ∀ u ∈ r, ∀ k, u.ownBlock = some k → w.heap.size ≤ k) _ ?_ HFL.out.1 HKF.out hB ?_
      · rfl
      exact ⟨sv', vs', r, fd_else HFD.out HFL.out.1 (fun k hk => setRow_other _ _ _ _ hk), HR.out.1, by rw [hB]; exact HR.out.2⟩
end Go.Proofs.YtbbfjjjnifomgaaGreatDoor.A



/- The machine that is being built, in memory: its finder, its rows, its rules. -/
namespace Go.Proofs.YtbbfjjjnifomgaaGreatDoor.A
open Go.RowKit Go.Maps

theorem fold_at : ∀ (l : List Value) (k : Nat) (cells : Array Value) (i : Nat), ((l.zipIdx k).foldl (fun cs p => cs.setIfInBounds (0 + p.2) p.1) cells)[i]? = if k ≤ i ∧ i < k + l.length ∧ i < cells.size then l[i - k]? else cells[i]?
  | [], k, cells, i => by
    rw [if_neg (by simp; omega)]; rfl
  | x :: r, k, cells, i => by
    rw [List.zipIdx_cons, List.foldl_cons, fold_at r (k + 1) _ i]
    simp only [Array.size_setIfInBounds, List.length_cons, Nat.zero_add]
    by_cases h : i = k
    · subst h
      rw [if_neg (by omega)]
      by_cases h2 : i < cells.size
      · rw [if_pos ⟨by omega, by omega, h2⟩]
        simp [h2]
      · rw [if_neg (by omega), Array.getElem?_eq_none (by simp; omega), Array.getElem?_eq_none (by omega)]
    · have hk : (cells.setIfInBounds k x)[i]? = cells[i]? := by rw [Array.getElem?_setIfInBounds, if_neg (fun e => h e.symm)]
      rw [hk]
      by_cases h2 : k ≤ i ∧ i < k + (r.length + 1) ∧ i < cells.size
      · rw [if_pos h2, if_pos (show k + 1 ≤ i ∧ i < k + 1 + r.length ∧ i < cells.size from ⟨by omega, by omega, by omega⟩)]
        rw [show i - k = (i - (k + 1)) + 1 by omega]
        simp
      · rw [if_neg h2, if_neg (by omega)]
theorem fold_all (c cells : Array Value) (h : c.size = cells.size) : c.zipIdx.foldl (fun cs p => cs.setIfInBounds (0 + p.2) p.1) cells = c := by
  apply Array.ext_getElem?
  intro i
  rw [← Array.foldl_toList, Array.toList_zipIdx, fold_at]
  by_cases hi : i < c.size
  · rw [if_pos ⟨by omega, by simpa using hi, by omega⟩]
    simp
  · rw [if_neg (by simp; omega), Array.getElem?_eq_none (by omega), Array.getElem?_eq_none (by omega)]
theorem build25 (c : Array Value) (hc : c.size = 16) (w : World) : (Instr.buildSlice 22 1 #[(0, .agg c)]).run Tryz.prog w = .ok (.slice (some ⟨w.heap.size, 0, none⟩) 1 1) (w.alloc (.cells c 66)) := by
  obtain ⟨hv63, hi63⟩ := zero_of_info zero63
  have hs : ∀ w, (sizeOf 66).run Tryz.prog w = .ok 16 w := by
    intro w
    cases hq : Tryz.prog.info? 66 with
    | none => simp [hq] at hi63
    | some i => simp [hq] at hi63; simp [sizeOf, typeInfo, hq, hi63]
  have e := fold_all c ((Array.range (1 * 16)).map (fun x => (Array.replicate 16 (Value.int IntKind.i64 0))[x % (Array.replicate 16 (Value.int IntKind.i64 0)).size]!)) (by simp [hc])
  simp only [Instr.buildSlice, Sem.run_bind, run_underlying Tryz.underlying22, Result.andThen_ok, hs, Value.cells]
  rw [if_neg (by omega), if_neg (by omega)]
  simp only [Sem.run_bind, Sem.run_pure, hv63, Result.andThen_ok, Value.cells, Instr.fill, Nat.zero_mul, e, hc]
  rw [if_neg (by simp)]
  simp [newRow]
def isBlk : Value → Bool
  | .agg c => decide (c.size = 16)
  | _ => false
theorem isBlk_agg (c : Array Value) : isBlk (.agg c) = decide (c.size = 16) := rfl
theorem cells_agg (c : Array Value) : (Value.agg c).cells = c := rfl
theorem wp_build25 (o : Oper) (d : Tmp) (x : Operand) (hop : o.op = Op.buildSlice 22 1 #[(0, x)]) (hd : o.dst = some d) (a : Act) (w : World) (K : Act → World → Prop) (Q : Exit → Act → World → Prop) (hc : isBlk (a.eval x) = true) :
    Oper.wp Tryz.prog o a w K Q = K (a.put (some d) (.slice (some ⟨w.heap.size, 0, none⟩) 1 1)) (w.alloc (.cells (a.eval x).cells 66)) := by
  cases hx : a.eval x <;> rw [hx] at hc <;> simp [isBlk] at hc
  unfold Oper.wp execOp
  simp only [hop, hx, List.map_toArray, List.map_cons, List.map_nil, Sem.run_bind, build25 _ hc, Result.andThen_ok, Sem.run_pure, Value.cells]
  rw [Oper.upon_value, hd]
theorem wp_build25s {d : Tmp} {x : Operand} {t : TypeId} {p : String} {af : Array Edge} {g : Option (Nat × Bool)} {a : Act} {w : World} {K : Act → World → Prop} {Q : Exit → Act → World → Prop} (hc : isBlk (a.eval x) = true) :
    Oper.wp Tryz.prog { dst := some d, op := Op.buildSlice 22 1 #[(0, x)], type := t, pos := p, after := af, guard := g } a w K Q = K (a.put (some d) (.slice (some ⟨w.heap.size, 0, none⟩) 1 1)) (w.alloc (.cells (a.eval x).cells 66)) := wp_build25 _ d x rfl rfl a w K Q hc

/-- Rows of numbers, cell by cell. -/
def cI (x : List Int) : List Value := x.map (Value.int .i64)
theorem cI_len (x : List Int) : (cI x).length = x.length := by simp [cI]
def cellsR (l : List (List Int)) : List Value := l.flatMap cI
theorem cellsR_app (a b : List (List Int)) : cellsR (a ++ b) = cellsR a ++ cellsR b := by simp [cellsR]
theorem cellsR_at : ∀ (l : List (List Int)) (_ : ∀ x ∈ l, x.length = 16) (i j : Nat) (x : List Int) (_ : l[i]? = some x) (u : Value), (cI x)[j]? = some u → (cellsR l)[i * 16 + j]? = some u
  | [], _, i, j, x, h, u, _ => by simp at h
  | y :: r, hl, i, j, x, h, u, hu => by
    have e : cellsR (y :: r) = cI y ++ cellsR r := by simp [cellsR]
    have hy := hl y (by simp)
    have hj : j < 16 := by
      have := (List.getElem?_eq_some_iff.1 hu).1
      rw [cI_len, hl x (List.mem_of_getElem? h)] at this; exact this
    rw [e]
    cases i with
    | zero =>
      have : y = x := by simpa using h
      subst this
      rw [List.getElem?_append_left (by rw [cI_len]; omega), Nat.zero_mul, Nat.zero_add]; exact hu
    | succ i =>
      rw [List.getElem?_append_right (by rw [cI_len]; omega), cI_len, hy, show (i + 1) * 16 + j - 16 = i * 16 + j by omega]
      exact cellsR_at r (fun x hx => hl x (by simp [hx])) i j x (by simpa using h) u hu
/-- Rows of 16 numbers at a slice. -/
def Dr (w : World) (a : Option Addr) (nx : List (List Int)) : Prop := ∀ (i : Nat) (row : List Int), nx[i]? = some row → row.length = 16 ∧ ∃ b off, a = some ⟨b, off, none⟩ ∧ w.rangeAt b (off + i * 16) (cI row)
theorem dr_below {w w' : World} {a : Option Addr} {nx : List (List Int)} (hb : Below w.heap.size w w') (h : Dr w a nx) : Dr w' a nx := fun i row hr => by
  obtain ⟨h1, b, off, e, h2⟩ := h i row hr
  exact ⟨h1, b, off, e, fun j v hj => (hb.cell (p := ⟨b, off + i * 16 + j, none⟩) (cell_lt (h2 j v hj))).trans (h2 j v hj)⟩
theorem own_dr {w : World} {base n : Nat} {v : Value} {nx : List (List Int)} (h : w.ownsRow base 66 16 v n (cellsR nx)) (hl : ∀ x ∈ nx, x.length = 16) : ∃ a c, v = .slice a n c ∧ (n = nx.length → Dr w a nx) := by
  rcases h.2 with ⟨rfl, h0⟩ | ⟨g, cap, cur, rfl, _, hg, _, _, hs, ht⟩
  · refine ⟨none, 0, by rw [h0], fun e i row hr => ?_⟩
    have := (List.getElem?_eq_some_iff.1 hr).1
    omega
  · refine ⟨_, _, rfl, fun _ i row hr => ⟨hl row (List.mem_of_getElem? hr), g, 0, rfl, fun j u hu => ?_⟩⟩
    have := cellsR_at nx hl i j row hr u hu
    rw [← ht, List.getElem?_take] at this
    split at this
    · rw [cell_of_row _ _ _ _ _ _ hg, Nat.zero_add]; simpa using this
    · cases this

/-- What is written elsewhere than a finder's blocks. -/
theorem fd_but {w w' : World} {base q m : Nat} {x0 x1 x2 x3 sv : Value} {vs : List Value} {S : List (List Int)} (h : Fd w base q m x0 x1 x2 x3 sv vs S) (C : Nat → Prop) (hC : ∀ k, C k → ∃ cs t fr, w.heap[k]? = some (.cells cs t fr) ∧ t ≠ 157 ∧ t ≠ 23) (hv : ∀ v ∈ vs, ∀ k, v.ownBlock = some k → ¬ C k) (hb : ∀ k, k < w.heap.size → ¬ C k → w'.heap[k]? = w.heap[k]?) : Fd w' base q m x0 x1 x2 x3 sv vs S := by
  obtain ⟨h1, h2, h3, h4⟩ := fd_lt h
  obtain ⟨D, hD, ht⟩ := h.map
  obtain ⟨es, c, hm⟩ := map_obj hD
  refine ⟨(hb q h1 (fun e => ?_)).trans h.blk, h.low, own_move h.own (fun k hk => hb k (own_type h.own hk).2.1 (fun e => ?_)), h.len, fun i v s a b => own_move (h.set i v s a b) (fun k hk => hb k (own_type (h.set i v s a b) hk).2.1 (hv v (List.mem_of_getElem? a) k hk)), ⟨D, map_move hD (hb m h2 (fun e => ?_)), ht⟩, h.mlow⟩
  · obtain ⟨cs, t, fr, e, e1, _⟩ := hC q e
    rw [h.blk] at e; cases e; exact e1 rfl
  · obtain ⟨cs, t, fr, e, _, e2⟩ := hC k e
    obtain ⟨_, _, cs', h'⟩ := own_type h.own hk
    rw [h'] at e; cases e; exact e2 rfl
  · obtain ⟨cs, t, fr, e, _⟩ := hC m e
    rw [hm] at e; cases e

/-- A machine that is being built. -/
structure Bd (w : World) (base q m d : Nat) (x0 x1 x2 x3 sv nv rv : Value) (vs : List Value) (S nx : List (List Int)) (ru : List Int) : Prop where
  f : Fd w base q m x0 x1 x2 x3 sv vs S
  db : w.heap[d]? = some (.cells #[nv, rv] 25 (0, 0))
  dlow : base ≤ d
  n : w.ownsRow base 66 16 nv nx.length (cellsR nx)
  r : w.ownsRow base 3 1 rv ru.length (ru.map (Value.int .i64))
  ap : ∀ v ∈ vs, Ap v rv
theorem d_cells {w : World} {q : Nat} {v0 v1 : Value} (h : w.heap[q]? = some (.cells #[v0, v1] 25 (0, 0))) : w.cell? ⟨q, 0, none⟩ = some v0 ∧ w.cell? ⟨q, 1, none⟩ = some v1 ∧ (∀ i, w.frozen? ⟨q, i, none⟩ = false) := by
  refine ⟨?_, ?_, fun i => ?_⟩
  · rw [cell_of_row _ _ _ _ _ _ h]; rfl
  · rw [cell_of_row _ _ _ _ _ _ h]; rfl
  · simp [World.frozen?, h]
section
variable {w w' : World} {base q m d : Nat} {x0 x1 x2 x3 sv nv rv : Value} {vs : List Value} {S nx : List (List Int)} {ru : List Int}
theorem bd_below (hb : Below w.heap.size w w') (h : Bd w base q m d x0 x1 x2 x3 sv nv rv vs S nx ru) : Bd w' base q m d x0 x1 x2 x3 sv nv rv vs S nx ru :=
  ⟨fd_below hb h.f, (hb.block d (Array.getElem?_eq_some_iff.1 h.db).1).trans h.db, h.dlow, own_move h.n (fun k hk => hb.block k (own_type h.n hk).2.1), own_move h.r (fun k hk => hb.block k (own_type h.r hk).2.1), h.ap⟩
/-- Behind a row. -/
theorem bd_kf {sv' : Value} {r : List Value} {S' : List (List Int)} (h : Bd w base q m d x0 x1 x2 x3 sv nv rv vs S nx ru) (hk : Kf base w w') (hf : Fd w' base q m x0 x1 x2 x3 sv' (vs ++ r) S') (hr : ∀ u ∈ r, ∀ k, u.ownBlock = some k → w.heap.size ≤ k) : Bd w' base q m d x0 x1 x2 x3 sv' nv rv (vs ++ r) S' nx ru := by
  refine ⟨hf, hk.heap h.db (by decide) (by decide), h.dlow, hk.own h.n (by decide) (by decide), hk.own h.r (by decide) (by decide), fun v hv k h1 h2 => ?_⟩
  rw [List.mem_append] at hv
  rcases hv with hv | hv
  · exact h.ap v hv k h1 h2
  · have := hr v hv k h1
    have := (own_type h.r h2).2.1
    omega
/-- A row more. -/
theorem bd_next {o : Obj} {g cap : Nat} {l : List Int} (h : Bd w base q m d x0 x1 x2 x3 sv nv rv vs S nx ru) (hg : (w.alloc o).grownBy w' nv.ownBlock) (ho : w'.ownsRow base 66 16 (.slice (some ⟨g, 0, none⟩) (nx.length + 1) cap) (nx.length + 1) (cellsR nx ++ cI l)) :
    Bd (w'.setCell ⟨d, 0, none⟩ (.slice (some ⟨g, 0, none⟩) (nx.length + 1) cap)) base q m d x0 x1 x2 x3 sv (.slice (some ⟨g, 0, none⟩) (nx.length + 1) cap) rv vs S (nx ++ [l]) ru := by
  have hdl := (Array.getElem?_eq_some_iff.1 h.db).1
  have hnd : nv.ownBlock ≠ some d := own_not h.n h.db (by decide)
  have hd1 : w'.heap[d]? = some (.cells #[nv, rv] 25 (0, 0)) := by
    rw [hg.block d (by simp; omega) (fun e => hnd e.symm), Below.heap_alloc _ _ _ hdl]; exact h.db
  have old : ∀ k, k < w.heap.size → ¬ (k = d ∨ nv.ownBlock = some k) → (w'.setCell ⟨d, 0, none⟩ (.slice (some ⟨g, 0, none⟩) (nx.length + 1) cap)).heap[k]? = w.heap[k]? := fun k hk hc => by
    rw [Below.heap_setCell _ _ _ _ (fun e => hc (.inl e)), hg.block k (by simp; omega) (fun e => hc (.inr e.symm)), Below.heap_alloc _ _ _ hk]
  refine ⟨fd_but h.f (fun k => k = d ∨ nv.ownBlock = some k) (fun k hc => ?_) (fun v hv k hk hc => ?_) old, by rw [blk_set hd1 0 _]; rfl, h.dlow, ?_, own_move h.r (fun k hk => old k (own_type h.r hk).2.1 (fun hc => ?_)), h.ap⟩
  · rcases hc with rfl | hc
    · exact ⟨_, _, _, h.db, by decide, by decide⟩
    · obtain ⟨_, _, cs, h'⟩ := own_type h.n hc
      exact ⟨_, _, _, h', by decide, by decide⟩
  · obtain ⟨i, hi, e⟩ := List.getElem_of_mem hv
    have hs := h.f.set i v (S[i]'(by rw [← h.f.len]; exact hi)) (by rw [List.getElem?_eq_getElem hi, e]) (List.getElem?_eq_getElem _)
    obtain ⟨_, _, cs, h'⟩ := own_type hs hk
    rcases hc with rfl | hc
    · rw [h.db] at h'; cases h'
    · obtain ⟨_, _, cs2, h2⟩ := own_type h.n hc
      rw [h'] at h2; cases h2
  · rw [List.length_append, cellsR_app]
    have e : cellsR [l] = cI l := by simp [cellsR]
    rw [e]
    exact set_far ho (own_not ho hd1 (by decide))
  · obtain ⟨_, _, cs, h'⟩ := own_type h.r hk
    rcases hc with rfl | hc
    · rw [h.db] at h'; cases h'
    · obtain ⟨_, _, cs2, h2⟩ := own_type h.n hc
      rw [h'] at h2; cases h2
/-- A rule more. -/
theorem bd_rule {o : Obj} {g cap : Nat} {z : Int} (h : Bd w base q m d x0 x1 x2 x3 sv nv rv vs S nx ru) (hg : (w.alloc o).grownBy w' rv.ownBlock) (ho : w'.ownsRow base 3 1 (.slice (some ⟨g, 0, none⟩) (ru.length + 1) cap) (ru.length + 1) (ru.map (Value.int .i64) ++ [.int .i64 z])) (hat : rv.ownBlock = some g ∨ w.heap.size ≤ g) :
    Bd (w'.setCell ⟨d, 1, none⟩ (.slice (some ⟨g, 0, none⟩) (ru.length + 1) cap)) base q m d x0 x1 x2 x3 sv nv (.slice (some ⟨g, 0, none⟩) (ru.length + 1) cap) vs S nx (ru ++ [z]) := by
  have hdl := (Array.getElem?_eq_some_iff.1 h.db).1
  have hnd : rv.ownBlock ≠ some d := own_not h.r h.db (by decide)
  have hd1 : w'.heap[d]? = some (.cells #[nv, rv] 25 (0, 0)) := by
    rw [hg.block d (by simp; omega) (fun e => hnd e.symm), Below.heap_alloc _ _ _ hdl]; exact h.db
  have old : ∀ k, k < w.heap.size → ¬ (k = d ∨ rv.ownBlock = some k) → (w'.setCell ⟨d, 1, none⟩ (.slice (some ⟨g, 0, none⟩) (ru.length + 1) cap)).heap[k]? = w.heap[k]? := fun k hk hc => by
    rw [Below.heap_setCell _ _ _ _ (fun e => hc (.inl e)), hg.block k (by simp; omega) (fun e => hc (.inr e.symm)), Below.heap_alloc _ _ _ hk]
  have sets : ∀ v ∈ vs, ∀ k, v.ownBlock = some k → k < w.heap.size ∧ ∃ cs, w.heap[k]? = some (.cells cs 3 (0, 0)) := fun v hv k hk => by
    obtain ⟨i, hi, e⟩ := List.getElem_of_mem hv
    have hs := h.f.set i v (S[i]'(by rw [← h.f.len]; exact hi)) (by rw [List.getElem?_eq_getElem hi, e]) (List.getElem?_eq_getElem _)
    exact (own_type hs hk).2
  refine ⟨fd_but h.f (fun k => k = d ∨ rv.ownBlock = some k) (fun k hc => ?_) (fun v hv k hk hc => ?_) old, by rw [blk_set hd1 1 _]; rfl, h.dlow, own_move h.n (fun k hk => old k (own_type h.n hk).2.1 (fun hc => ?_)), ?_, fun v hv k h1 h2 => ?_⟩
  · rcases hc with rfl | hc
    · exact ⟨_, _, _, h.db, by decide, by decide⟩
    · obtain ⟨_, _, cs, h'⟩ := own_type h.r hc
      exact ⟨_, _, _, h', by decide, by decide⟩
  · rcases hc with rfl | hc
    · obtain ⟨_, cs, h'⟩ := sets v hv k hk
      rw [h.db] at h'; cases h'
    · exact h.ap v hv k hk hc
  · obtain ⟨_, _, cs, h'⟩ := own_type h.n hk
    rcases hc with rfl | hc
    · rw [h.db] at h'; cases h'
    · obtain ⟨_, _, cs2, h2⟩ := own_type h.r hc
      rw [h'] at h2; cases h2
  · rw [List.length_append, List.map_append]
    exact set_far ho (own_not ho hd1 (by decide))
  · simp only [Value.ownBlock, Option.some.injEq] at h2
    subst h2
    rcases hat with hat | hat
    · exact h.ap v hv g h1 hat
    · have := (sets v hv g h1).1
      omega
end
end Go.Proofs.YtbbfjjjnifomgaaGreatDoor.A


