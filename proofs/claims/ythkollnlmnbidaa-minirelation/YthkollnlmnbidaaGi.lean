/- The program's smallest machine while it is made, in memory: a finder of classes, rows, rules. -/
import Derived.Test.YthkollnlmnbidaaGg
import Derived.Test.YthkollnlmnbidaaBi
import Derived.Maps.Keyed
namespace Go.Proofs.Ythkollnlmnbidaa.A
open Go.RowKit Go.Maps
set_option linter.unusedVariables false

def AC (cl : Nat → Int) (i k : Nat) : Bool := decide (cl i = cl k)
def GC (cl : Nat → Int) (i : Nat) : Bool := decide (cl i ≠ -1)
section
variable {nx : List (List Int)} {ru : List Int} {n : Nat} {cl : Nat → Int}
theorem gc_live (h : IsCls nx ru n cl) : IsLive nx ru n (GC cl) := fun i hi => by
  unfold GC
  rw [decide_eq_true_iff, Ne, h.neg i hi]
  exact Classical.not_not
theorem ac_alk (h : IsCls nx ru n cl) : IsAlk nx ru n (AC cl) := isCls_alk h
end
/-- The classes of states that were found, and their numbers. -/
def SL (cl : Nat → Int) (n : Nat) (fd : List Int) : List (List Int) := fd.map fun z => clsM (AC cl) n z.toNat
def KL (cl : Nat → Int) (fd : List Int) : List Int := fd.map fun z => cl z.toNat
theorem sl_len (cl : Nat → Int) (n : Nat) (fd : List Int) : (SL cl n fd).length = fd.length := by simp [SL]
theorem kl_len (cl : Nat → Int) (fd : List Int) : (KL cl fd).length = fd.length := by simp [KL]
theorem idx_map {f : Int → List Int} {h : Int → Int} {x : List Int} {y : Int} : ∀ fd : List Int, (∀ z ∈ fd, f z = x ↔ h z = y) → (x ∈ fd.map f ↔ y ∈ fd.map h) ∧ (fd.map f).idxOf x = (fd.map h).idxOf y
  | [], _ => by simp
  | z :: r, hz => by
    have h1 := hz z (by simp)
    obtain ⟨i1, i2⟩ := idx_map r (fun u hu => hz u (by simp [hu]))
    rw [List.map_cons, List.map_cons, List.idxOf_cons, List.idxOf_cons, i2]
    by_cases c : f z = x
    · have c2 := h1.1 c
      simp [c, c2]
    · have c2 : h z ≠ y := fun e => c (h1.2 e)
      have b1 : (f z == x) = false := by simpa using c
      have b2 : (h z == y) = false := by simpa using c2
      rw [b1, b2]
      refine ⟨?_, rfl⟩
      rw [List.mem_cons, List.mem_cons, i1]
      exact ⟨fun q => q.elim (fun e => absurd e.symm c) .inr, fun q => q.elim (fun e => absurd e.symm c2) .inr⟩
section
variable {nx : List (List Int)} {ru : List Int} {n : Nat} {cl : Nat → Int} {fd : List Int}
theorem fd_idx (h : IsCls nx ru n cl) (hr : ∀ z ∈ fd, 0 ≤ z ∧ z < (n : Int)) {t : Nat} (ht : t < n) : (clsM (AC cl) n t ∈ SL cl n fd ↔ cl t ∈ KL cl fd) ∧ (SL cl n fd).idxOf (clsM (AC cl) n t) = (KL cl fd).idxOf (cl t) :=
  idx_map fd fun z hz => by
    have hzr := hr z hz
    rw [cls_iff (ac_alk h) (show z.toNat < n by omega) ht]
    unfold AC
    rw [decide_eq_true_iff]
theorem cls_ne (h : IsCls nx ru n cl) {t : Nat} (ht : t < n) : clsM (AC cl) n t ≠ [] := fun e => by
  have := cls_self (ac_alk h) ht
  rw [e] at this
  cases this
theorem find_no (h : IsCls nx ru n cl) {z : Int} (hz : cF cl z = -1) (S : List (List Int)) : findF S (clsD (AC cl) (GC cl) n z) = (S, -1) := by
  rw [clsD_nil, find_none S rfl]
  by_cases c : z < 0
  · exact .inl c
  · right
    unfold cF at hz
    rw [if_neg (by omega)] at hz
    unfold GC
    rw [decide_eq_false_iff_not]
    exact fun q => q hz
theorem find_old (h : IsCls nx ru n cl) (hr : ∀ z ∈ fd, 0 ≤ z ∧ z < (n : Int)) {t : Nat} (ht : t < n) (hl : cl t ≠ -1) (hm : cl t ∈ KL cl fd) : findF (SL cl n fd) (clsD (AC cl) (GC cl) n (t : Int)) = (SL cl n fd, (((KL cl fd).idxOf (cl t) : Nat) : Int)) := by
  obtain ⟨h1, h2⟩ := fd_idx h hr ht
  rw [clsD_live (ac_alk h) ht (by unfold GC; rw [decide_eq_true_iff]; exact hl)]
  unfold findF
  rw [if_neg (cls_ne h ht), if_pos (h1.2 hm), h2]
theorem find_new (h : IsCls nx ru n cl) (hr : ∀ z ∈ fd, 0 ≤ z ∧ z < (n : Int)) {t : Nat} (ht : t < n) (hl : cl t ≠ -1) (hm : ¬ cl t ∈ KL cl fd) : findF (SL cl n fd) (clsD (AC cl) (GC cl) n (t : Int)) = (SL cl n (fd ++ [(t : Int)]), ((fd.length : Nat) : Int)) := by
  obtain ⟨h1, h2⟩ := fd_idx h hr ht
  rw [clsD_live (ac_alk h) ht (by unfold GC; rw [decide_eq_true_iff]; exact hl)]
  unfold findF
  rw [if_neg (cls_ne h ht), if_neg (fun q => hm (h1.1 q)), sl_len]
  simp [SL]
end

/-- The map tells which classes were found, and their numbers. -/
def kN (z : Int) : Lit := .int .i64 z
theorem law3 : Keyed Try.prog 3 := int_keyed Try.underlying3
theorem key3 {z : Int} (h1 : -1 ≤ z) (h2 : z ≤ 10000) : keyOf Try.prog 3 (.int .i64 z) = some (kN z) := keyOf_int_mk Try.underlying3 (WalkArith.wf_i64 (by omega))
def TieN (K : List Int) (D : DataW Unit) : Prop :=
  ∀ z, -1 ≤ z → z ≤ 10000 → Maps.has D (kN z) = decide (z ∈ K) ∧ (z ∈ K → D.atKey (kN z) (.lit (.int .i64 0)) = .lit (.int .i64 (K.idxOf z : Nat)))
theorem tieN_nil : TieN [] (.map []) := fun z _ _ => ⟨by simp [Maps.has], fun h => by cases h⟩
theorem tieN_new {K : List Int} {D : DataW Unit} (t : TieN K D) (hD : IsMap D) {z : Int} (h1 : -1 ≤ z) (h2 : z ≤ 10000) (hm : ¬ z ∈ K) : TieN (K ++ [z]) (D.put (kN z) (.lit (.int .i64 (K.length : Nat)))) := by
  intro s' a1 a2
  by_cases e : s' = z
  · subst e
    rw [has_put_same hD (law3.key (key3 h1 h2)), atKey_put_same hD (law3.key (key3 h1 h2))]
    refine ⟨by simp, fun _ => ?_⟩
    rw [List.idxOf_append, if_neg hm]
    simp
  · have ek : kN s' ≠ kN z := fun q => e (by unfold kN at q; injection q)
    rw [has_put_other ek, atKey_put_other ek, (t s' a1 a2).1]
    refine ⟨by simp [e], fun q => ?_⟩
    have q' : s' ∈ K := by simpa [e] using q
    rw [(t s' a1 a2).2 q', List.idxOf_append, if_pos q']

/-- A block that the finder never writes. -/
def FarN (w : World) (base k : Nat) : Prop := k < base ∨ ∃ cs t fr, w.heap[k]? = some (.cells cs t fr) ∧ t ≠ 45 ∧ t ≠ 3
structure Kn (base : Nat) (w w' : World) : Prop where
  os : w'.os = w.os
  tape : w'.tape = w.tape
  output : w'.output = w.output
  size : w.heap.size ≤ w'.heap.size
  block : ∀ k, k < w.heap.size → FarN w base k → w'.heap[k]? = w.heap[k]?
theorem Kn.refl (base : Nat) (w : World) : Kn base w w := ⟨rfl, rfl, rfl, Nat.le_refl _, fun _ _ _ => rfl⟩
theorem Kn.far {base : Nat} {w w' : World} (h : Kn base w w') {k : Nat} (hk : k < w.heap.size) (hf : FarN w base k) : FarN w' base k := by
  rcases hf with hf | ⟨cs, t, fr, e, ht⟩
  · exact .inl hf
  · exact .inr ⟨cs, t, fr, (h.block k hk (.inr ⟨cs, t, fr, e, ht⟩)).trans e, ht⟩
theorem Kn.trans {base : Nat} {a b c : World} (h : Kn base a b) (k : Kn base b c) : Kn base a c :=
  ⟨k.os.trans h.os, k.tape.trans h.tape, k.output.trans h.output, Nat.le_trans h.size k.size, fun i hi hf => (k.block i (Nat.lt_of_lt_of_le hi h.size) (h.far hi hf)).trans (h.block i hi hf)⟩
theorem Kn.of_below {base : Nat} {w w' : World} (h : Below w.heap.size w w') : Kn base w w' := ⟨h.os, h.tape, h.output, h.size, fun k hk _ => h.block k hk⟩
theorem Kn.alloc {base : Nat} {w w' : World} (h : Kn base w w') (o : Obj) : Kn base w (w'.alloc o) := h.trans (Kn.of_below ((Below.refl _ _).alloc (Nat.le_refl _) o))
theorem Kn.below {base : Nat} {w w' : World} (h : Kn base w w') (hb : base ≤ w.heap.size) : Below base w w' := ⟨h.os, h.tape, h.output, h.size, fun k hk => h.block k (by omega) (.inl hk)⟩
theorem Kn.heap {base : Nat} {w w' : World} (h : Kn base w w') {k : Nat} {cs : Array Value} {t : TypeId} {fr : Nat × Nat} (hk : w.heap[k]? = some (.cells cs t fr)) (h1 : t ≠ 45) (h2 : t ≠ 3) : w'.heap[k]? = some (.cells cs t fr) :=
  (h.block k (Array.getElem?_eq_some_iff.1 hk).1 (.inr ⟨cs, t, fr, hk, h1, h2⟩)).trans hk
theorem Kn.set {base : Nat} {w w' : World} (h : Kn base w w') {p : Addr} (hp : w.heap.size ≤ p.block) (u : Value) : Kn base w (w'.setCell p u) :=
  ⟨h.os, h.tape, h.output, by simpa using h.size, fun k hk hf => (Below.heap_setCell _ _ _ _ (by omega)).trans (h.block k hk hf)⟩
theorem Kn.setRow {base : Nat} {w w' : World} (h : Kn base w w') {g : Nat} (hp : w.heap.size ≤ g) (cs : Array Value) : Kn base w (w'.setRow g cs) :=
  ⟨h.os, h.tape, h.output, by rw [size_setRow]; exact h.size, fun k hk hf => (setRow_other _ _ _ _ (by omega)).trans (h.block k hk hf)⟩

/-- A smallest machine that is being made. -/
structure Sn (w : World) (base n q m C d : Nat) (cl : Nat → Int) (fv nv rv : Value) (fd : List Int) (nx : List (List Int)) (ru : List Int) : Prop where
  blk : w.heap[q]? = some (.cells #[.slice (some ⟨C, 0, none⟩) n n, fv, .map (some m)] 45 (0, 0))
  low : base ≤ q
  mlow : base ≤ m
  clow : C < base
  ik : Ik w C n cl
  f : w.ownsRow base 3 1 fv fd.length (fd.map (Value.int .i64))
  rng : ∀ z ∈ fd, 0 ≤ z ∧ z < (n : Int)
  map : ∃ D : DataW Unit, w.ownsMap Try.prog 3 (plainElem Try.prog 3) m fd.length D ∧ TieN (KL cl fd) D
  db : w.heap[d]? = some (.cells #[nv, rv] 25 (0, 0))
  dlow : base ≤ d
  n' : w.ownsRow base 41 16 nv nx.length (cellsR nx)
  r : w.ownsRow base 3 1 rv ru.length (ru.map (Value.int .i64))
  ap : Ap fv rv
theorem q_cells {w : World} {q : Nat} {v0 v1 v2 : Value} (h : w.heap[q]? = some (.cells #[v0, v1, v2] 45 (0, 0))) : w.cell? ⟨q, 0, none⟩ = some v0 ∧ w.cell? ⟨q, 1, none⟩ = some v1 ∧ w.cell? ⟨q, 2, none⟩ = some v2 ∧ (∀ i, w.frozen? ⟨q, i, none⟩ = false) := by
  refine ⟨?_, ?_, ?_, fun i => ?_⟩
  · rw [cell_of_row _ _ _ _ _ _ h]; rfl
  · rw [cell_of_row _ _ _ _ _ _ h]; rfl
  · rw [cell_of_row _ _ _ _ _ _ h]; rfl
  · simp [World.frozen?, h]
section
variable {w w' w1 w2 : World} {base n q m C d : Nat} {cl : Nat → Int} {fv nv rv : Value} {fd : List Int} {nx : List (List Int)} {ru : List Int}
theorem sn_lt (h : Sn w base n q m C d cl fv nv rv fd nx ru) : q < w.heap.size ∧ m < w.heap.size ∧ d < w.heap.size ∧ C < w.heap.size ∧ base ≤ w.heap.size ∧ q ≠ m ∧ q ≠ d ∧ m ≠ d ∧ (∃ es c, w.heap[m]? = some (.map es c)) := by
  have h1 := (Array.getElem?_eq_some_iff.1 h.blk).1
  have h2 := (Array.getElem?_eq_some_iff.1 h.db).1
  obtain ⟨D, hD, _⟩ := h.map
  obtain ⟨es, c, hm⟩ := map_obj hD
  have h3 := (Array.getElem?_eq_some_iff.1 hm).1
  have := h.low
  have := h.clow
  refine ⟨h1, h3, h2, by omega, by omega, fun e => ?_, fun e => ?_, fun e => ?_, es, c, hm⟩
  · subst e; have := h.blk; rw [hm] at this; cases this
  · subst e; have := h.blk; rw [h.db] at this; cases this
  · subst e; have := h.db; rw [hm] at this; cases this
theorem sn_at (h : Sn w base n q m C d cl fv nv rv fd nx ru) (hb : ∀ k, k < w.heap.size → (k = C ∨ k = q ∨ k = m ∨ k = d ∨ fv.ownBlock = some k ∨ nv.ownBlock = some k ∨ rv.ownBlock = some k) → w'.heap[k]? = w.heap[k]?) : Sn w' base n q m C d cl fv nv rv fd nx ru := by
  obtain ⟨h1, h2, h3, h4, -, -, -, -, -⟩ := sn_lt h
  obtain ⟨D, hD, ht⟩ := h.map
  exact ⟨(hb q h1 (.inr (.inl rfl))).trans h.blk, h.low, h.mlow, h.clow, (hb C h4 (.inl rfl)).trans h.ik, own_move h.f (fun k hk => hb k (own_type h.f hk).2.1 (.inr (.inr (.inr (.inr (.inl hk)))))), h.rng, ⟨D, map_move hD (hb m h2 (.inr (.inr (.inl rfl)))), ht⟩, (hb d h3 (.inr (.inr (.inr (.inl rfl))))).trans h.db, h.dlow, own_move h.n' (fun k hk => hb k (own_type h.n' hk).2.1 (.inr (.inr (.inr (.inr (.inr (.inl hk))))))), own_move h.r (fun k hk => hb k (own_type h.r hk).2.1 (.inr (.inr (.inr (.inr (.inr (.inr hk))))))), h.ap⟩
theorem sn_below (hb : Below w.heap.size w w') (h : Sn w base n q m C d cl fv nv rv fd nx ru) : Sn w' base n q m C d cl fv nv rv fd nx ru := sn_at h fun k hk _ => hb.block k hk
/-- What is written elsewhere: a block of 16 numbers. -/
theorem sn_else {rb : Nat} {cs : Array Value} {fr : Nat × Nat} (h : Sn w base n q m C d cl fv nv rv fd nx ru) (hb : w.heap[rb]? = some (.cells cs 41 fr)) (hne : nv.ownBlock ≠ some rb) (hw : ∀ k, k ≠ rb → w'.heap[k]? = w.heap[k]?) : Sn w' base n q m C d cl fv nv rv fd nx ru := by
  obtain ⟨-, -, -, -, -, -, -, -, es, c, hm⟩ := sn_lt h
  refine sn_at h fun k _ hk => hw k fun e => ?_
  subst e
  rcases hk with rfl | rfl | rfl | rfl | hk | hk | hk
  · have := h.ik; unfold Ik at this; rw [hb] at this; cases this
  · have := h.blk; rw [hb] at this; cases this
  · rw [hm] at hb; cases hb
  · have := h.db; rw [hb] at this; cases this
  · exact own_not h.f hb (by decide) hk
  · exact hne hk
  · exact own_not h.r hb (by decide) hk
/-- A class more. -/
theorem sn_find {o : Obj} {g cap t : Nat} {D : DataW Unit} (h : Sn w base n q m C d cl fv nv rv fd nx ru) (hg1 : w.grownBy w1 (some m)) (hD : w1.ownsMap Try.prog 3 (plainElem Try.prog 3) m (fd.length + 1) D) (htie : TieN (KL cl (fd ++ [(t : Int)])) D) (ht : t < n)
    (hg : (w1.alloc o).grownBy w2 fv.ownBlock) (ho : w2.ownsRow base 3 1 (.slice (some ⟨g, 0, none⟩) (fd.length + 1) cap) (fd.length + 1) (fd.map (Value.int .i64) ++ [.int .i64 (t : Int)])) (hat : fv.ownBlock = some g ∨ w1.heap.size ≤ g) :
    Sn (w2.setCell ⟨q, 1, none⟩ (.slice (some ⟨g, 0, none⟩) (fd.length + 1) cap)) base n q m C d cl (.slice (some ⟨g, 0, none⟩) (fd.length + 1) cap) nv rv (fd ++ [(t : Int)]) nx ru ∧ Kn base w (w2.setCell ⟨q, 1, none⟩ (.slice (some ⟨g, 0, none⟩) (fd.length + 1) cap)) := by
  obtain ⟨h1, h2, h3, h4, h5, h6, h7, h8, es, c, hm⟩ := sn_lt h
  have hfq : fv.ownBlock ≠ some q := own_not h.f h.blk (by decide)
  have hfm : fv.ownBlock ≠ some m := fun hk => by
    obtain ⟨_, _, cs, h'⟩ := own_type h.f hk
    rw [hm] at h'; cases h'
  have s1 := hg1.size
  have s2 := hg.size
  have old2 : ∀ k, k < w1.heap.size → fv.ownBlock ≠ some k → w2.heap[k]? = w1.heap[k]? := fun k hk hc => by
    rw [hg.block k (by simp; omega) (fun e => hc e.symm), Below.heap_alloc _ _ _ hk]
  have old : ∀ k, k < w.heap.size → k ≠ q → k ≠ m → fv.ownBlock ≠ some k → (w2.setCell ⟨q, 1, none⟩ (.slice (some ⟨g, 0, none⟩) (fd.length + 1) cap)).heap[k]? = w.heap[k]? := fun k hk a b c => by
    rw [Below.heap_setCell _ _ _ _ a, old2 k (by omega) c, hg1.block k hk (fun e => b (Option.some.inj e))]
  have hq2 : w2.heap[q]? = some (.cells #[.slice (some ⟨C, 0, none⟩) n n, fv, .map (some m)] 45 (0, 0)) := by
    rw [old2 q (by omega) hfq, hg1.block q h1 (fun e => h6 (Option.some.inj e))]; exact h.blk
  have tq : ∀ {e : TypeId} {s : Nat} {v : Value} {n' : Nat} {xs : List Value}, w.ownsRow base e s v n' xs → e ≠ 45 → ∀ k, v.ownBlock = some k → k ≠ q ∧ k ≠ m := fun hv he k hk => by
    obtain ⟨_, _, cs, h'⟩ := own_type hv hk
    refine ⟨fun e => ?_, fun e => ?_⟩
    · rw [e, h.blk] at h'; cases h'; exact he rfl
    · rw [e, hm] at h'; cases h'
  refine ⟨⟨?_, h.low, h.mlow, h.clow, ?_, ?_, fun z hz => ?_, ⟨D, ?_, htie⟩, ?_, h.dlow, own_move h.n' (fun k hk => ?_), own_move h.r (fun k hk => ?_), fun k a b => ?_⟩, ⟨hg.os.trans hg1.os, hg.tape.trans hg1.tape, hg.output.trans hg1.output, by simp at s2 ⊢; omega, fun k hk hf => ?_⟩⟩
  · rw [blk_set hq2 1 _]; rfl
  · refine (old C h4 (fun e => ?_) (fun e => ?_) (fun hk => ?_)).trans h.ik
    · have := h.clow; have := h.low; omega
    · have := h.clow; have := h.mlow; omega
    · have := (own_type h.f hk).1; have := h.clow; omega
  · rw [List.length_append, List.map_append]
    exact set_far ho (own_not ho hq2 (by decide))
  · rw [List.mem_append, List.mem_singleton] at hz
    rcases hz with hz | rfl
    · exact h.rng z hz
    · omega
  · rw [List.length_append]
    refine map_move hD ?_
    rw [Below.heap_setCell _ _ _ _ (fun e => h6 e.symm), old2 m (by omega) hfm]
  · exact (old d h3 (fun e => h7 e.symm) (fun e => h8 e.symm) (own_not h.f h.db (by decide))).trans h.db
  · exact old k (own_type h.n' hk).2.1 (tq h.n' (by decide) k hk).1 (tq h.n' (by decide) k hk).2 (fun e => own_types h.f h.n' (by decide) k e hk)
  · exact old k (own_type h.r hk).2.1 (tq h.r (by decide) k hk).1 (tq h.r (by decide) k hk).2 (fun e => h.ap k e hk)
  · simp only [Value.ownBlock, Option.some.injEq] at a
    subst a
    rcases hat with q | q
    · exact h.ap g q b
    · have := (own_type h.r b).2.1
      omega
  · refine old k hk (fun e => ?_) (fun e => ?_) (fun e => ?_)
    · subst e
      rcases hf with hf | ⟨cs, t, fr, e, h45, _⟩
      · have := h.low; omega
      · rw [h.blk] at e; cases e; exact h45 rfl
    · subst e
      rcases hf with hf | ⟨cs, t, fr, e, _⟩
      · have := h.mlow; omega
      · rw [hm] at e; cases e
    · obtain ⟨a, _, cs, h'⟩ := own_type h.f e
      rcases hf with hf | ⟨cs', t, fr, e', _, h3'⟩
      · omega
      · rw [h'] at e'; cases e'; exact h3' rfl
/-- A row more. -/
theorem sn_next {o : Obj} {g cap : Nat} {l : List Int} (h : Sn w base n q m C d cl fv nv rv fd nx ru) (hg : (w.alloc o).grownBy w' nv.ownBlock) (ho : w'.ownsRow base 41 16 (.slice (some ⟨g, 0, none⟩) (nx.length + 1) cap) (nx.length + 1) (cellsR nx ++ cI l)) :
    Sn (w'.setCell ⟨d, 0, none⟩ (.slice (some ⟨g, 0, none⟩) (nx.length + 1) cap)) base n q m C d cl fv (.slice (some ⟨g, 0, none⟩) (nx.length + 1) cap) rv fd (nx ++ [l]) ru := by
  obtain ⟨h1, h2, h3, h4, h5, h6, h7, h8, es, c, hm⟩ := sn_lt h
  have hnd : nv.ownBlock ≠ some d := own_not h.n' h.db (by decide)
  have hd1 : w'.heap[d]? = some (.cells #[nv, rv] 25 (0, 0)) := by
    rw [hg.block d (by simp; omega) (fun e => hnd e.symm), Below.heap_alloc _ _ _ h3]; exact h.db
  have old : ∀ k, k < w.heap.size → k ≠ d → nv.ownBlock ≠ some k → (w'.setCell ⟨d, 0, none⟩ (.slice (some ⟨g, 0, none⟩) (nx.length + 1) cap)).heap[k]? = w.heap[k]? := fun k hk a b => by
    rw [Below.heap_setCell _ _ _ _ a, hg.block k (by simp; omega) (fun e => b e.symm), Below.heap_alloc _ _ _ hk]
  obtain ⟨D, hD, ht⟩ := h.map
  have hnm : nv.ownBlock ≠ some m := fun hk => by
    obtain ⟨_, _, cs, h'⟩ := own_type h.n' hk
    rw [hm] at h'; cases h'
  refine ⟨(old q h1 h7 (own_not h.n' h.blk (by decide))).trans h.blk, h.low, h.mlow, h.clow, ?_, own_move h.f (fun k hk => old k (own_type h.f hk).2.1 (fun e => own_not h.f h.db (by decide) (e ▸ hk)) (fun e => own_types h.f h.n' (by decide) k hk e)), h.rng, ⟨D, map_move hD (old m h2 h8 hnm), ht⟩, by rw [blk_set hd1 0 _]; rfl, h.dlow, ?_, own_move h.r (fun k hk => old k (own_type h.r hk).2.1 (fun e => own_not h.r h.db (by decide) (e ▸ hk)) (fun e => own_types h.r h.n' (by decide) k hk e)), h.ap⟩
  · have := h.clow
    have := h.dlow
    exact (old C h4 (by omega) (fun hk => by have := (own_type h.n' hk).1; omega)).trans h.ik
  · rw [List.length_append, cellsR_app]
    have e : cellsR [l] = cI l := by simp [cellsR]
    rw [e]
    exact set_far ho (own_not ho hd1 (by decide))
/-- A rule more. -/
theorem sn_rule {o : Obj} {g cap : Nat} {z : Int} (h : Sn w base n q m C d cl fv nv rv fd nx ru) (hg : (w.alloc o).grownBy w' rv.ownBlock) (ho : w'.ownsRow base 3 1 (.slice (some ⟨g, 0, none⟩) (ru.length + 1) cap) (ru.length + 1) (ru.map (Value.int .i64) ++ [.int .i64 z])) (hat : rv.ownBlock = some g ∨ w.heap.size ≤ g) :
    Sn (w'.setCell ⟨d, 1, none⟩ (.slice (some ⟨g, 0, none⟩) (ru.length + 1) cap)) base n q m C d cl fv nv (.slice (some ⟨g, 0, none⟩) (ru.length + 1) cap) fd nx (ru ++ [z]) := by
  obtain ⟨h1, h2, h3, h4, h5, h6, h7, h8, es, c, hm⟩ := sn_lt h
  have hnd : rv.ownBlock ≠ some d := own_not h.r h.db (by decide)
  have hd1 : w'.heap[d]? = some (.cells #[nv, rv] 25 (0, 0)) := by
    rw [hg.block d (by simp; omega) (fun e => hnd e.symm), Below.heap_alloc _ _ _ h3]; exact h.db
  have old : ∀ k, k < w.heap.size → k ≠ d → rv.ownBlock ≠ some k → (w'.setCell ⟨d, 1, none⟩ (.slice (some ⟨g, 0, none⟩) (ru.length + 1) cap)).heap[k]? = w.heap[k]? := fun k hk a b => by
    rw [Below.heap_setCell _ _ _ _ a, hg.block k (by simp; omega) (fun e => b e.symm), Below.heap_alloc _ _ _ hk]
  obtain ⟨D, hD, ht⟩ := h.map
  have hnm : rv.ownBlock ≠ some m := fun hk => by
    obtain ⟨_, _, cs, h'⟩ := own_type h.r hk
    rw [hm] at h'; cases h'
  refine ⟨(old q h1 h7 (own_not h.r h.blk (by decide))).trans h.blk, h.low, h.mlow, h.clow, ?_, own_move h.f (fun k hk => old k (own_type h.f hk).2.1 (fun e => own_not h.f h.db (by decide) (e ▸ hk)) (fun e => h.ap k hk e)), h.rng, ⟨D, map_move hD (old m h2 h8 hnm), ht⟩, by rw [blk_set hd1 1 _]; rfl, h.dlow, own_move h.n' (fun k hk => old k (own_type h.n' hk).2.1 (fun e => own_not h.n' h.db (by decide) (e ▸ hk)) (fun e => own_types h.n' h.r (by decide) k hk e)), ?_, fun k a b => ?_⟩
  · have := h.clow
    have := h.dlow
    exact (old C h4 (by omega) (fun hk => by have := (own_type h.r hk).1; omega)).trans h.ik
  · rw [List.length_append, List.map_append]
    exact set_far ho (own_not ho hd1 (by decide))
  · simp only [Value.ownBlock, Option.some.injEq] at b
    subst b
    rcases hat with q | q
    · exact h.ap g a q
    · have := (own_type h.f a).2.1
      omega
end
end Go.Proofs.Ythkollnlmnbidaa.A
