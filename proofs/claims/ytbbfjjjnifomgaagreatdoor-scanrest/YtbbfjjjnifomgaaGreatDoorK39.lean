/- The program's smallest machine while it is made, in memory: a finder of classes, rows, rules. -/
import Derived.Maps.Keyed
import Derived.OpenShut
import Derived.Lib.LaidTab
import Derived.Below
import Derived.Outline
import Derived.Deep.Heap
import Derived.Deep.OwnRows
import Derived.Deep.QuietTactic
import Derived.Deep.Slices
import Derived.ProofKit
import Derived.WalkKit
import Derived.WalkSpells
import Derived.WalkLawsBesides
import Derived.Deep.WholeRow
import Derived.Deep.MidRow
import Derived.DeepKeys5
import Derived.Maps.OwnSet
import Derived.Maps.OwnOps
import Derived.Maps.AppendAt
import Derived.Maps.RangeWalk
import Derived.Deep.RegionLaw
import Derived.Deep.Cut
import Derived.Deep.CutRange
import Derived.Deep.RegionHeld3
import Derived.Deep.AppendLies
import Derived.BigQuiet
import Derived.Laws.Tables
import Derived.Laws.Rows
import Derived.Laws.CopyOwn
import Derived.Shelf.Small.Strs
import Derived.Shelf.Strconv.Itoa0
import Derived.Shelf.Strconv.Itoa1
import Derived.Shelf.LaysM
import Derived.Shelf.Strconv.Itoa2
import Derived.Shelf.Strconv.Clone
import Derived.Shelf.Strings.Search1
import Derived.Shelf.Strings.Search2
import Derived.Shelf.Strings.Search3
import Derived.Shelf.Strings.Count
import Derived.Shelf.Strings.Shaped
import Derived.Shelf.Strconv.AppendUint10
import Derived.Shelf.Strconv.AppendInt10
import Derived.Shelf.Strconv.AppendIntPublic10
import Derived.Shelf.Strings.Split
import Derived.Shelf.Strings.SplitShaped
import Derived.Shelf.Bits.Mul64
import Derived.Shelf.Unicode.DecodeSlow
import Derived.Ground.Names2Prog
import Derived.Shelf.Slices.Clone
import Derived.Ground.SlgnProg
import Derived.Shelf.SlicesE.Clone
import Derived.Deep.LoopGhost
import Derived.Deep.Strs
import Derived.Deep.AppendSrc
import Derived.Laws.AppendOwnNone
import Derived.Laws.AppendOwn
import Derived.Laws.IdiomStrings
import Derived.Laws.BytesArg
import Derived.LaidMore
import Derived.HandedShaped
import Derived.Shelf.Vars
import Derived.MakeChecks
import Derived.Stop.LaidErr
import Derived.Laws.OwnMore
import Derived.OwnWalk
import Derived.Defers
import Derived.Recover
import Derived.Lib.SplitLaws
import Derived.Test.YtbbfjjjnifomgaaGreatDoorK8
import Derived.Test.YtbbfjjjnifomgaaGreatDoorK11
import Derived.Test.YtbbfjjjnifomgaaGreatDoorK13
import Derived.Test.YtbbfjjjnifomgaaGreatDoorK20
import Derived.Test.YtbbfjjjnifomgaaGreatDoorK23
import Derived.Test.YtbbfjjjnifomgaaGreatDoorK24
import Derived.Test.YtbbfjjjnifomgaaGreatDoorK29
import Derived.Test.YtbbfjjjnifomgaaGreatDoorK30
import Derived.Test.YtbbfjjjnifomgaaGreatDoorK33
import Derived.Test.YtbbfjjjnifomgaaGreatDoorK34
import Derived.Test.YtbbfjjjnifomgaaGreatDoorK35
import Derived.Test.YtbbfjjjnifomgaaGreatDoorK38
import Derived.Test.YtbbfjjjnifomgaaGreatDoorK1
import Derived.Test.YtbbfjjjnifomgaaGreatDoorK6
import Derived.Test.YtbbfjjjnifomgaaGreatDoorK25
import Derived.Test.YtbbfjjjnifomgaaGreatDoorK26
namespace Go.Proofs.YtbbfjjjnifomgaaGreatDoor.A
open Go.RowKit Go.Maps
set_option linter.unusedVariables false

def AC (cl : Nat → Int) (i k : Nat) : Bool := decide (cl i = cl k)
def GC (cl : Nat → Int) (i : Nat) : Bool := decide (cl i ≠ -1)
section
variable {nx : List (List Int)} {ru : List Int} {n : Nat} {cl : Nat → Int}
theorem gc_live (h : IsCls nx ru n cl) : IsLive nx ru n (GC cl) := fun i hi => by
  unfold GC
  rw [decide_eq_true_iff, Ne, h.neg i hi]
  exact Classical.not_not
theorem ac_alk (h : IsCls nx ru n cl) : IsAlk nx ru n (AC cl) := isCls_alk h
end
/-- The classes of states that were found, and their numbers. -/
def SL (cl : Nat → Int) (n : Nat) (fd : List Int) : List (List Int) := fd.map fun z => clsM (AC cl) n z.toNat
def KL (cl : Nat → Int) (fd : List Int) : List Int := fd.map fun z => cl z.toNat
theorem sl_len (cl : Nat → Int) (n : Nat) (fd : List Int) : (SL cl n fd).length = fd.length := by simp [SL]
theorem kl_len (cl : Nat → Int) (fd : List Int) : (KL cl fd).length = fd.length := by simp [KL]
theorem idx_map {f : Int → List Int} {h : Int → Int} {x : List Int} {y : Int} : ∀ fd : List Int, (∀ z ∈ fd, f z = x ↔ h z = y) → (x ∈ fd.map f ↔ y ∈ fd.map h) ∧ (fd.map f).idxOf x = (fd.map h).idxOf y
  | [], _ => by simp
  | z :: r, hz => by
    have h1 := hz z (by simp)
    obtain ⟨i1, i2⟩ := idx_map r (fun u hu => hz u (by simp [hu]))
    rw [List.map_cons, List.map_cons, List.idxOf_cons, List.idxOf_cons, i2]
    by_cases c : f z = x
    · have c2 := h1.1 c
      simp [c, c2]
    · have c2 : h z ≠ y := fun e => c (h1.2 e)
      have b1 : (f z == x) = false := by simpa using c
      have b2 : (h z == y) = false := by simpa using c2
      rw [b1, b2]
      refine ⟨?_, rfl⟩
      rw [List.mem_cons, List.mem_cons, i1]
      exact ⟨fun q => q.elim (fun e => absurd e.symm c) .inr, fun q => q.elim (fun e => absurd e.symm c2) .inr⟩
section
variable {nx : List (List Int)} {ru : List Int} {n : Nat} {cl : Nat → Int} {fd : List Int}
theorem fd_idx (h : IsCls nx ru n cl) (hr : ∀ z ∈ fd, 0 ≤ z ∧ z < (n : Int)) {t : Nat} (ht : t < n) : (clsM (AC cl) n t ∈ SL cl n fd ↔ cl t ∈ KL cl fd) ∧ (SL cl n fd).idxOf (clsM (AC cl) n t) = (KL cl fd).idxOf (cl t) :=
  idx_map fd fun z hz => by
    have hzr := hr z hz
    rw [cls_iff (ac_alk h) (show z.toNat < n by omega) ht]
    unfold AC
    rw [decide_eq_true_iff]
theorem cls_ne (h : IsCls nx ru n cl) {t : Nat} (ht : t < n) : clsM (AC cl) n t ≠ [] := fun e => by
  have := cls_self (ac_alk h) ht
  rw [e] at this
  cases this
theorem find_no (h : IsCls nx ru n cl) {z : Int} (hz : cF cl z = -1) (S : List (List Int)) : findF S (clsD (AC cl) (GC cl) n z) = (S, -1) := by
  rw [clsD_nil, find_none S rfl]
  by_cases c : z < 0
  · exact .inl c
  · right
    unfold cF at hz
    rw [if_neg (by omega)] at hz
    unfold GC
    rw [decide_eq_false_iff_not]
    exact fun q => q hz
theorem find_old (h : IsCls nx ru n cl) (hr : ∀ z ∈ fd, 0 ≤ z ∧ z < (n : Int)) {t : Nat} (ht : t < n) (hl : cl t ≠ -1) (hm : cl t ∈ KL cl fd) : findF (SL cl n fd) (clsD (AC cl) (GC cl) n (t : Int)) = (SL cl n fd, (((KL cl fd).idxOf (cl t) : Nat) : Int)) := by
  obtain ⟨h1, h2⟩ := fd_idx h hr ht
  rw [clsD_live (ac_alk h) ht (by unfold GC; rw [decide_eq_true_iff]; exact hl)]
  unfold findF
  rw [if_neg (cls_ne h ht), if_pos (h1.2 hm), h2]
theorem find_new (h : IsCls nx ru n cl) (hr : ∀ z ∈ fd, 0 ≤ z ∧ z < (n : Int)) {t : Nat} (ht : t < n) (hl : cl t ≠ -1) (hm : ¬ cl t ∈ KL cl fd) : findF (SL cl n fd) (clsD (AC cl) (GC cl) n (t : Int)) = (SL cl n (fd ++ [(t : Int)]), ((fd.length : Nat) : Int)) := by
  obtain ⟨h1, h2⟩ := fd_idx h hr ht
  rw [clsD_live (ac_alk h) ht (by unfold GC; rw [decide_eq_true_iff]; exact hl)]
  unfold findF
  rw [if_neg (cls_ne h ht), if_neg (fun q => hm (h1.1 q)), sl_len]
  simp [SL]
end

/-- The map tells which classes were found, and their numbers. -/
def kN (z : Int) : Lit := .int .i64 z
theorem law3 : Keyed Tryz.prog 3 := int_keyed Tryz.underlying3
theorem key3 {z : Int} (h1 : -1 ≤ z) (h2 : z ≤ 10000) : keyOf Tryz.prog 3 (.int .i64 z) = some (kN z) := keyOf_int_mk Tryz.underlying3 (WalkArith.wf_i64 (by omega))
def TieN (K : List Int) (D : DataW Unit) : Prop :=
  ∀ z, -1 ≤ z → z ≤ 10000 → Maps.has D (kN z) = decide (z ∈ K) ∧ (z ∈ K → D.atKey (kN z) (.lit (.int .i64 0)) = .lit (.int .i64 (K.idxOf z : Nat)))
theorem tieN_nil : TieN [] (.map []) := fun z _ _ => ⟨by simp [Maps.has], fun h => by cases h⟩
theorem tieN_new {K : List Int} {D : DataW Unit} (t : TieN K D) (hD : IsMap D) {z : Int} (h1 : -1 ≤ z) (h2 : z ≤ 10000) (hm : ¬ z ∈ K) : TieN (K ++ [z]) (D.put (kN z) (.lit (.int .i64 (K.length : Nat)))) := by
  intro s' a1 a2
  by_cases e : s' = z
  · subst e
    rw [has_put_same hD (law3.key (key3 h1 h2)), atKey_put_same hD (law3.key (key3 h1 h2))]
    refine ⟨by simp, fun _ => ?_⟩
    rw [List.idxOf_append, if_neg hm]
    simp
  · have ek : kN s' ≠ kN z := fun q => e (by unfold kN at q; injection q)
    rw [has_put_other ek, atKey_put_other ek, (t s' a1 a2).1]
    refine ⟨by simp [e], fun q => ?_⟩
    have q' : s' ∈ K := by simpa [e] using q
    rw [(t s' a1 a2).2 q', List.idxOf_append, if_pos q']

/-- A block that the finder never writes. -/
def FarN (w : World) (base k : Nat) : Prop := k < base ∨ ∃ cs t fr, w.heap[k]? = some (.cells cs t fr) ∧ t ≠ 165 ∧ t ≠ 3
structure Kn (base : Nat) (w w' : World) : Prop where
  os : w'.os = w.os
  tape : w'.tape = w.tape
  output : w'.output = w.output
  size : w.heap.size ≤ w'.heap.size
  block : ∀ k, k < w.heap.size → FarN w base k → w'.heap[k]? = w.heap[k]?
theorem Kn.refl (base : Nat) (w : World) : Kn base w w := ⟨rfl, rfl, rfl, Nat.le_refl _, fun _ _ _ => rfl⟩
theorem Kn.far {base : Nat} {w w' : World} (h : Kn base w w') {k : Nat} (hk : k < w.heap.size) (hf : FarN w base k) : FarN w' base k := by
  rcases hf with hf | ⟨cs, t, fr, e, ht⟩
  · exact .inl hf
  · exact .inr ⟨cs, t, fr, (h.block k hk (.inr ⟨cs, t, fr, e, ht⟩)).trans e, ht⟩
theorem Kn.trans {base : Nat} {a b c : World} (h : Kn base a b) (k : Kn base b c) : Kn base a c :=
  ⟨k.os.trans h.os, k.tape.trans h.tape, k.output.trans h.output, Nat.le_trans h.size k.size, fun i hi hf => (k.block i (Nat.lt_of_lt_of_le hi h.size) (h.far hi hf)).trans (h.block i hi hf)⟩
theorem Kn.of_below {base : Nat} {w w' : World} (h : Below w.heap.size w w') : Kn base w w' := ⟨h.os, h.tape, h.output, h.size, fun k hk _ => h.block k hk⟩
theorem Kn.alloc {base : Nat} {w w' : World} (h : Kn base w w') (o : Obj) : Kn base w (w'.alloc o) := h.trans (Kn.of_below ((Below.refl _ _).alloc (Nat.le_refl _) o))
theorem Kn.below {base : Nat} {w w' : World} (h : Kn base w w') (hb : base ≤ w.heap.size) : Below base w w' := ⟨h.os, h.tape, h.output, h.size, fun k hk => h.block k (by omega) (.inl hk)⟩
theorem Kn.heap {base : Nat} {w w' : World} (h : Kn base w w') {k : Nat} {cs : Array Value} {t : TypeId} {fr : Nat × Nat} (hk : w.heap[k]? = some (.cells cs t fr)) (h1 : t ≠ 165) (h2 : t ≠ 3) : w'.heap[k]? = some (.cells cs t fr) :=
  (h.block k (Array.getElem?_eq_some_iff.1 hk).1 (.inr ⟨cs, t, fr, hk, h1, h2⟩)).trans hk
theorem Kn.set {base : Nat} {w w' : World} (h : Kn base w w') {p : Addr} (hp : w.heap.size ≤ p.block) (u : Value) : Kn base w (w'.setCell p u) :=
  ⟨h.os, h.tape, h.output, by simpa using h.size, fun k hk hf => (Below.heap_setCell _ _ _ _ (by omega)).trans (h.block k hk hf)⟩
theorem Kn.setRow {base : Nat} {w w' : World} (h : Kn base w w') {g : Nat} (hp : w.heap.size ≤ g) (cs : Array Value) : Kn base w (w'.setRow g cs) :=
  ⟨h.os, h.tape, h.output, by rw [size_setRow]; exact h.size, fun k hk hf => (setRow_other _ _ _ _ (by omega)).trans (h.block k hk hf)⟩

/-- A smallest machine that is being made. -/
structure Sn (w : World) (base n q m C d : Nat) (cl : Nat → Int) (fv nv rv : Value) (fd : List Int) (nx : List (List Int)) (ru : List Int) : Prop where
  blk : w.heap[q]? = some (.cells #[.slice (some ⟨C, 0, none⟩) n n, fv, .map (some m)] 165 (0, 0))
  low : base ≤ q
  mlow : base ≤ m
  clow : C < base
  ik : Ik w C n cl
  f : w.ownsRow base 3 1 fv fd.length (fd.map (Value.int .i64))
  rng : ∀ z ∈ fd, 0 ≤ z ∧ z < (n : Int)
  map : ∃ D : DataW Unit, w.ownsMap Tryz.prog 3 (plainElem Tryz.prog 3) m fd.length D ∧ TieN (KL cl fd) D
  db : w.heap[d]? = some (.cells #[nv, rv] 25 (0, 0))
  dlow : base ≤ d
  n' : w.ownsRow base 66 16 nv nx.length (cellsR nx)
  r : w.ownsRow base 3 1 rv ru.length (ru.map (Value.int .i64))
  ap : Ap fv rv
theorem q_cells8 {w : World} {q : Nat} {v0 v1 v2 : Value} (h : w.heap[q]? = some (.cells #[v0, v1, v2] 165 (0, 0))) : w.cell? ⟨q, 0, none⟩ = some v0 ∧ w.cell? ⟨q, 1, none⟩ = some v1 ∧ w.cell? ⟨q, 2, none⟩ = some v2 ∧ (∀ i, w.frozen? ⟨q, i, none⟩ = false) := by
  refine ⟨?_, ?_, ?_, fun i => ?_⟩
  · rw [cell_of_row _ _ _ _ _ _ h]; rfl
  · rw [cell_of_row _ _ _ _ _ _ h]; rfl
  · rw [cell_of_row _ _ _ _ _ _ h]; rfl
  · simp [World.frozen?, h]
section
variable {w w' w1 w2 : World} {base n q m C d : Nat} {cl : Nat → Int} {fv nv rv : Value} {fd : List Int} {nx : List (List Int)} {ru : List Int}
theorem sn_lt (h : Sn w base n q m C d cl fv nv rv fd nx ru) : q < w.heap.size ∧ m < w.heap.size ∧ d < w.heap.size ∧ C < w.heap.size ∧ base ≤ w.heap.size ∧ q ≠ m ∧ q ≠ d ∧ m ≠ d ∧ (∃ es c, w.heap[m]? = some (.map es c)) := by
  have h1 := (Array.getElem?_eq_some_iff.1 h.blk).1
  have h2 := (Array.getElem?_eq_some_iff.1 h.db).1
  obtain ⟨D, hD, _⟩ := h.map
  obtain ⟨es, c, hm⟩ := map_obj hD
  have h3 := (Array.getElem?_eq_some_iff.1 hm).1
  have := h.low
  have := h.clow
  refine ⟨h1, h3, h2, by omega, by omega, fun e => ?_, fun e => ?_, fun e => ?_, es, c, hm⟩
  · subst e; have := h.blk; rw [hm] at this; cases this
  · subst e; have := h.blk; rw [h.db] at this; cases this
  · subst e; have := h.db; rw [hm] at this; cases this
theorem sn_at (h : Sn w base n q m C d cl fv nv rv fd nx ru) (hb : ∀ k, k < w.heap.size → (k = C ∨ k = q ∨ k = m ∨ k = d ∨ fv.ownBlock = some k ∨ nv.ownBlock = some k ∨ rv.ownBlock = some k) → w'.heap[k]? = w.heap[k]?) : Sn w' base n q m C d cl fv nv rv fd nx ru := by
  obtain ⟨h1, h2, h3, h4, -, -, -, -, -⟩ := sn_lt h
  obtain ⟨D, hD, ht⟩ := h.map
  exact ⟨(hb q h1 (.inr (.inl rfl))).trans h.blk, h.low, h.mlow, h.clow, (hb C h4 (.inl rfl)).trans h.ik, own_move h.f (fun k hk => hb k (own_type h.f hk).2.1 (.inr (.inr (.inr (.inr (.inl hk)))))), h.rng, ⟨D, map_move hD (hb m h2 (.inr (.inr (.inl rfl)))), ht⟩, (hb d h3 (.inr (.inr (.inr (.inl rfl))))).trans h.db, h.dlow, own_move h.n' (fun k hk => hb k (own_type h.n' hk).2.1 (.inr (.inr (.inr (.inr (.inr (.inl hk))))))), own_move h.r (fun k hk => hb k (own_type h.r hk).2.1 (.inr (.inr (.inr (.inr (.inr (.inr hk))))))), h.ap⟩
theorem sn_below (hb : Below w.heap.size w w') (h : Sn w base n q m C d cl fv nv rv fd nx ru) : Sn w' base n q m C d cl fv nv rv fd nx ru := sn_at h fun k hk _ => hb.block k hk
/-- What is written elsewhere: a block of 16 numbers. -/
theorem sn_else {rb : Nat} {cs : Array Value} {fr : Nat × Nat} (h : Sn w base n q m C d cl fv nv rv fd nx ru) (hb : w.heap[rb]? = some (.cells cs 66 fr)) (hne : nv.ownBlock ≠ some rb) (hw : ∀ k, k ≠ rb → w'.heap[k]? = w.heap[k]?) : Sn w' base n q m C d cl fv nv rv fd nx ru := by
  obtain ⟨-, -, -, -, -, -, -, -, es, c, hm⟩ := sn_lt h
  refine sn_at h fun k _ hk => hw k fun e => ?_
  subst e
  rcases hk with rfl | rfl | rfl | rfl | hk | hk | hk
  · have := h.ik; unfold Ik at this; rw [hb] at this; cases this
  · have := h.blk; rw [hb] at this; cases this
  · rw [hm] at hb; cases hb
  · have := h.db; rw [hb] at this; cases this
  · exact own_not h.f hb (by decide) hk
  · exact hne hk
  · exact own_not h.r hb (by decide) hk
/-- A class more. -/
theorem sn_find {o : Obj} {g cap t : Nat} {D : DataW Unit} (h : Sn w base n q m C d cl fv nv rv fd nx ru) (hg1 : w.grownBy w1 (some m)) (hD : w1.ownsMap Tryz.prog 3 (plainElem Tryz.prog 3) m (fd.length + 1) D) (htie : TieN (KL cl (fd ++ [(t : Int)])) D) (ht : t < n)
    (hg : (w1.alloc o).grownBy w2 fv.ownBlock) (ho : w2.ownsRow base 3 1 (.slice (some ⟨g, 0, none⟩) (fd.length + 1) cap) (fd.length + 1) (fd.map (Value.int .i64) ++ [.int .i64 (t : Int)])) (hat : fv.ownBlock = some g ∨ w1.heap.size ≤ g) :
    Sn (w2.setCell ⟨q, 1, none⟩ (.slice (some ⟨g, 0, none⟩) (fd.length + 1) cap)) base n q m C d cl (.slice (some ⟨g, 0, none⟩) (fd.length + 1) cap) nv rv (fd ++ [(t : Int)]) nx ru ∧ Kn base w (w2.setCell ⟨q, 1, none⟩ (.slice (some ⟨g, 0, none⟩) (fd.length + 1) cap)) := by
  obtain ⟨h1, h2, h3, h4, h5, h6, h7, h8, es, c, hm⟩ := sn_lt h
  have hfq : fv.ownBlock ≠ some q := own_not h.f h.blk (by decide)
  have hfm : fv.ownBlock ≠ some m := fun hk => by
    obtain ⟨_, _, cs, h'⟩ := own_type h.f hk
    rw [hm] at h'; cases h'
  have s1 := hg1.size
  have s2 := hg.size
  have old2 : ∀ k, k < w1.heap.size → fv.ownBlock ≠ some k → w2.heap[k]? = w1.heap[k]? := fun k hk hc => by
    rw [hg.block k (by simp; omega) (fun e => hc e.symm), Below.heap_alloc _ _ _ hk]
  have old : ∀ k, k < w.heap.size → k ≠ q → k ≠ m → fv.ownBlock ≠ some k → (w2.setCell ⟨q, 1, none⟩ (.slice (some ⟨g, 0, none⟩) (fd.length + 1) cap)).heap[k]? = w.heap[k]? := fun k hk a b c => by
    rw [Below.heap_setCell _ _ _ _ a, old2 k (by omega) c, hg1.block k hk (fun e => b (Option.some.inj e))]
  have hq2 : w2.heap[q]? = some (.cells #[.slice (some ⟨C, 0, none⟩) n n, fv, .map (some m)] 165 (0, 0)) := by
    rw [old2 q (by omega) hfq, hg1.block q h1 (fun e => h6 (Option.some.inj e))]; exact h.blk
  have tq : ∀ {e : TypeId} {s : Nat} {v : Value} {n' : Nat} {xs : List Value}, w.ownsRow base e s v n' xs → e ≠ 165 → ∀ k, v.ownBlock = some k → k ≠ q ∧ k ≠ m := fun hv he k hk => by
    obtain ⟨_, _, cs, h'⟩ := own_type hv hk
    refine ⟨fun e => ?_, fun e => ?_⟩
    · rw [e, h.blk] at h'; cases h'; exact he rfl
    · rw [e, hm] at h'; cases h'
  refine ⟨⟨?_, h.low, h.mlow, h.clow, ?_, ?_, fun z hz => ?_, ⟨D, ?_, htie⟩, ?_, h.dlow, own_move h.n' (fun k hk => ?_), own_move h.r (fun k hk => ?_), fun k a b => ?_⟩, ⟨hg.os.trans hg1.os, hg.tape.trans hg1.tape, hg.output.trans hg1.output, by simp at s2 ⊢; omega, fun k hk hf => ?_⟩⟩
  · rw [blk_set hq2 1 _]; rfl
  · refine (old C h4 (fun e => ?_) (fun e => ?_) (fun hk => ?_)).trans h.ik
    · have := h.clow; have := h.low; omega
    · have := h.clow; have := h.mlow; omega
    · have := (own_type h.f hk).1; have := h.clow; omega
  · rw [List.length_append, List.map_append]
    exact set_far ho (own_not ho hq2 (by decide))
  · rw [List.mem_append, List.mem_singleton] at hz
    rcases hz with hz | rfl
    · exact h.rng z hz
    · omega
  · rw [List.length_append]
    refine map_move hD ?_
    rw [Below.heap_setCell _ _ _ _ (fun e => h6 e.symm), old2 m (by omega) hfm]
  · exact (old d h3 (fun e => h7 e.symm) (fun e => h8 e.symm) (own_not h.f h.db (by decide))).trans h.db
  · exact old k (own_type h.n' hk).2.1 (tq h.n' (by decide) k hk).1 (tq h.n' (by decide) k hk).2 (fun e => own_types h.f h.n' (by decide) k e hk)
  · exact old k (own_type h.r hk).2.1 (tq h.r (by decide) k hk).1 (tq h.r (by decide) k hk).2 (fun e => h.ap k e hk)
  · simp only [Value.ownBlock, Option.some.injEq] at a
    subst a
    rcases hat with q | q
    · exact h.ap g q b
    · have := (own_type h.r b).2.1
      omega
  · refine old k hk (fun e => ?_) (fun e => ?_) (fun e => ?_)
    · subst e
      rcases hf with hf | ⟨cs, t, fr, e, h45, _⟩
      · have := h.low; omega
      · rw [h.blk] at e; cases e; exact h45 rfl
    · subst e
      rcases hf with hf | ⟨cs, t, fr, e, _⟩
      · have := h.mlow; omega
      · rw [hm] at e; cases e
    · obtain ⟨a, _, cs, h'⟩ := own_type h.f e
      rcases hf with hf | ⟨cs', t, fr, e', _, h3'⟩
      · omega
      · rw [h'] at e'; cases e'; exact h3' rfl
/-- A row more. -/
theorem sn_next {o : Obj} {g cap : Nat} {l : List Int} (h : Sn w base n q m C d cl fv nv rv fd nx ru) (hg : (w.alloc o).grownBy w' nv.ownBlock) (ho : w'.ownsRow base 66 16 (.slice (some ⟨g, 0, none⟩) (nx.length + 1) cap) (nx.length + 1) (cellsR nx ++ cI l)) :
    Sn (w'.setCell ⟨d, 0, none⟩ (.slice (some ⟨g, 0, none⟩) (nx.length + 1) cap)) base n q m C d cl fv (.slice (some ⟨g, 0, none⟩) (nx.length + 1) cap) rv fd (nx ++ [l]) ru := by
  obtain ⟨h1, h2, h3, h4, h5, h6, h7, h8, es, c, hm⟩ := sn_lt h
  have hnd : nv.ownBlock ≠ some d := own_not h.n' h.db (by decide)
  have hd1 : w'.heap[d]? = some (.cells #[nv, rv] 25 (0, 0)) := by
    rw [hg.block d (by simp; omega) (fun e => hnd e.symm), Below.heap_alloc _ _ _ h3]; exact h.db
  have old : ∀ k, k < w.heap.size → k ≠ d → nv.ownBlock ≠ some k → (w'.setCell ⟨d, 0, none⟩ (.slice (some ⟨g, 0, none⟩) (nx.length + 1) cap)).heap[k]? = w.heap[k]? := fun k hk a b => by
    rw [Below.heap_setCell _ _ _ _ a, hg.block k (by simp; omega) (fun e => b e.symm), Below.heap_alloc _ _ _ hk]
  obtain ⟨D, hD, ht⟩ := h.map
  have hnm : nv.ownBlock ≠ some m := fun hk => by
    obtain ⟨_, _, cs, h'⟩ := own_type h.n' hk
    rw [hm] at h'; cases h'
  refine ⟨(old q h1 h7 (own_not h.n' h.blk (by decide))).trans h.blk, h.low, h.mlow, h.clow, ?_, own_move h.f (fun k hk => old k (own_type h.f hk).2.1 (fun e => own_not h.f h.db (by decide) (e ▸ hk)) (fun e => own_types h.f h.n' (by decide) k hk e)), h.rng, ⟨D, map_move hD (old m h2 h8 hnm), ht⟩, by rw [blk_set hd1 0 _]; rfl, h.dlow, ?_, own_move h.r (fun k hk => old k (own_type h.r hk).2.1 (fun e => own_not h.r h.db (by decide) (e ▸ hk)) (fun e => own_types h.r h.n' (by decide) k hk e)), h.ap⟩
  · have := h.clow
    have := h.dlow
    exact (old C h4 (by omega) (fun hk => by have := (own_type h.n' hk).1; omega)).trans h.ik
  · rw [List.length_append, cellsR_app]
    have e : cellsR [l] = cI l := by simp [cellsR]
    rw [e]
    exact set_far ho (own_not ho hd1 (by decide))
/-- A rule more. -/
theorem sn_rule {o : Obj} {g cap : Nat} {z : Int} (h : Sn w base n q m C d cl fv nv rv fd nx ru) (hg : (w.alloc o).grownBy w' rv.ownBlock) (ho : w'.ownsRow base 3 1 (.slice (some ⟨g, 0, none⟩) (ru.length + 1) cap) (ru.length + 1) (ru.map (Value.int .i64) ++ [.int .i64 z])) (hat : rv.ownBlock = some g ∨ w.heap.size ≤ g) :
    Sn (w'.setCell ⟨d, 1, none⟩ (.slice (some ⟨g, 0, none⟩) (ru.length + 1) cap)) base n q m C d cl fv nv (.slice (some ⟨g, 0, none⟩) (ru.length + 1) cap) fd nx (ru ++ [z]) := by
  obtain ⟨h1, h2, h3, h4, h5, h6, h7, h8, es, c, hm⟩ := sn_lt h
  have hnd : rv.ownBlock ≠ some d := own_not h.r h.db (by decide)
  have hd1 : w'.heap[d]? = some (.cells #[nv, rv] 25 (0, 0)) := by
    rw [hg.block d (by simp; omega) (fun e => hnd e.symm), Below.heap_alloc _ _ _ h3]; exact h.db
  have old : ∀ k, k < w.heap.size → k ≠ d → rv.ownBlock ≠ some k → (w'.setCell ⟨d, 1, none⟩ (.slice (some ⟨g, 0, none⟩) (ru.length + 1) cap)).heap[k]? = w.heap[k]? := fun k hk a b => by
    rw [Below.heap_setCell _ _ _ _ a, hg.block k (by simp; omega) (fun e => b e.symm), Below.heap_alloc _ _ _ hk]
  obtain ⟨D, hD, ht⟩ := h.map
  have hnm : rv.ownBlock ≠ some m := fun hk => by
    obtain ⟨_, _, cs, h'⟩ := own_type h.r hk
    rw [hm] at h'; cases h'
  refine ⟨(old q h1 h7 (own_not h.r h.blk (by decide))).trans h.blk, h.low, h.mlow, h.clow, ?_, own_move h.f (fun k hk => old k (own_type h.f hk).2.1 (fun e => own_not h.f h.db (by decide) (e ▸ hk)) (fun e => h.ap k hk e)), h.rng, ⟨D, map_move hD (old m h2 h8 hnm), ht⟩, by rw [blk_set hd1 1 _]; rfl, h.dlow, own_move h.n' (fun k hk => old k (own_type h.n' hk).2.1 (fun e => own_not h.n' h.db (by decide) (e ▸ hk)) (fun e => own_types h.n' h.r (by decide) k hk e)), ?_, fun k a b => ?_⟩
  · have := h.clow
    have := h.dlow
    exact (old C h4 (by omega) (fun hk => by have := (own_type h.r hk).1; omega)).trans h.ik
  · rw [List.length_append, List.map_append]
    exact set_far ho (own_not ho hd1 (by decide))
  · simp only [Value.ownBlock, Option.some.injEq] at b
    subst b
    rcases hat with q | q
    · exact h.ap g a q
    · have := (own_type h.f a).2.1
      omega
end
end Go.Proofs.YtbbfjjjnifomgaaGreatDoor.A



/- The program's find. -/
namespace Go.Proofs.YtbbfjjjnifomgaaGreatDoor.A
open Go.RowKit Go.Maps
set_option linter.unusedVariables false

set_option maxRecDepth 100000 in
set_option maxHeartbeats 3200000 in
theorem sfind_any (base n q m C d : Nat) (cl : Nat → Int) (fv nv rv : Value) (fd : List Int) (nx : List (List Int)) (ru : List Int) (nx0 : List (List Int)) (ru0 : List Int) (z : Int) (w : World) (hcl : IsCls nx0 ru0 n cl) (h : Sn w base n q m C d cl fv nv rv fd nx ru) (hz1 : -1 ≤ z) (hz2 : z < (n : Int)) (hl : fd.length ≤ 5000) :
    Calls Tryz.prog 131 #[.pointer (some ⟨q, 0, none⟩), .int .i64 z] w fun e w' => e = .returned (.int .i64 (findF (SL cl n fd) (clsD (AC cl) (GC cl) n z)).2) ∧ (∃ fv' r, Sn w' base n q m C d cl fv' nv rv (fd ++ r) nx ru ∧ SL cl n (fd ++ r) = (findF (SL cl n fd) (clsD (AC cl) (GC cl) n z)).1 ∧ r.length ≤ 1) ∧ Kn base w w' := by
  obtain ⟨i3, hi3, hz3, hs3, hb3⟩ := info_parts info3
  obtain ⟨q0, q1, q2, qz⟩ := q_cells8 h.blk
  have HSN := hide h
  have HCL := hide hcl
  have HIK := hide h.ik
  have HLT := hide (sn_lt h)
  clear hcl
  by_cases hcz : cF cl z = -1
  · have HE := hide (find_no HCL.out hcz (SL cl n fd))
    have d0 : ((-1 : Int) == -1) = true := by simp
    clear h qz
    go_enter Tryz.func131, Tryz.ntmps131
    go_wp2_with fail
    refine (classOf_any C n cl z w HIK.out hz1 hz2).mono ?_
    rw [hcz]
    clear hcz
    rintro e w1 ⟨rfl, hw1⟩
    rw [hw1]
    clear hw1
    go_wp2
    go_ret
    exact ⟨by rw [HE.out]; rfl, ⟨fv, [], by rw [List.append_nil]; exact HSN.out, by rw [HE.out, List.append_nil], by simp⟩, Kn.refl _ _⟩
  · have hzn : z ≠ -1 := fun e => hcz (by subst e; exact cF_no cl)
    obtain ⟨t, rfl⟩ : ∃ t : Nat, z = t := ⟨z.toNat, by omega⟩
    have htn : t < n := by omega
    have hct := HCL.out.rng t htn
    rw [cF_at] at hcz
    have d0 : (cl t == -1) = false := by simp [hcz]
    have HCT := hide hcz
    have HKY := hide (key3 hct.1 (show cl t ≤ 10000 by omega))
    obtain ⟨xf, cf, hfv⟩ := own_form h.f
    obtain ⟨D, hown, htie⟩ := h.map
    have HTI := hide htie
    have HC1 := hide (classOf_any C n cl (t : Int) w HIK.out hz1 hz2)
    rw [cF_at] at HC1
    obtain ⟨nf, hnf⟩ : ∃ nf, fd.length = nf := ⟨_, rfl⟩
    have HNF := hide hnf
    rw [hnf] at hfv hown hl
    subst hfv
    clear h qz htie hcz hzn hnf
    by_cases hm : cl t ∈ KL cl fd
    · have hhas : Maps.has D (kN (cl t)) = true := by rw [(HTI.out (cl t) hct.1 (by omega)).1]; simp [hm]
      have hat0 := (HTI.out (cl t) hct.1 (by omega)).2 hm
      have HE := hide (find_old HCL.out HSN.out.rng htn HCT.out hm)
      clear hm
      generalize (KL cl fd).idxOf (cl t) = ix at *
      go_enter Tryz.func131, Tryz.ntmps131
      go_wp2_with fail
      refine HC1.out.mono ?_
      rintro e w1 ⟨rfl, hw1⟩
      rw [hw1]
      clear hw1
      go_wp2_with (at_lookup; refine wpList_lookup_own_ok_int _ rfl _ _ 163 rfl 3 3 .i64 law3 Tryz.underlying163 Tryz.underlying3 (zero3 _) m nf D rfl hown _ _ rfl HKY.out ?_; intro c hat hwc; rw [hhas]; obtain rfl : c = (ix : Int) := by (rw [hat0] at hat; injection hat with h1; injection h1 with _ h2; exact h2.symm))
      go_ret
      exact ⟨by rw [HE.out]; rfl, ⟨_, [], by rw [List.append_nil]; exact HSN.out, by rw [HE.out, List.append_nil], by simp⟩, Kn.refl _ _⟩
    · have hhas : Maps.has D (kN (cl t)) = false := by rw [(HTI.out (cl t) hct.1 (by omega)).1]; simp [hm]
      have HE := hide (find_new HCL.out HSN.out.rng htn HCT.out hm)
      have HTN := hide (show TieN (KL cl (fd ++ [(t : Int)])) (D.put (kN (cl t)) (.lit (.int .i64 (nf : Nat)))) from by
        have h1 := tieN_new HTI.out hown.isMap hct.1 (by omega) hm
        rw [kl_len, HNF.out] at h1
        have e : KL cl (fd ++ [(t : Int)]) = KL cl fd ++ [cl t] := by simp [KL]
        rw [e]; exact h1)
      clear hm
      go_enter Tryz.func131, Tryz.ntmps131
      go_wp2_with fail
      refine HC1.out.mono ?_
      rintro e w1 ⟨rfl, hw1⟩
      rw [hw1]
      clear hw1
      go_wp2_with (first
        | (at_lookup; refine wpList_lookup_own_ok_int _ rfl _ _ 163 rfl 3 3 .i64 law3 Tryz.underlying163 Tryz.underlying3 (zero3 _) m nf D rfl hown _ _ rfl HKY.out ?_; intro c hat hwc; rw [hhas])
        | (at_mapUpdate; refine wpList_mapUpdate_own _ rfl _ _ _ 163 rfl 3 3 law3 Tryz.underlying163 _ m nf D rfl hown (by unfold maxLen; omega) _ _ _ rfl rfl HKY.out _ [] (plainElem_int Tryz.underlying3 (WalkArith.wf_i64 (by omega))) ?_; intro w2 hown2 hg2; have HG2 := hide hg2; have HO2 := hide hown2; have hlt2 := HLT.out; have hb2 := (hg2.block q hlt2.1 (fun e => hlt2.2.2.2.2.2.1 (Option.some.inj e))).trans HSN.out.blk; obtain ⟨k0, k1, k2, kz⟩ := q_cells8 hb2; have kz1 := kz 1; have HB2 := hide hb2; have HOW := hide (show w2.ownsRow base 3 1 (.slice xf nf cf) nf (fd.map (Value.int .i64)) from by
              have h1 := own_move (w' := w2) HSN.out.f (fun k hk => hg2.block k (own_type HSN.out.f hk).2.1 (fun e => by
                obtain ⟨es, cc, hmm⟩ := HLT.out.2.2.2.2.2.2.2.2
                obtain ⟨_, _, cs, h'⟩ := own_type HSN.out.f hk
                have e2 := Option.some.inj e
                rw [e2, hmm] at h'; cases h'))
              rw [HNF.out] at h1
              exact h1); have HSZ := hide (show base ≤ (w2.alloc (.cells #[.int .i64 (t : Int)] 3)).heap.size by have := hlt2.2.2.2.2.1; have := hg2.size; simp; omega); clear hown2 hg2 hlt2 hb2 kz q0 q1 q2 hown)
        | (at_builtin; refine wpList_append_lies _ rfl _ _ 23 rfl base 3 i3 (.int .i64 0) 1 8 Tryz.underlying23 hi3 hz3 hs3 hb3 rfl (by decide) _ nf (fd.map (Value.int .i64)) rfl (HOW.out.alloc _) ⟨_, 0, none⟩ 1 1 [.int .i64 (t : Int)] rfl rfl (one_new _ _ _) (fun u hu => by simp only [List.mem_singleton] at hu; subst hu; rfl) (by decide) (by unfold maxLen; omega) (by omega) HSZ.out _ rfl ?_; intro g' cap' w3 hown3 hg3 hat3 hlt3; have HG3 := hide hg3; have HO3 := hide hown3; have HA3 := hide hat3; have hb4 := (hg3.block q (by have := (Array.getElem?_eq_some_iff.1 HB2.out).1; simp; omega) (fun e => own_not HOW.out HB2.out (by decide) e.symm)).trans ((Below.heap_alloc _ _ _ (Array.getElem?_eq_some_iff.1 HB2.out).1).trans HB2.out); obtain ⟨r0, r1, r2, rz⟩ := q_cells8 hb4; have rz1 := rz 1; clear hg3 hown3 hat3 hb4 rz k0 k1 k2 kz1))
      go_ret
      have hz := sn_find (w1 := w2) (w2 := w3) (g := g') (cap := cap') (t := t) HSN.out HG2.out (by rw [HNF.out]; exact HO2.out) HTN.out htn HG3.out (by rw [HNF.out]; exact HO3.out) (by
        rcases HA3.out with h | h
        · exact .inl h
        · right
          have : (w2.alloc (.cells #[.int .i64 (t : Int)] 3)).heap.size = w2.heap.size + 1 := by simp
          omega)
      rw [HNF.out] at hz
      exact ⟨by rw [HE.out, HNF.out]; rfl, ⟨_, [(t : Int)], hz.1, by rw [HE.out], by simp⟩, hz.2⟩
end Go.Proofs.YtbbfjjjnifomgaaGreatDoor.A



/- Where a class goes: the program's row. -/
namespace Go.Proofs.YtbbfjjjnifomgaaGreatDoor.A
open Go.RowKit Go.Maps
set_option linter.unusedVariables false

theorem rowG_one8 (g : Nat → Int) : (rowG g).all (·.oneCell') = true := by
  rw [Array.all_eq_true_iff_forall_mem]
  intro v hv
  simp only [rowG, List.mem_toArray, List.mem_map] at hv
  obtain ⟨j, _, rfl⟩ := hv
  rfl

attribute [local go_sem ↓] wp_load63s
attribute [local go_sem] cells_agg
set_option maxRecDepth 100000 in
set_option maxHeartbeats 6400000 in
theorem srow_any (base n q m C d s : Nat) (cl : Nat → Int) (fv nv rv : Value) (fd : List Int) (nx : List (List Int)) (ru : List Int) (nx0 : List (List Int)) (ru0 : List Int) (row : List Int) (w : World) (hx : Mx nx0 ru0 n) (hcl : IsCls nx0 ru0 n cl) (h : Sn w base n q m C d cl fv nv rv fd nx ru) (hs : s < n) (hrow : nx0[s]? = some row) (hl : fd.length ≤ 4000) :
    Calls Tryz.prog 103 #[.pointer (some ⟨q, 0, none⟩), .agg (cI row).toArray] w fun e w' => e = .returned (.agg (cI (rowF (trM nx0 (AC cl) (GC cl) n) (clsM (AC cl) n s) (SL cl n fd) 16).2).toArray) ∧ (∃ fv' r, Sn w' base n q m C d cl fv' nv rv (fd ++ r) nx ru ∧ SL cl n (fd ++ r) = (rowF (trM nx0 (AC cl) (GC cl) n) (clsM (AC cl) n s) (SL cl n fd) 16).1 ∧ r.length ≤ 16) ∧ Kn base w w' := by
  obtain ⟨hv63, hi63⟩ := zero_of_info zero63
  rw [rowG_zero] at hv63
  have HX := hide hx
  have HCL := hide hcl
  have HROW := hide hrow
  have HI := hide hi63
  have hl16 : (cI row).length = 16 := by rw [cI_len]; exact hx.row row (List.mem_of_getElem? hrow)
  have hltw := sn_lt h
  have HBN := hide hltw.2.2.2.2.1
  have HNV := hide (fun (k : Nat) (hk : nv.ownBlock = some k) => show k < w.heap.size from (own_type h.n' hk).2.1)
  have hb1 := (Below.refl w.heap.size w).alloc (Nat.le_refl _) (.cells (cI row).toArray 66)
  have hbx := heap_alloc_last w (.cells (cI row).toArray 66)
  have hs1 : (w.alloc (.cells (cI row).toArray 66)).heap.size = w.heap.size + 1 := by simp
  have hb3 := (hb1.alloc (by simp) (.cells (rowG fun _ => 0) 66)).alloc (by simp; omega) (.cells (rowG fun _ => 0) 66)
  have HS1 := hide hs1
  have hA := heap_alloc_last (w.alloc (.cells (cI row).toArray 66)) (.cells (rowG fun _ => 0) 66)
  rw [hs1] at hA
  have hBr := heap_alloc_last ((w.alloc (.cells (cI row).toArray 66)).alloc (.cells (rowG fun _ => 0) 66)) (.cells (rowG fun _ => 0) 66)
  rw [show ((w.alloc (.cells (cI row).toArray 66)).alloc (.cells (rowG fun _ => 0) 66)).heap.size = w.heap.size + 1 + 1 by simp] at hBr
  have HA := hide (show Rg (((w.alloc (.cells (cI row).toArray 66)).alloc (.cells (rowG fun _ => 0) 66)).alloc (.cells (rowG fun _ => 0) 66)) (w.heap.size + 1) (fun _ => 0) from (Below.heap_alloc _ _ _ (by simp)).trans hA)
  have HBR := hide (show Rg (((w.alloc (.cells (cI row).toArray 66)).alloc (.cells (rowG fun _ => 0) 66)).alloc (.cells (rowG fun _ => 0) 66)) (w.heap.size + 1 + 1) (fun _ => 0) from hBr)
  have HBX := hide (show (((w.alloc (.cells (cI row).toArray 66)).alloc (.cells (rowG fun _ => 0) 66)).alloc (.cells (rowG fun _ => 0) 66)).heap[w.heap.size]? = some (.cells (cI row).toArray 66 (0, 0)) from (Below.heap_alloc _ _ _ (by simp; omega)).trans ((Below.heap_alloc _ _ _ (by simp)).trans hbx))
  have HSN := hide (sn_below hb3 h)
  have HK3 := hide (Kn.of_below (base := base) hb3)
  have hrg : (((w.alloc (.cells (cI row).toArray 66)).alloc (.cells (rowG fun _ => 0) 66)).alloc (.cells (rowG fun _ => 0) 66)).rangeAt w.heap.size 0 (cI row) := fun j u hu => by
    rw [Nat.zero_add, cell_of_row _ _ j _ _ _ HBX.out]; simpa using hu
  obtain ⟨hrv, hro⟩ := rowM_at hrg hl16
  clear h hx hcl hrow hi63 hb1 hbx hs1 hb3 hA hBr hrg hltw
  have HTR := hide (fun (c : Nat) => trM_cls HX.out (ac_alk HCL.out) (gc_live HCL.out) hs c)
  obtain ⟨L, hL⟩ : ∃ L, clsM (AC cl) n s = L := ⟨_, rfl⟩
  obtain ⟨tr, htr⟩ : ∃ tr, trM nx0 (AC cl) (GC cl) n = tr := ⟨_, rfl⟩
  obtain ⟨S, hS⟩ : ∃ S, SL cl n fd = S := ⟨_, rfl⟩
  have HSS := hide hS
  rw [hL, htr] at HTR
  rw [hL, htr, hS]
  clear hL htr hS
  go_enter Tryz.func103, Tryz.ntmps103
  go_wp2_with fail
  clear hrv hro
  generalize ((w.alloc (.cells (cI row).toArray 66)).alloc (.cells (rowG fun _ => 0) 66)).alloc (.cells (rowG fun _ => 0) 66) = W0 at *
  generalize w.alloc (.cells (cI row).toArray 66) = W1 at *
  generalize hP : w.heap.size = P at *
  go_loopw [6, 7, 9] (fun _ _ u wr => ∃ (k : Nat) (fv' : Value) (r : List Int), k ≤ 16 ∧ u = .int .i64 k ∧ Rg wr (P + 1) (fun _ => 0) ∧ Rg wr (P + 1 + 1) (fnL (rowF tr L S k).2) ∧ Sn wr base n q m C d cl fv' nv rv (fd ++ r) nx ru ∧ SL cl n (fd ++ r) = (rowF tr L S k).1 ∧ r.length ≤ k ∧ Kn base w wr) (fun _ _ u _ => 16 - (intOf u).toNat)
  case atStart => exact ⟨0, fv, [], by omega, rfl, HA.out, rg_congr HBR.out (fun j _ => rfl), by rw [List.append_nil]; exact HSN.out, by rw [List.append_nil]; exact HSS.out, by simp, HK3.out⟩
  case round =>
    obtain ⟨k, fv', r, hk, rfl, ha, hrg, hsn, hsl, hrl, hkn⟩ := hrel
    have HA2 := hide ha
    have HRG := hide hrg
    have HSN2 := hide hsn
    have HSL := hide hsl
    have HKN := hide hkn
    clear ha hrg hsn hsl hkn HA HBR HSN HK3
    by_cases hlt : k < 16
    · obtain ⟨row', z, hr', -, hz, hz1, hz2, hst⟩ := mx_next HX.out hs hlt
      have hrr : row' = row := by rw [HROW.out] at hr'; exact (Option.some.inj hr').symm
      subst hrr
      have hcz : (cI row')[k]? = some (.int .i64 z) := by simp [cI, hz]
      have hcz2 : (cI row')[k]'(by omega) = .int .i64 z := by
        have := List.getElem?_eq_getElem (l := cI row') (i := k) (by omega)
        rw [hcz] at this; exact (Option.some.inj this).symm
      have hrx := fun w => run_index63 w (cI row') k z hlt hcz
      have HFD := hide (sfind_any base n q m C d cl fv' nv rv (fd ++ r) nx ru nx0 ru0 z wr HCL.out HSN2.out hz1 hz2 (by rw [List.length_append]; omega))
      rw [← hst, ← HTR.out k, HSL.out] at HFD
      have HST := hide hst
      have i5 : (0 : Int) ≤ (k : Int) := by omega
      have i6 : (k : Int) < 16 := by omega
      obtain ⟨f0, f1⟩ := rg_cell HRG.out hlt
      clear hr' hz hst
      go_wp2_with fail
      rw [HST.out] at HFD
      refine HFD.out.mono ?_
      rintro e w2 ⟨rfl, ⟨fv2, r2, hsn2, hsl2, hr2⟩, hk2⟩
      have HA3 := hide (show Rg w2 (P + 1) (fun _ => 0) from hk2.heap HA2.out (by decide) (by decide))
      have HRG3 := hide (show Rg w2 (P + 1 + 1) _ from hk2.heap HRG.out (by decide) (by decide))
      have HSN3 := hide hsn2
      have HSL3 := hide hsl2
      have HKN3 := hide (HKN.out.trans hk2)
      obtain ⟨S', hS'⟩ : ∃ S', (findF (rowF tr L S k).1 (tr L k)).1 = S' := ⟨_, rfl⟩
      obtain ⟨z', hz'⟩ : ∃ z', (findF (rowF tr L S k).1 (tr L k)).2 = z' := ⟨_, rfl⟩
      have HFF := hide (show findF (rowF tr L S k).1 (tr L k) = (S', z') from by rw [← hS', ← hz'])
      rw [hS'] at HSL3
      rw [hz']
      obtain ⟨g0, g1⟩ := rg_cell HRG3.out hlt
      clear hsn2 hsl2 hk2 hS' hz' f0 f1 HFD
      have HR4 := hide (rg_step HFF.out (rg_set HRG3.out hlt z') (fun j _ => rfl))
      have HA4 := hide (show Rg (w2.setCell ⟨P + 1 + 1, k, none⟩ (.int .i64 z')) (P + 1) (fun _ => 0) from (Below.heap_setCell _ _ _ _ (by simp)).trans HA3.out)
      have HSN4 := hide (sn_else (w' := w2.setCell ⟨P + 1 + 1, k, none⟩ (.int .i64 z')) HSN3.out HRG3.out (fun e => by have := HNV.out _ e; omega) (fun j hj => Below.heap_setCell _ _ _ _ hj))
      have HK4 := hide (HKN3.out.set (p := ⟨P + 1 + 1, k, none⟩) (by rw [hP]; show P ≤ P + 1 + 1; omega) (.int .i64 z'))
      have HRS := hide (row_step HFF.out)
      go_wp2
      go_roundw
      case rel => exact ⟨k + 1, fv2, r ++ r2, by omega, by go_num, HA4.out, HR4.out, by rw [← List.append_assoc]; exact HSN4.out, by rw [← List.append_assoc, HSL3.out, HRS.out], by rw [List.length_append]; omega, HK4.out⟩
      case measure => simp [intOf]; omega
    · obtain rfl : k = 16 := by omega
      have hrw := row_len tr L S 16
      have HRW := hide hrw
      go_wp2_with (first
        | refine wpList_load_row rfl 66 _ rfl (P + 1 + 1) rfl 66 _ (0, 0) _ HRG.out Tryz.underlying66 rfl (by rw [rowG_size]; exact HI.out) ?_
        | refine wpList_store_row rfl 66 _ _ rfl (P + 1) _ rfl rfl 66 _ HA2.out (by rw [rowG_size]; exact HI.out) (by rw [rowG_size, rowG_size]) (rowG_one8 _) ?_)
      refine bodyPost_ret (results_cell_row rfl _ _ (P + 1) 66 (rowG (fnL (rowF tr L S 16).2)) (0, 0) _ rfl (setRow_heap _ _ _ _ _ _ HA2.out) Tryz.underlying66 rfl (by rw [rowG_size]; exact HI.out)) rfl ?_
      exact ⟨by rw [rowG_list HRW.out]; rfl, ⟨fv', r, sn_else HSN2.out HA2.out (fun e => by have := HNV.out _ e; omega) (fun j hj => setRow_other _ _ _ _ hj), HSL.out, hrl⟩, HKN.out.setRow (by omega) _⟩
end Go.Proofs.YtbbfjjjnifomgaaGreatDoor.A


