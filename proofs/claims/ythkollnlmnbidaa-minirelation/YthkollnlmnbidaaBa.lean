/- What older texts had, for this seat. -/
import Derived.Below
import Derived.Outline
import Derived.Deep.Heap
import Derived.Deep.OwnRows
import Derived.Deep.QuietTactic
import Derived.Deep.Slices
import Derived.ProofKit
import Derived.WalkKit
import Derived.WalkSpells
import Derived.WalkLawsBesides
import Derived.Deep.WholeRow
import Derived.Deep.MidRow
import Derived.DeepKeys5
import Derived.Maps.OwnSet
import Derived.Maps.OwnOps
import Derived.Maps.AppendAt
import Derived.Maps.RangeWalk
import Derived.Deep.RegionLaw
import Derived.Deep.Cut
import Derived.Deep.CutRange
import Derived.Deep.RegionHeld3
import Derived.Deep.AppendLies
import Derived.BigQuiet
import Derived.OpenShut
import Derived.Test.YthkollnlmnbidaaRows
namespace Go.Proofs.Ythkollnlmnbidaa.A
open Go.RowKit Go.Maps Go.ChangeShapes Go.WideShapes Go.Deep
set_option linter.unusedVariables false
theorem hide {p : Prop} (h : p) : Hid p := h
theorem below_drewN {B : Nat} {a w : World} (h : Below B a w) (n : Nat) : Below B a (w.drewN n) := ⟨h.os, h.tape, h.output, h.size, h.block⟩
theorem cell_lt {w : World} {a : Addr} {v : Value} (h : w.cell? a = some v) : a.block < w.heap.size := by
  rcases Nat.lt_or_ge a.block w.heap.size with h' | h'
  · exact h'
  · simp [World.cell?, Array.getElem?_eq_none h'] at h

/-- Expressions of at most so many levels: the kind, the set, the parts. -/
def Ex : Nat → Type | 0 => Unit | n + 1 => Nat × Nat × List (Ex n)
def st {n : Nat} (t : Ex (n + 1)) : Nat := t.2.1
/-- Marks as cells. -/
def rowB (n : Nat) (g : Nat → Bool) : Array Value := ((List.range n).map fun (j : Nat) => Value.bool (g j)).toArray
theorem rowB_size (n : Nat) (g : Nat → Bool) : (rowB n g).size = n := by simp [rowB]
theorem rowB_at {n : Nat} (g : Nat → Bool) {j : Nat} (h : j < n) : (rowB n g)[j]? = some (.bool (g j)) := by simp [rowB, h]
theorem rowB_congr {n : Nat} {g h : Nat → Bool} (e : ∀ j, j < n → g j = h j) : rowB n g = rowB n h := by
  unfold rowB
  congr 1
  refine List.map_congr_left fun j hj => ?_
  rw [e j (by simpa using hj)]
theorem rowB_set {n : Nat} (g : Nat → Bool) {j : Nat} (v : Bool) (h : j < n) : (rowB n g).setIfInBounds j (.bool v) = rowB n (fun i => if i = j then v else g i) := by
  apply Array.ext_getElem?
  intro i
  by_cases hi : i < n
  · rw [rowB_at _ hi]
    by_cases e : i = j
    · subst e; simp [rowB_size, h]
    · rw [Array.getElem?_setIfInBounds, if_neg (fun q => e q.symm), rowB_at _ hi, if_neg e]
  · rw [Array.getElem?_eq_none (by simp [rowB_size]; omega), Array.getElem?_eq_none (by simp [rowB_size]; omega)]
theorem rowB_zero (n : Nat) : madeCells #[.bool false] n = rowB n (fun _ => false) := by
  apply Array.ext_getElem?
  intro i
  by_cases hi : i < n
  · rw [rowB_at _ hi]; simp [madeCells, hi, Nat.mod_one]
  · rw [Array.getElem?_eq_none (by simp [madeCells]; omega), Array.getElem?_eq_none (by simp [rowB_size]; omega)]
theorem info4 : (Try.prog.info? 4).map (fun i => (i.zero, i.size, i.bytes)) = some (some (.bool false), 1, 1) := by kernel_rfl
theorem make39 (n : Nat) (hn : n ≤ 10000) (w : World) : (Instr.makeSlice 30 (.int .i64 (n : Int)) (.int .i64 (n : Int))).run Try.prog w = .ok (.slice (some ⟨w.heap.size, 0, none⟩) n n) (w.alloc (.cells (rowB n fun _ => false) 4)) := by
  have := run_make_row' (P := Try.prog) 30 4 (.bool false) 1 Try.underlying30 info4 rfl .i64 .i64 n (by omega) (by omega) w
  rw [rowB_zero] at this
  exact this
/-- A row of marks. -/
def Mk (wr : World) (B n : Nat) (g : Nat → Bool) : Prop := wr.heap[B]? = some (.cells (rowB n g) 4 (0, 0))
theorem mk_congr {wr : World} {B n : Nat} {g h : Nat → Bool} (d : Mk wr B n g) (e : ∀ j, j < n → g j = h j) : Mk wr B n h := by unfold Mk; rw [← rowB_congr e]; exact d
theorem mk_cell {wr : World} {B n : Nat} {g : Nat → Bool} (d : Mk wr B n g) {j : Nat} (hj : j < n) : wr.cell? ⟨B, j, none⟩ = some (.bool (g j)) ∧ wr.frozen? ⟨B, j, none⟩ = false := by
  unfold Mk at d
  constructor
  · rw [cell_of_row _ _ j _ _ _ d, rowB_at _ hj]
  · simp [World.frozen?, d]
theorem mk_set {wr : World} {B n : Nat} {g : Nat → Bool} (d : Mk wr B n g) {j : Nat} (hj : j < n) (v : Bool) : Mk (wr.setCell ⟨B, j, none⟩ (.bool v)) B n (fun i => if i = j then v else g i) := by
  unfold Mk at *
  rw [setCell_eq_setRow _ _ _ _ _ _ _ d, setRow_heap _ _ _ _ _ _ d, rowB_set _ _ hj]
theorem mk_lt {wr : World} {B n : Nat} {g : Nat → Bool} (d : Mk wr B n g) : B < wr.heap.size := (Array.getElem?_eq_some_iff.1 d).1
theorem mk_new (w : World) (o1 : Obj) (N : Nat) : Mk ((w.alloc o1).alloc (.cells (rowB N fun _ => false) 4)) (w.heap.size + 1) N (fun _ => false) := by
  have := heap_alloc_last (w.alloc o1) (.cells (rowB N fun _ => false) 4)
  rw [show (w.alloc o1).heap.size = w.heap.size + 1 by simp] at this
  exact this
theorem mk_below {w w' : World} {B F n : Nat} {g : Nat → Bool} (hF : F < B) (hb : Below B w w') (d : Mk w F n g) : Mk w' F n g := by
  unfold Mk at *
  rw [hb.block F hF]; exact d
/-- A word at a slice. -/
def Wd (w : World) (a : Option Addr) (word : List Int) : Prop := ∀ i c, word[i]? = some c → ∃ b off, a = some ⟨b, off, none⟩ ∧ w.cell? ⟨b, off + i, none⟩ = some (.int .i64 c)
theorem wd_below {w w' : World} {a : Option Addr} {word : List Int} (hb : Below w.heap.size w w') (h : Wd w a word) : Wd w' a word := fun i c hc => by
  obtain ⟨b, off, e, k⟩ := h i c hc
  exact ⟨b, off, e, (hb.cell (p := ⟨b, off + i, none⟩) (cell_lt k)).trans k⟩
/-- What Ends is to hand back. -/
def Gives (w : World) (N : Nat) (g : Nat → Bool) (e : Ending) (w' : World) : Prop := ∃ B, w.heap.size ≤ B ∧ e = .returned (.slice (some ⟨B, 0, none⟩) N N) ∧ Mk w' B N g ∧ Below w.heap.size w w'

theorem mk_other {wr : World} {C n : Nat} {g : Nat → Bool} (d : Mk wr C n g) {B : Nat} (h : C ≠ B) (p : Nat) (v : Value) : Mk (wr.setCell ⟨B, p, none⟩ v) C n g := by
  unfold Mk at *
  rw [Go.Deep.blk_setCell_other _ _ _ _ h]; exact d
theorem mk_newg (w : World) (o1 : Obj) (N : Nat) (g : Nat → Bool) : Mk ((w.alloc o1).alloc (.cells (rowB N g) 4)) (w.heap.size + 1) N g := by
  have := heap_alloc_last (w.alloc o1) (.cells (rowB N g) 4)
  rw [show (w.alloc o1).heap.size = w.heap.size + 1 by simp] at this
  exact this
theorem mk_new1 (w : World) (N : Nat) : Mk (w.alloc (.cells (rowB N fun _ => false) 4)) w.heap.size N (fun _ => false) := heap_alloc_last w _
/-- The states among the first k of a table. -/
def lstL (g : Nat → Bool) (k : Nat) : List Int := ((List.range k).filter g).map fun (j : Nat) => (j : Int)
theorem info3 : (Try.prog.info? 3).map (fun i => (i.zero, i.size, i.bytes)) = some (some (.int .i64 0), 1, 8) := by kernel_rfl
theorem one_new (w : World) (v : Value) (t : TypeId) : ∀ j u, [v][j]? = some u → (w.alloc (.cells #[v] t)).cell? ((⟨w.heap.size, 0, none⟩ : Addr).add j) = some u := by
  intro j u hj
  match j with
  | 0 =>
    have e : v = u := by simpa using hj
    subst e
    simp [Addr.add]
  | j + 1 => simp at hj

/-- How many are not marked. -/
def cntF (g : Nat → Bool) : Nat → Nat
  | 0 => 0
  | n + 1 => cntF g n + (match g n with | true => 0 | false => 1)
theorem cntF_mono {g h : Nat → Bool} : ∀ n, (∀ j, j < n → g j = true → h j = true) → cntF h n ≤ cntF g n
  | 0, _ => Nat.le_refl _
  | n + 1, e => by
    have h1 := cntF_mono n (fun j hj => e j (by omega))
    have h2 := e n (by omega)
    unfold cntF
    cases hg : g n <;> cases hh : h n <;> simp_all <;> omega
theorem cntF_lt {g h : Nat → Bool} : ∀ n, (∀ j, j < n → g j = true → h j = true) → ∀ z, z < n → g z = false → h z = true → cntF h n < cntF g n
  | 0, _, z, hz, _, _ => by omega
  | n + 1, e, z, hz, h0, h1 => by
    by_cases q : z = n
    · subst q
      have h3 := cntF_mono z (fun j hj => e j (by omega))
      unfold cntF
      rw [h0, h1]
      show cntF h z + 0 < cntF g z + 1
      omega
    · have h3 := cntF_lt n (fun j hj => e j (by omega)) z (by omega) h0 h1
      have h2 := e n (by omega)
      unfold cntF
      cases hg : g n <;> cases hh : h n <;> simp_all <;> omega
theorem cntF_congr {g h : Nat → Bool} (n : Nat) (e : ∀ j, j < n → g j = h j) : cntF g n = cntF h n :=
  Nat.le_antisymm (cntF_mono n (fun j hj q => by rw [e j hj]; exact q)) (cntF_mono n (fun j hj q => by rw [← e j hj]; exact q))
/-- Numbers at a slice, nil or not. -/
def Row (w : World) (base : Nat) (v : Value) (l : List Int) : Prop := (v = .slice none 0 0 ∧ l = []) ∨ ∃ b off cap, base ≤ b ∧ v = .slice (some ⟨b, off, none⟩) l.length cap ∧ l.length ≤ cap ∧ Wd w (some ⟨b, off, none⟩) l
theorem own_row {w : World} {base : Nat} {v : Value} {l : List Int} (h : w.ownsRow base 3 1 v l.length (l.map (Value.int .i64))) : Row w base v l := by
  obtain ⟨_, h | ⟨g, cap, cur, h1, h2, h3, h4, _, _, h7⟩⟩ := h
  · exact .inl ⟨h.1, List.eq_nil_of_length_eq_zero h.2⟩
  · refine .inr ⟨g, 0, cap, h2, h1, h4, fun i c hc => ⟨g, 0, rfl, ?_⟩⟩
    rw [cell_of_row _ _ (0 + i) _ _ _ h3, Nat.zero_add, ← Array.getElem?_toList]
    have hlt := (List.getElem?_eq_some_iff.1 hc).1
    have e : (cur.toList.take (l.length * 1))[i]? = (l.map (Value.int .i64))[i]? := by rw [h7]
    rw [List.getElem?_take_of_lt (by omega), List.getElem?_map, hc] at e
    exact e
theorem below_drew1 (V : World) : Below V.heap.size V V.drew := (Below.refl _ _).drew
theorem mk_old {w : World} {F n : Nat} {g : Nat → Bool} (d : Mk w F n g) (o : Obj) : Mk (w.alloc o) F n g := by
  unfold Mk; rw [Below.heap_alloc _ _ _ (mk_lt d)]; exact d

theorem own_low {w : World} {base base' : Nat} {e : TypeId} {size : Nat} {v : Value} {n : Nat} {xs : List Value} (h : w.ownsRow base e size v n xs) (hb : base' ≤ base) : w.ownsRow base' e size v n xs := by
  obtain ⟨h1, h2 | ⟨g, cap, cur, hv, hg, r⟩⟩ := h
  · exact ⟨h1, .inl h2⟩
  · exact ⟨h1, .inr ⟨g, cap, cur, hv, Nat.le_trans hb hg, r⟩⟩

theorem lst_mem (g : Nat → Bool) (N : Nat) (z : Int) : z ∈ lstL g N ↔ ∃ j : Nat, z = j ∧ j < N ∧ g j = true := by
  unfold lstL
  simp only [List.mem_map, List.mem_filter, List.mem_range]
  constructor
  · rintro ⟨j, ⟨h1, h2⟩, e⟩; exact ⟨j, e.symm, h1, h2⟩
  · rintro ⟨j, e, h1, h2⟩; exact ⟨j, ⟨h1, h2⟩, e.symm⟩
theorem lst_congr {g h : Nat → Bool} {N : Nat} (e : ∀ j, j < N → g j = h j) : lstL g N = lstL h N := by
  unfold lstL
  congr 1
  exact List.filter_congr (fun j hj => e j (by simpa using hj))
/-- A row of one's own, as a slice that can be read. -/
theorem own_slice {w : World} {base : Nat} {v : Value} {l : List Int} (h : w.ownsRow base 3 1 v l.length (l.map (Value.int .i64))) : ∃ a cap, v = .slice a l.length cap ∧ Wd w a l := by
  rcases own_row h with ⟨rfl, rfl⟩ | ⟨b, off, cap, _, rfl, _, hw⟩
  · exact ⟨none, 0, rfl, fun i c hc => by simp at hc⟩
  · exact ⟨_, _, rfl, hw⟩

/-- Two values that own no block together. -/
def Ap (a b : Value) : Prop := ∀ k, a.ownBlock = some k → b.ownBlock = some k → False
theorem Ap.symm {a b : Value} (h : Ap a b) : Ap b a := fun k h1 h2 => h k h2 h1
theorem own_types {w : World} {base base' : Nat} {e e' : TypeId} {s s' : Nat} {v v' : Value} {n n' : Nat} {xs xs' : List Value} (h : w.ownsRow base e s v n xs) (h' : w.ownsRow base' e' s' v' n' xs') (he : e ≠ e') : Ap v v' := by
  intro k hk hk'
  obtain ⟨_, ⟨rfl, _⟩ | ⟨g, cap, cur, rfl, _, hg, _⟩⟩ := h
  · simp [Value.ownBlock] at hk
  · obtain ⟨_, ⟨rfl, _⟩ | ⟨g', cap', cur', rfl, _, hg', _⟩⟩ := h'
    · simp [Value.ownBlock] at hk'
    · simp only [Value.ownBlock, Option.some.injEq] at hk hk'
      subst hk
      subst hk'
      rw [hg] at hg'
      cases hg'
      exact he rfl
theorem own_move {w w' : World} {base : Nat} {e : TypeId} {s : Nat} {v : Value} {n : Nat} {xs : List Value} (h : w.ownsRow base e s v n xs) (hk : ∀ k, v.ownBlock = some k → w'.heap[k]? = w.heap[k]?) : w'.ownsRow base e s v n xs := by
  obtain ⟨h1, h2 | ⟨g, cap, cur, rfl, hb, hg, r⟩⟩ := h
  · exact ⟨h1, .inl h2⟩
  · exact ⟨h1, .inr ⟨g, cap, cur, rfl, hb, by rw [hk g rfl]; exact hg, r⟩⟩
theorem own_type {w : World} {base : Nat} {e : TypeId} {s : Nat} {v : Value} {n : Nat} {xs : List Value} (h : w.ownsRow base e s v n xs) {k : Nat} (hk : v.ownBlock = some k) : base ≤ k ∧ k < w.heap.size ∧ ∃ cs, w.heap[k]? = some (.cells cs e (0, 0)) := by
  obtain ⟨_, ⟨rfl, _⟩ | ⟨g, cap, cur, rfl, hb, hg, _⟩⟩ := h
  · simp [Value.ownBlock] at hk
  · simp only [Value.ownBlock, Option.some.injEq] at hk
    subst hk
    exact ⟨hb, (Array.getElem?_eq_some_iff.1 hg).1, _, hg⟩
/-- A row of another type than the block's. -/
theorem own_not {w : World} {base q : Nat} {e t : TypeId} {s : Nat} {v : Value} {n : Nat} {xs : List Value} {cs : Array Value} {fr : Nat × Nat} (h : w.ownsRow base e s v n xs) (hq : w.heap[q]? = some (.cells cs t fr)) (he : e ≠ t) : v.ownBlock ≠ some q := fun hk => by
  obtain ⟨_, _, cs', h'⟩ := own_type h hk
  rw [hq] at h'
  cases h'
  exact he rfl

/-- Behind an append, with what is appended in a block of its own: what is not of the row stays. -/
theorem kept1 {w w1 : World} {o : Obj} {r : Option Nat} {base : Nat} {e : TypeId} {s : Nat} {v : Value} {n : Nat} {xs : List Value} (h : w.ownsRow base e s v n xs) (hg : (w.alloc o).grownBy w1 r) (hap : ∀ k, v.ownBlock = some k → r ≠ some k) : w1.ownsRow base e s v n xs :=
  own_move h (fun k hk => by
    have hlt := (own_type h hk).2.1
    rw [hg.block k (by simp; omega) (fun e => hap k hk e.symm), Below.heap_alloc _ _ _ hlt])
theorem blk_set {w : World} {q : Nat} {cs : Array Value} {t : TypeId} {fr : Nat × Nat} (h : w.heap[q]? = some (.cells cs t fr)) (i : Nat) (u : Value) : (w.setCell ⟨q, i, none⟩ u).heap[q]? = some (.cells (cs.setIfInBounds i u) t fr) := by
  simp [World.setCell, Array.getElem?_modify, h]
theorem set_far {w : World} {q i : Nat} {u : Value} {base : Nat} {e : TypeId} {s : Nat} {v : Value} {n : Nat} {xs : List Value} (h : w.ownsRow base e s v n xs) (hk : v.ownBlock ≠ some q) : (w.setCell ⟨q, i, none⟩ u).ownsRow base e s v n xs :=
  own_move h (fun k hk' => Below.heap_setCell _ _ _ _ (fun e => hk (by rw [hk', show k = q from e])))
section
variable {w w1 : World} {o : Obj} {base q : Nat} {v0 v1 v2 v3 : Value} {vf : List Value} {ff : List (List Int)} {ss : List Nat} {ts rs : List Int} {g cap : Nat}
end

section
variable {w w1 : World} {base q : Nat} {v1 v2 v3 u : Value} {vf : List Value} {ff : List (List Int)} {ss : List Nat} {ts rs l zs : List Int} {g g0 c0 cap i : Nat}
end

theorem wd_news {w : World} {ad : Addr} {zs : List Int} (h : Wd w (some ad) zs) : ∀ j u, (zs.map (Value.int .i64))[j]? = some u → w.cell? (ad.add j) = some u := fun j u hu => by
  rw [List.getElem?_map] at hu
  match hz : zs[j]?, hu with
  | some c, hu =>
    obtain ⟨b, off, e, hc⟩ := h j c hz
    cases e
    simp only [Option.map_some, Option.some.injEq] at hu
    rw [← hu, show (⟨b, off, none⟩ : Addr).add j = ⟨b, off + j, none⟩ from by unfold Addr.add; split <;> simp_all]
    exact hc

section
variable {F F' : Nat → Nat → Prop} {S S' : Nat → Nat → Nat → Prop} {N : Nat} {ff : List (List Int)} {ss : List Nat} {ts : List Int}
end

/-- A row of one number, of two, just made. -/
theorem wd_one (w : World) (x : Int) : Wd (w.alloc (.cells #[.int .i64 x] 3)) (some ⟨w.heap.size, 0, none⟩) [x] := fun i c hc => by
  match i with
  | 0 =>
    have e : x = c := by simpa using hc
    subst e
    exact ⟨_, _, rfl, by simp⟩
  | i + 1 => simp at hc
theorem cells3 : Try.prog.cellsOf 3 = 1 := by kernel_rfl
theorem open_words {H : Type} {enc : TypeId × Value → H} {W : World} {sp : Nat → Bool} {fuel : Nat} {a : Option Addr} {len cap : Nat} {x : DataW H × List MemPlace} (h : DataW.trod enc Try.prog W 0 sp true fuel 23 [.slice a len cap] = some x) :
    ∃ zs : List Int, Wd W a zs ∧ zs.length = len ∧ len ≤ cap ∧ cap ≤ maxLen := by
  rcases open_slice Try.underlying23 h with ⟨hcs, _⟩ | ⟨a', len', cap', m, n, D, Pl, hcs, _, hl, hm, hmm, _, hx⟩
  · simp at hcs
    obtain ⟨rfl, rfl, rfl⟩ := hcs
    exact ⟨[], fun i c hc => by simp at hc, rfl, Nat.le_refl _, by unfold maxLen; omega⟩
  · simp at hcs
    obtain ⟨rfl, rfl, rfl⟩ := hcs
    have hlm : len ≤ m := by rw [hmm]; split <;> omega
    have each : ∀ i, i < len → ∃ r : Int, W.cell? (a'.add i) = some (.int .i64 r) := by
      intro i hi
      obtain ⟨cs', h1, h2⟩ := hx i (by omega)
      rw [cells3] at h1
      obtain ⟨_, hlen, hcell⟩ := World.cells?_some h1
      match cs', hlen with
      | [v0], _ =>
        obtain ⟨s, e0, d0, _⟩ := DataW.trod_int Try.underlying3 h2
        simp only [List.cons.injEq, and_true] at e0
        subst e0
        have c0 := hcell 0 (by omega)
        rw [add_add] at c0
        exact ⟨s, by simpa using c0⟩
    obtain ⟨q, hq⟩ := choose_lt each
    refine ⟨(List.range len).map fun i => q i, fun i c hc => ?_, by simp, hl, hm⟩
    have hi : i < len := by have := (List.getElem?_eq_some_iff.1 hc).1; simpa using this
    simp only [List.getElem?_map, List.getElem?_range hi, Option.map_some, Option.some.injEq] at hc
    subst hc
    obtain ⟨b, off, spot⟩ := a'
    have hspot : spot = none := by simpa [Addr.add] using World.cell?_spot (hq 0 (by omega))
    subst hspot
    refine ⟨b, off, rfl, ?_⟩
    rw [← hq i hi]
    simp only [Addr.add]
    split
    · rename_i h; rw [h]; rfl
    · rfl
theorem add_at {b off : Nat} (j : Nat) : (⟨b, off, none⟩ : Addr).add j = ⟨b, off + j, none⟩ := by
  simp only [Addr.add]
  split
  · rename_i h; rw [h]; rfl
  · rfl
/-- A set's number, and the sets behind that. -/
def findF (S : List (List Int)) (s : List Int) : List (List Int) × Int :=
  if s = [] then (S, -1) else if s ∈ S then (S, ((S.idxOf s : Nat) : Int)) else (S ++ [s], ((S.length : Nat) : Int))
/-- The first k numbers of a set's row, and the sets behind that. -/
def rowF (tr : List Int → Nat → List Int) (s : List Int) (S : List (List Int)) : Nat → List (List Int) × List Int
  | 0 => (S, [])
  | k + 1 => ((findF (rowF tr s S k).1 (tr s k)).1, (rowF tr s S k).2 ++ [(findF (rowF tr s S k).1 (tr s k)).2])
/-- The sets, rows and rules behind the first k states. -/
def stF (tr : List Int → Nat → List Int) (ls : List Int → Int) (start : List Int) : Nat → List (List Int) × List (List Int) × List Int
  | 0 => ([start], [], [])
  | k + 1 => match (stF tr ls start k).1[k]? with
    | none => stF tr ls start k
    | some s => ((rowF tr s (stF tr ls start k).1 16).1, (stF tr ls start k).2.1 ++ [(rowF tr s (stF tr ls start k).1 16).2], (stF tr ls start k).2.2 ++ [ls s])

theorem find_pre (S : List (List Int)) (s : List Int) : ∃ r, (findF S s).1 = S ++ r ∧ r.length ≤ 1 := by
  unfold findF
  split
  · exact ⟨[], by simp, by simp⟩
  · split
    · exact ⟨[], by simp, by simp⟩
    · exact ⟨[s], rfl, by simp⟩
theorem row_pre (tr : List Int → Nat → List Int) (s : List Int) (S : List (List Int)) : ∀ k, ∃ r, (rowF tr s S k).1 = S ++ r ∧ r.length ≤ k
  | 0 => ⟨[], by simp [rowF], by simp⟩
  | k + 1 => by
    obtain ⟨r, hr, hl⟩ := row_pre tr s S k
    obtain ⟨r', hr', hl'⟩ := find_pre (rowF tr s S k).1 (tr s k)
    refine ⟨r ++ r', ?_, by simp; omega⟩
    show (findF (rowF tr s S k).1 (tr s k)).1 = _
    rw [hr', hr, List.append_assoc]
theorem row_len (tr : List Int → Nat → List Int) (s : List Int) (S : List (List Int)) : ∀ k, (rowF tr s S k).2.length = k
  | 0 => rfl
  | k + 1 => by show (_ ++ [_]).length = _; rw [List.length_append, row_len tr s S k]; rfl

section
variable {tr : List Int → Nat → List Int} {ls : List Int → Int} {start : List Int}
theorem st_some {k : Nat} {s : List Int} (h : (stF tr ls start k).1[k]? = some s) : stF tr ls start (k + 1) = ((rowF tr s (stF tr ls start k).1 16).1, (stF tr ls start k).2.1 ++ [(rowF tr s (stF tr ls start k).1 16).2], (stF tr ls start k).2.2 ++ [ls s]) := by
  conv => lhs; unfold stF
  rw [h]
theorem st_none {k : Nat} (h : (stF tr ls start k).1[k]? = none) : stF tr ls start (k + 1) = stF tr ls start k := by
  conv => lhs; unfold stF
  rw [h]
theorem st_pre1 (k : Nat) : ∃ r, (stF tr ls start (k + 1)).1 = (stF tr ls start k).1 ++ r := by
  cases h : (stF tr ls start k).1[k]? with
  | none => exact ⟨[], by rw [st_none h]; simp⟩
  | some s =>
    obtain ⟨r, hr, _⟩ := row_pre tr s (stF tr ls start k).1 16
    exact ⟨r, by rw [st_some h]; exact hr⟩
theorem st_pre (k m : Nat) : ∃ r, (stF tr ls start (k + m)).1 = (stF tr ls start k).1 ++ r := by
  induction m with
  | zero => exact ⟨[], by simp⟩
  | succ m ih =>
    obtain ⟨r, hr⟩ := ih
    obtain ⟨r', hr'⟩ := st_pre1 (tr := tr) (ls := ls) (start := start) (k + m)
    exact ⟨r ++ r', by rw [show k + (m + 1) = k + m + 1 by omega, hr', hr, List.append_assoc]⟩
theorem st_mono {k m : Nat} (h : k ≤ m) : (stF tr ls start k).1.length ≤ (stF tr ls start m).1.length := by
  obtain ⟨r, hr⟩ := st_pre (tr := tr) (ls := ls) (start := start) k (m - k)
  rw [show k + (m - k) = m by omega] at hr
  rw [hr, List.length_append]; omega
theorem st_at {k m i : Nat} {s : List Int} (h : k ≤ m) (hi : (stF tr ls start k).1[i]? = some s) : (stF tr ls start m).1[i]? = some s := by
  obtain ⟨r, hr⟩ := st_pre (tr := tr) (ls := ls) (start := start) k (m - k)
  rw [show k + (m - k) = m by omega] at hr
  rw [hr, List.getElem?_append_left (List.getElem?_eq_some_iff.1 hi).1]; exact hi
theorem st_stop {k : Nat} (h : (stF tr ls start k).1.length ≤ k) (m : Nat) : stF tr ls start (k + m) = stF tr ls start k := by
  induction m with
  | zero => rfl
  | succ m ih =>
    rw [show k + (m + 1) = k + m + 1 by omega]
    have hn : (stF tr ls start (k + m)).1[k + m]? = none := by rw [ih]; exact List.getElem?_eq_none (by omega)
    rw [st_none hn, ih]
/-- As long as there is a state more, there are as many rows. -/
theorem st_len : ∀ k, (∀ j, j < k → j < (stF tr ls start j).1.length) → (stF tr ls start k).2.1.length = k ∧ (stF tr ls start k).2.2.length = k
  | 0, _ => ⟨rfl, rfl⟩
  | k + 1, h => by
    obtain ⟨h1, h2⟩ := st_len k (fun j hj => h j (by omega))
    rw [st_some (List.getElem?_eq_getElem (h k (by omega)))]
    simp [h1, h2]
/-- The machine's end: behind 201 rounds nothing turns, or there are too many. -/
theorem st_end {k : Nat} (h : (stF tr ls start k).1.length = k) (hk : k ≤ 200) : stF tr ls start 201 = stF tr ls start k := by
  have := st_stop (tr := tr) (ls := ls) (start := start) (k := k) (by omega) (201 - k)
  rw [show k + (201 - k) = 201 by omega] at this
  exact this
theorem st_big {k : Nat} (h : 200 < (stF tr ls start (k + 1)).1.length) (hk : k < 201) : 200 < (stF tr ls start 201).1.length := by
  have := st_mono (tr := tr) (ls := ls) (start := start) (k := k + 1) (m := 201) (by omega)
  omega
/-- Sets are there once, and no set is empty. -/
theorem find_nodup {S : List (List Int)} (h : S.Nodup) (s : List Int) : (findF S s).1.Nodup := by
  unfold findF
  split
  · exact h
  · split
    · exact h
    · rename_i hn
      rw [List.nodup_append]
      exact ⟨h, by simp, fun a ha b hb => by rw [List.mem_singleton] at hb; subst hb; exact fun e => hn (e ▸ ha)⟩
theorem find_spec (S : List (List Int)) (s : List Int) : (s = [] ∧ (findF S s).2 = -1) ∨ (s ≠ [] ∧ ∃ j : Nat, (findF S s).2 = j ∧ (findF S s).1[j]? = some s) := by
  unfold findF
  by_cases h : s = []
  · left; exact ⟨h, by rw [if_pos h]⟩
  · right
    refine ⟨h, ?_⟩
    rw [if_neg h]
    by_cases hm : s ∈ S
    · rw [if_pos hm]
      have hlt := List.idxOf_lt_length_of_mem hm
      exact ⟨_, rfl, by rw [List.getElem?_eq_getElem hlt]; simp⟩
    · rw [if_neg hm]
      exact ⟨_, rfl, by simp⟩
/-- What a row's numbers mean. -/
def Means (tr : List Int → Nat → List Int) (S : List (List Int)) (s : List Int) (row : List Int) (k : Nat) : Prop :=
  ∀ c, c < k → (tr s c = [] ∧ row[c]? = some (-1)) ∨ (tr s c ≠ [] ∧ ∃ j : Nat, row[c]? = some (j : Int) ∧ S[j]? = some (tr s c))
theorem means_more {S : List (List Int)} {s row : List Int} {k : Nat} (h : Means tr S s row k) (r : List (List Int)) : Means tr (S ++ r) s row k := fun c hc => by
  rcases h c hc with h | ⟨h0, j, h1, h2⟩
  · exact .inl h
  · exact .inr ⟨h0, j, h1, by rw [List.getElem?_append_left (List.getElem?_eq_some_iff.1 h2).1]; exact h2⟩
theorem row_means (s : List Int) (S : List (List Int)) : ∀ k, Means tr (rowF tr s S k).1 s (rowF tr s S k).2 k
  | 0 => fun c hc => by omega
  | k + 1 => fun c hc => by
    have hl := row_len tr s S k
    obtain ⟨r, hr, _⟩ := find_pre (rowF tr s S k).1 (tr s k)
    show (tr s c = [] ∧ ((rowF tr s S k).2 ++ [(findF (rowF tr s S k).1 (tr s k)).2])[c]? = some (-1)) ∨ (tr s c ≠ [] ∧ ∃ j : Nat, ((rowF tr s S k).2 ++ [(findF (rowF tr s S k).1 (tr s k)).2])[c]? = some (j : Int) ∧ (findF (rowF tr s S k).1 (tr s k)).1[j]? = some (tr s c))
    by_cases e : c = k
    · subst e
      rw [List.getElem?_append_right (by omega), hl, Nat.sub_self]
      rcases find_spec (rowF tr s S c).1 (tr s c) with ⟨h1, h2⟩ | ⟨h0, j, h1, h2⟩
      · exact .inl ⟨h1, by rw [h2]; rfl⟩
      · exact .inr ⟨h0, j, by rw [h1]; rfl, h2⟩
    · rw [List.getElem?_append_left (by omega)]
      have := means_more (row_means s S k) r c (by omega)
      rw [← hr] at this
      exact this
theorem row_nodup {S : List (List Int)} (h : S.Nodup) (s : List Int) : ∀ k, (rowF tr s S k).1.Nodup
  | 0 => h
  | k + 1 => find_nodup (row_nodup h s k) _
theorem st_nodup : ∀ k, (stF tr ls start k).1.Nodup
  | 0 => by simp [stF]
  | k + 1 => by
    cases h : (stF tr ls start k).1[k]? with
    | none => rw [st_none h]; exact st_nodup k
    | some s => rw [st_some h]; exact row_nodup (st_nodup k) s 16
/-- All sets keep what tr and the start keep. -/
theorem find_all {P : List Int → Prop} {S : List (List Int)} (h : ∀ x ∈ S, P x) {s : List Int} (hs : s ≠ [] → P s) : ∀ x ∈ (findF S s).1, P x := by
  unfold findF
  split
  · exact h
  · split
    · exact h
    · rename_i h0 _
      intro x hx
      rw [List.mem_append, List.mem_singleton] at hx
      rcases hx with hx | rfl
      · exact h x hx
      · exact hs h0
theorem row_all {P : List Int → Prop} {s : List Int} (ht : ∀ c, c < 16 → tr s c ≠ [] → P (tr s c)) {S : List (List Int)} (h : ∀ x ∈ S, P x) : ∀ k, k ≤ 16 → ∀ x ∈ (rowF tr s S k).1, P x
  | 0, _ => h
  | k + 1, hk => find_all (row_all ht h k (by omega)) (ht k (by omega))
theorem st_all {P : List Int → Prop} (h0 : P start) (ht : ∀ s, P s → ∀ c, c < 16 → tr s c ≠ [] → P (tr s c)) : ∀ k, ∀ x ∈ (stF tr ls start k).1, P x
  | 0 => fun x hx => by
    have : x = start := by simpa [stF] using hx
    rw [this]; exact h0
  | k + 1 => by
    cases h : (stF tr ls start k).1[k]? with
    | none => rw [st_none h]; exact st_all h0 ht k
    | some s => rw [st_some h]; exact row_all (ht s (st_all h0 ht k s (List.mem_of_getElem? h))) (st_all h0 ht k) 16 (by omega)
/-- Each row behind the first k states means what it should, and each rule is its set's. -/
theorem st_means : ∀ k, (∀ j, j < k → j < (stF tr ls start j).1.length) → ∀ i, i < k → ∃ s row, (stF tr ls start k).1[i]? = some s ∧ (stF tr ls start k).2.1[i]? = some row ∧ row.length = 16 ∧ (stF tr ls start k).2.2[i]? = some (ls s) ∧ Means tr (stF tr ls start k).1 s row 16
  | 0, _, i, hi => by omega
  | k + 1, h, i, hi => by
    have hk := h k (by omega)
    obtain ⟨l1, l2⟩ := st_len (tr := tr) (ls := ls) (start := start) k (fun j hj => h j (by omega))
    have e := List.getElem?_eq_getElem hk
    generalize (stF tr ls start k).1[k] = s at e
    have hS := st_some (ls := ls) e
    rw [hS]
    obtain ⟨r, hr, _⟩ := row_pre tr s (stF tr ls start k).1 16
    by_cases q : i = k
    · subst q
      refine ⟨s, (rowF tr s (stF tr ls start i).1 16).2, ?_, ?_, row_len _ _ _ _, ?_, row_means s _ 16⟩
      · show (rowF tr s (stF tr ls start i).1 16).1[i]? = _
        rw [hr, List.getElem?_append_left hk]; exact e
      · show (_ ++ [_])[i]? = _
        rw [List.getElem?_append_right (by omega), l1, Nat.sub_self]; rfl
      · show (_ ++ [_])[i]? = _
        rw [List.getElem?_append_right (by omega), l2, Nat.sub_self]; rfl
    · obtain ⟨s', row, h1, h2, h3, h4, h5⟩ := st_means k (fun j hj => h j (by omega)) i (by omega)
      refine ⟨s', row, ?_, ?_, h3, ?_, ?_⟩
      · show (rowF tr s (stF tr ls start k).1 16).1[i]? = _
        rw [hr, List.getElem?_append_left (List.getElem?_eq_some_iff.1 h1).1]; exact h1
      · show (_ ++ [_])[i]? = _
        rw [List.getElem?_append_left (by omega)]; exact h2
      · show (_ ++ [_])[i]? = _
        rw [List.getElem?_append_left (by omega)]; exact h4
      · show Means tr (rowF tr s (stF tr ls start k).1 16).1 s' row 16
        rw [hr]; exact means_more h5 r
theorem st_start (k : Nat) : (stF tr ls start k).1[0]? = some start := st_at (k := 0) (Nat.zero_le k) rfl
/-- There is a first round at which no state is left, or there are too many. -/
theorem st_reach (hb : (stF tr ls start 201).1.length ≤ 200) : ∃ k, (stF tr ls start k).1.length = k ∧ k ≤ 200 ∧ (∀ j, j < k → j < (stF tr ls start j).1.length) ∧ stF tr ls start 201 = stF tr ls start k := by
  have key : ∀ m, (∀ j, j < m → j < (stF tr ls start j).1.length) ∨ ∃ k, k < m ∧ (stF tr ls start k).1.length = k ∧ (∀ j, j < k → j < (stF tr ls start j).1.length) := fun m => by
    induction m with
    | zero => exact .inl fun j hj => by omega
    | succ m ih =>
      rcases ih with ih | ⟨k, h1, h2, h3⟩
      · by_cases q : m < (stF tr ls start m).1.length
        · exact .inl fun j hj => by
            by_cases e : j = m
            · subst e; exact q
            · exact ih j (by omega)
        · right
          refine ⟨m, by omega, ?_, ih⟩
          cases m with
          | zero => simp [stF] at q
          | succ m =>
            have := ih m (by omega)
            have h2 := st_mono (tr := tr) (ls := ls) (start := start) (k := m) (m := m + 1) (by omega)
            omega
      · exact .inr ⟨k, by omega, h2, h3⟩
  rcases key 201 with h | ⟨k, h1, h2, h3⟩
  · have h1 := h 200 (by omega)
    have h2 := st_mono (tr := tr) (ls := ls) (start := start) (k := 200) (m := 201) (by omega)
    omega
  · exact ⟨k, h2, by omega, h3, st_end h2 (by omega)⟩
end
section
variable {w w1 w2 : World} {base q m : Nat} {x0 x1 x2 x3 sv : Value} {vs : List Value} {S : List (List Int)}
end
theorem own_len {w : World} {base : Nat} {v : Value} {s : List Int} (h : w.ownsRow base 3 1 v s.length (s.map (Value.int .i64))) : ∃ a cap, v = .slice a s.length cap ∧ Wd w a s := own_slice h

/-- 16 numbers as cells. -/
def rowG (g : Nat → Int) : Array Value := ((List.range 16).map fun (j : Nat) => Value.int .i64 (g j)).toArray
theorem rowG_size (g : Nat → Int) : (rowG g).size = 16 := by simp [rowG]
theorem rowG_at (g : Nat → Int) (j : Nat) (h : j < 16) : (rowG g)[j]? = some (.int .i64 (g j)) := by simp [rowG, h]
theorem rowG_congr {g h : Nat → Int} (e : ∀ j, j < 16 → g j = h j) : rowG g = rowG h := by
  unfold rowG
  congr 1
  refine List.map_congr_left fun j hj => ?_
  rw [e j (by simpa using hj)]
theorem rowG_set (g : Nat → Int) (j : Nat) (v : Int) (h : j < 16) : (rowG g).setIfInBounds j (.int .i64 v) = rowG (fun i => if i = j then v else g i) := by
  apply Array.ext_getElem?
  intro i
  by_cases hi : i < 16
  · rw [rowG_at _ _ hi]
    by_cases e : i = j
    · subst e; simp [rowG_size, h]
    · rw [Array.getElem?_setIfInBounds, if_neg (fun q => e q.symm), rowG_at _ _ hi, if_neg e]
  · rw [Array.getElem?_eq_none (by simp [rowG_size]; omega), Array.getElem?_eq_none (by simp [rowG_size]; omega)]
theorem zero63 : (Try.prog.info? 41).map (fun i => (i.zero, i.size)) = some (some (.agg (Array.replicate 16 (.int .i64 0))), 16) := by kernel_rfl
theorem rowG_zero : Array.replicate 16 (.int .i64 0) = rowG (fun _ => 0) := by
  apply Array.ext_getElem?
  intro i
  by_cases hi : i < 16
  · rw [rowG_at _ _ hi]; simp [hi]
  · rw [Array.getElem?_eq_none (by simp; omega), Array.getElem?_eq_none (by simp [rowG_size]; omega)]
/-- A row of numbers, as a function. -/
def fnL (l : List Int) (j : Nat) : Int := l.getD j 0
theorem rowG_list {l : List Int} (h : l.length = 16) : rowG (fnL l) = (l.map (Value.int .i64)).toArray := by
  apply Array.ext_getElem?
  intro i
  by_cases hi : i < 16
  · rw [rowG_at _ _ hi]
    simp [fnL, List.getD_eq_getElem?_getD, hi, h]
  · rw [Array.getElem?_eq_none (by simp [rowG_size]; omega), Array.getElem?_eq_none (by simp [h]; omega)]
section
variable {w w' : World} {base q m : Nat} {x0 x1 x2 x3 sv : Value} {vs : List Value} {S : List (List Int)}
end

theorem fold_at : ∀ (l : List Value) (k : Nat) (cells : Array Value) (i : Nat), ((l.zipIdx k).foldl (fun cs p => cs.setIfInBounds (0 + p.2) p.1) cells)[i]? = if k ≤ i ∧ i < k + l.length ∧ i < cells.size then l[i - k]? else cells[i]?
  | [], k, cells, i => by
    rw [if_neg (by simp; omega)]; rfl
  | x :: r, k, cells, i => by
    rw [List.zipIdx_cons, List.foldl_cons, fold_at r (k + 1) _ i]
    simp only [Array.size_setIfInBounds, List.length_cons, Nat.zero_add]
    by_cases h : i = k
    · subst h
      rw [if_neg (by omega)]
      by_cases h2 : i < cells.size
      · rw [if_pos ⟨by omega, by omega, h2⟩]
        simp [h2]
      · rw [if_neg (by omega), Array.getElem?_eq_none (by simp; omega), Array.getElem?_eq_none (by omega)]
    · have hk : (cells.setIfInBounds k x)[i]? = cells[i]? := by rw [Array.getElem?_setIfInBounds, if_neg (fun e => h e.symm)]
      rw [hk]
      by_cases h2 : k ≤ i ∧ i < k + (r.length + 1) ∧ i < cells.size
      · rw [if_pos h2, if_pos (show k + 1 ≤ i ∧ i < k + 1 + r.length ∧ i < cells.size from ⟨by omega, by omega, by omega⟩)]
        rw [show i - k = (i - (k + 1)) + 1 by omega]
        simp
      · rw [if_neg h2, if_neg (by omega)]
theorem fold_all (c cells : Array Value) (h : c.size = cells.size) : c.zipIdx.foldl (fun cs p => cs.setIfInBounds (0 + p.2) p.1) cells = c := by
  apply Array.ext_getElem?
  intro i
  rw [← Array.foldl_toList, Array.toList_zipIdx, fold_at]
  by_cases hi : i < c.size
  · rw [if_pos ⟨by omega, by simpa using hi, by omega⟩]
    simp
  · rw [if_neg (by simp; omega), Array.getElem?_eq_none (by omega), Array.getElem?_eq_none (by omega)]
theorem build25 (c : Array Value) (hc : c.size = 16) (w : World) : (Instr.buildSlice 22 1 #[(0, .agg c)]).run Try.prog w = .ok (.slice (some ⟨w.heap.size, 0, none⟩) 1 1) (w.alloc (.cells c 41)) := by
  obtain ⟨hv63, hi63⟩ := zero_of_info zero63
  have hs : ∀ w, (sizeOf 41).run Try.prog w = .ok 16 w := by
    intro w
    cases hq : Try.prog.info? 41 with
    | none => simp [hq] at hi63
    | some i => simp [hq] at hi63; simp [sizeOf, typeInfo, hq, hi63]
  have e := fold_all c ((Array.range (1 * 16)).map (fun x => (Array.replicate 16 (Value.int IntKind.i64 0))[x % (Array.replicate 16 (Value.int IntKind.i64 0)).size]!)) (by simp [hc])
  simp only [Instr.buildSlice, Sem.run_bind, run_underlying Try.underlying22, Result.andThen_ok, hs, Value.cells]
  rw [if_neg (by omega), if_neg (by omega)]
  simp only [Sem.run_bind, Sem.run_pure, hv63, Result.andThen_ok, Value.cells, Instr.fill, Nat.zero_mul, e, hc]
  rw [if_neg (by simp)]
  simp [newRow]
def isBlk : Value → Bool
  | .agg c => decide (c.size = 16)
  | _ => false
theorem isBlk_agg (c : Array Value) : isBlk (.agg c) = decide (c.size = 16) := rfl
theorem cells_agg (c : Array Value) : (Value.agg c).cells = c := rfl
theorem wp_build25 (o : Oper) (d : Tmp) (x : Operand) (hop : o.op = Op.buildSlice 22 1 #[(0, x)]) (hd : o.dst = some d) (a : Act) (w : World) (K : Act → World → Prop) (Q : Exit → Act → World → Prop) (hc : isBlk (a.eval x) = true) :
    Oper.wp Try.prog o a w K Q = K (a.put (some d) (.slice (some ⟨w.heap.size, 0, none⟩) 1 1)) (w.alloc (.cells (a.eval x).cells 41)) := by
  cases hx : a.eval x <;> rw [hx] at hc <;> simp [isBlk] at hc
  unfold Oper.wp execOp
  simp only [hop, hx, List.map_toArray, List.map_cons, List.map_nil, Sem.run_bind, build25 _ hc, Result.andThen_ok, Sem.run_pure, Value.cells]
  rw [Oper.upon_value, hd]
theorem wp_build25s {d : Tmp} {x : Operand} {t : TypeId} {p : String} {af : Array Edge} {g : Option (Nat × Bool)} {a : Act} {w : World} {K : Act → World → Prop} {Q : Exit → Act → World → Prop} (hc : isBlk (a.eval x) = true) :
    Oper.wp Try.prog { dst := some d, op := Op.buildSlice 22 1 #[(0, x)], type := t, pos := p, after := af, guard := g } a w K Q = K (a.put (some d) (.slice (some ⟨w.heap.size, 0, none⟩) 1 1)) (w.alloc (.cells (a.eval x).cells 41)) := wp_build25 _ d x rfl rfl a w K Q hc

/-- Rows of numbers, cell by cell. -/
def cI (x : List Int) : List Value := x.map (Value.int .i64)
theorem cI_len (x : List Int) : (cI x).length = x.length := by simp [cI]
def cellsR (l : List (List Int)) : List Value := l.flatMap cI
theorem cellsR_app (a b : List (List Int)) : cellsR (a ++ b) = cellsR a ++ cellsR b := by simp [cellsR]
theorem cellsR_at : ∀ (l : List (List Int)) (_ : ∀ x ∈ l, x.length = 16) (i j : Nat) (x : List Int) (_ : l[i]? = some x) (u : Value), (cI x)[j]? = some u → (cellsR l)[i * 16 + j]? = some u
  | [], _, i, j, x, h, u, _ => by simp at h
  | y :: r, hl, i, j, x, h, u, hu => by
    have e : cellsR (y :: r) = cI y ++ cellsR r := by simp [cellsR]
    have hy := hl y (by simp)
    have hj : j < 16 := by
      have := (List.getElem?_eq_some_iff.1 hu).1
      rw [cI_len, hl x (List.mem_of_getElem? h)] at this; exact this
    rw [e]
    cases i with
    | zero =>
      have : y = x := by simpa using h
      subst this
      rw [List.getElem?_append_left (by rw [cI_len]; omega), Nat.zero_mul, Nat.zero_add]; exact hu
    | succ i =>
      rw [List.getElem?_append_right (by rw [cI_len]; omega), cI_len, hy, show (i + 1) * 16 + j - 16 = i * 16 + j by omega]
      exact cellsR_at r (fun x hx => hl x (by simp [hx])) i j x (by simpa using h) u hu
/-- Rows of 16 numbers at a slice. -/
def Dr (w : World) (a : Option Addr) (nx : List (List Int)) : Prop := ∀ (i : Nat) (row : List Int), nx[i]? = some row → row.length = 16 ∧ ∃ b off, a = some ⟨b, off, none⟩ ∧ w.rangeAt b (off + i * 16) (cI row)
theorem dr_below {w w' : World} {a : Option Addr} {nx : List (List Int)} (hb : Below w.heap.size w w') (h : Dr w a nx) : Dr w' a nx := fun i row hr => by
  obtain ⟨h1, b, off, e, h2⟩ := h i row hr
  exact ⟨h1, b, off, e, fun j v hj => (hb.cell (p := ⟨b, off + i * 16 + j, none⟩) (cell_lt (h2 j v hj))).trans (h2 j v hj)⟩
theorem own_dr {w : World} {base n : Nat} {v : Value} {nx : List (List Int)} (h : w.ownsRow base 41 16 v n (cellsR nx)) (hl : ∀ x ∈ nx, x.length = 16) : ∃ a c, v = .slice a n c ∧ (n = nx.length → Dr w a nx) := by
  rcases h.2 with ⟨rfl, h0⟩ | ⟨g, cap, cur, rfl, _, hg, _, _, hs, ht⟩
  · refine ⟨none, 0, by rw [h0], fun e i row hr => ?_⟩
    have := (List.getElem?_eq_some_iff.1 hr).1
    omega
  · refine ⟨_, _, rfl, fun _ i row hr => ⟨hl row (List.mem_of_getElem? hr), g, 0, rfl, fun j u hu => ?_⟩⟩
    have := cellsR_at nx hl i j row hr u hu
    rw [← ht, List.getElem?_take] at this
    split at this
    · rw [cell_of_row _ _ _ _ _ _ hg, Nat.zero_add]; simpa using this
    · cases this

theorem d_cells {w : World} {q : Nat} {v0 v1 : Value} (h : w.heap[q]? = some (.cells #[v0, v1] 25 (0, 0))) : w.cell? ⟨q, 0, none⟩ = some v0 ∧ w.cell? ⟨q, 1, none⟩ = some v1 ∧ (∀ i, w.frozen? ⟨q, i, none⟩ = false) := by
  refine ⟨?_, ?_, fun i => ?_⟩
  · rw [cell_of_row _ _ _ _ _ _ h]; rfl
  · rw [cell_of_row _ _ _ _ _ _ h]; rfl
  · simp [World.frozen?, h]
section
variable {w w' : World} {base q m d : Nat} {x0 x1 x2 x3 sv nv rv : Value} {vs : List Value} {S nx : List (List Int)} {ru : List Int}
end
theorem nil2 (w : World) : (w.alloc (.cells #[.slice none 0 0, .slice none 0 0] 25)).heap[w.heap.size]? = some (.cells #[.slice none 0 0, .slice none 0 0] 25 (0, 0)) := heap_alloc_last w _
theorem set2 {w : World} {g : Nat} {x y c0 c1 : Value} (h : w.heap[g]? = some (.cells #[c0, c1] 25 (0, 0))) : ((w.setCell ⟨g, 0, none⟩ x).setCell ⟨g, 1, none⟩ y).heap[g]? = some (.cells #[x, y] 25 (0, 0)) := by
  have h1 := blk_set h 0 x
  have h2 := blk_set h1 1 y
  rw [h2]; rfl
theorem below_set2 {B : Nat} {w w' : World} {g : Nat} {x y : Value} (h : Below B w w') (hg : B ≤ g) : Below B w ((w'.setCell ⟨g, 0, none⟩ x).setCell ⟨g, 1, none⟩ y) := (h.setCell (by simpa using hg) x).setCell (by simpa using hg) y
theorem cell_alloc {w : World} {a : Addr} {v : Value} (h : w.cell? a = some v) (o : Obj) : (w.alloc o).cell? a = some v := (World.cell?_of_block (Below.heap_alloc w o a.block (cell_lt h))).trans h
theorem own_form {w : World} {base n size : Nat} {e : TypeId} {v : Value} {xs : List Value} (h : w.ownsRow base e size v n xs) : ∃ x c, v = .slice x n c := by
  rcases h.2 with ⟨rfl, rfl⟩ | ⟨g, cap, cur, rfl, _⟩
  · exact ⟨_, _, rfl⟩
  · exact ⟨_, _, rfl⟩
attribute [local go_sem ↓] wp_build25s
attribute [local go_sem] isBlk_agg cells_agg
/-- One step. -/
def stepF (nx : List (List Int)) (a c : Int) : Int := if 0 ≤ a ∧ 0 ≤ c ∧ c < 16 then (nx.getD a.toNat []).getD c.toNat 0 else -1
/-- Where the machine is behind k letters. -/
def runF (nx : List (List Int)) (word : List Int) : Nat → Int
  | 0 => 0
  | k + 1 => stepF nx (runF nx word k) (word.getD k 0)
/-- The last place of a rule's end, and that rule, of the first k places. -/
def lgF (nx : List (List Int)) (ru word : List Int) (from_ : Int) : Nat → Int × Int
  | 0 => (-1, -1)
  | k + 1 => if 0 ≤ runF nx word (k + 1) ∧ ru.getD (runF nx word (k + 1)).toNat 0 ≠ -1 then (from_ + (k : Int) + 1, ru.getD (runF nx word (k + 1)).toNat 0) else lgF nx ru word from_ k
/-- May a row be? -/
def okRow (n : Nat) (row : List Int) : Bool := row.all fun z => decide (-1 ≤ z) && decide (z < (n : Int))
def okRule (r : Int) : Bool := decide (-1 ≤ r) && decide (r ≤ 15)
/-- May a machine be? -/
def rightD (nx : List (List Int)) (ru : List Int) : Bool := decide (1 ≤ nx.length) && (decide (nx.length ≤ 200) && (decide (ru.length = nx.length) && ((List.range nx.length).all fun i => okRule (ru.getD i 0) && okRow nx.length (nx.getD i []))))
theorem right_open {nx : List (List Int)} {ru : List Int} (h : rightD nx ru = true) : 1 ≤ nx.length ∧ nx.length ≤ 200 ∧ ru.length = nx.length ∧ (∀ (i : Nat) (r : Int), ru[i]? = some r → -1 ≤ r ∧ r ≤ 15) ∧ ∀ (i : Nat) (row : List Int), nx[i]? = some row → ∀ z ∈ row, -1 ≤ z ∧ z < (nx.length : Int) := by
  unfold rightD at h
  simp only [Bool.and_eq_true, decide_eq_true_eq, List.all_eq_true, List.mem_range] at h
  obtain ⟨h1, h2, h3, h4⟩ := h
  refine ⟨h1, h2, h3, fun i r hr => ?_, fun i row hr z hz => ?_⟩
  · have := (h4 i (by rw [← h3]; exact (List.getElem?_eq_some_iff.1 hr).1)).1
    unfold okRule at this
    rw [List.getD_eq_getElem?_getD, hr, Bool.and_eq_true, decide_eq_true_eq, decide_eq_true_eq] at this
    exact this
  · have := (h4 i (List.getElem?_eq_some_iff.1 hr).1).2
    unfold okRow at this
    rw [List.getD_eq_getElem?_getD, hr, Option.getD_some, List.all_eq_true] at this
    simpa using this z hz
theorem right_mk {nx : List (List Int)} {ru : List Int} (h1 : 1 ≤ nx.length) (h2 : nx.length ≤ 200) (h3 : ru.length = nx.length) (h4 : ∀ (i : Nat) (r : Int), ru[i]? = some r → -1 ≤ r ∧ r ≤ 15) (h5 : ∀ (i : Nat) (row : List Int), nx[i]? = some row → ∀ z ∈ row, -1 ≤ z ∧ z < (nx.length : Int)) : rightD nx ru = true := by
  unfold rightD
  simp only [Bool.and_eq_true, decide_eq_true_eq, List.all_eq_true, List.mem_range]
  refine ⟨h1, h2, h3, fun i hi => ⟨?_, ?_⟩⟩
  · have e : ru[i]? = some ru[i] := List.getElem?_eq_getElem (by omega)
    have := h4 i _ e
    unfold okRule
    rw [List.getD_eq_getElem?_getD, e, Bool.and_eq_true, decide_eq_true_eq, decide_eq_true_eq]
    exact this
  · have e : nx[i]? = some nx[i] := List.getElem?_eq_getElem hi
    unfold okRow
    rw [List.getD_eq_getElem?_getD, e, Option.getD_some, List.all_eq_true]
    intro z hz
    have := h5 i _ e z hz
    simp; omega
/-- A machine's step stays within it. -/
theorem step_rng {nx : List (List Int)} {ru : List Int} (h : rightD nx ru = true) (h16 : ∀ x ∈ nx, x.length = 16) (a c : Int) (ha : a < (nx.length : Int)) : -1 ≤ stepF nx a c ∧ stepF nx a c < (nx.length : Int) := by
  obtain ⟨h1, _, _, _, h5⟩ := right_open h
  unfold stepF
  split
  · rename_i hc
    have e : nx[a.toNat]? = some (nx[a.toNat]'(by omega)) := List.getElem?_eq_getElem _
    have hl := h16 _ (List.mem_of_getElem? e)
    rw [show nx.getD a.toNat [] = nx[a.toNat]'(by omega) from by rw [List.getD_eq_getElem?_getD, e]; rfl]
    have e2 : (nx[a.toNat]'(by omega))[c.toNat]? = some ((nx[a.toNat]'(by omega))[c.toNat]'(by omega)) := List.getElem?_eq_getElem _
    rw [List.getD_eq_getElem?_getD, e2, Option.getD_some]
    exact h5 _ _ e _ (List.mem_of_getElem? e2)
  · omega
theorem run_rng {nx : List (List Int)} {ru : List Int} (h : rightD nx ru = true) (h16 : ∀ x ∈ nx, x.length = 16) (word : List Int) : ∀ k, -1 ≤ runF nx word k ∧ runF nx word k < (nx.length : Int)
  | 0 => by obtain ⟨h1, _⟩ := right_open h; unfold runF; omega
  | k + 1 => step_rng h h16 _ _ (run_rng h h16 word k).2
theorem run_dead {nx : List (List Int)} {word : List Int} {k : Nat} (h : runF nx word k < 0) : ∀ m, runF nx word (k + m + 1) = -1
  | 0 => by show stepF nx (runF nx word k) _ = -1; unfold stepF; rw [if_neg (by omega)]
  | m + 1 => by
    have := run_dead h m
    show stepF nx (runF nx word (k + m + 1)) _ = -1
    unfold stepF; rw [if_neg (by omega)]
theorem run_dead' {nx : List (List Int)} {word : List Int} {k m : Nat} (h : runF nx word k = -1) (hm : k ≤ m) : runF nx word m = -1 := by
  by_cases e : m = k
  · subst e; exact h
  · have := run_dead (word := word) (k := k) (nx := nx) (by omega) (m - k - 1)
    rw [show k + (m - k - 1) + 1 = m by omega] at this
    exact this
theorem lg_dead {nx : List (List Int)} {ru word : List Int} {f : Int} {k : Nat} (h : runF nx word k = -1) : ∀ m, k ≤ m + 1 → ∀ j, lgF nx ru word f (m + j) = lgF nx ru word f m
  | m, hm, 0 => rfl
  | m, hm, j + 1 => by
    show (if 0 ≤ runF nx word (m + j + 1) ∧ _ then _ else lgF nx ru word f (m + j)) = _
    rw [if_neg (fun e => by have := run_dead' (nx := nx) (word := word) h (show k ≤ m + j + 1 by omega); omega), lg_dead h m hm j]
theorem step_out {nx : List (List Int)} {a c : Int} (h : ¬ (0 ≤ c ∧ c < 16)) : stepF nx a c = -1 := by
  unfold stepF; rw [if_neg (fun e => h e.2)]
theorem dstep_in {nx : List (List Int)} {i j : Nat} {row : List Int} {z : Int} (hr : nx[i]? = some row) (hz : row[j]? = some z) (hj : j < 16) : stepF nx i j = z := by
  unfold stepF
  rw [if_pos ⟨by omega, by omega, by omega⟩, show ((i : Nat) : Int).toNat = i by omega, show ((j : Nat) : Int).toNat = j by omega, List.getD_eq_getElem?_getD, List.getD_eq_getElem?_getD, hr, Option.getD_some, hz, Option.getD_some]

theorem dtwo_new (w : World) (x y : Value) : (w.alloc (.cells #[x, y] 25)).cell? ⟨w.heap.size, 0, none⟩ = some x ∧ (w.alloc (.cells #[x, y] 25)).cell? ⟨w.heap.size, 1, none⟩ = some y := by
  have h := d_cells (heap_alloc_last w (.cells #[x, y] 25))
  exact ⟨h.1, h.2.1⟩
theorem dr_cell {w : World} {a : Option Addr} {nx : List (List Int)} (h : Dr w a nx) {i j : Nat} {row : List Int} {z : Int} (hr : nx[i]? = some row) (hz : row[j]? = some z) : ∃ b off, a = some ⟨b, off, none⟩ ∧ w.cell? ⟨b, off + i * 16 + j, none⟩ = some (.int .i64 z) := by
  obtain ⟨_, b, off, e, h2⟩ := h i row hr
  exact ⟨b, off, e, h2 j _ (by simp [cI, hz])⟩

set_option maxRecDepth 100000 in
set_option maxHeartbeats 1600000 in
theorem dstep_any (a0 : Option Addr) (n0 c0 : Nat) (x1 : Value) (nx : List (List Int)) (st : Nat) (c : Int) (w : World) (hn : nx.length = n0) (hD : Dr w a0 nx) (hs : st < n0) :
    Calls Try.prog 29 #[.agg #[.slice a0 n0 c0, x1], .int .i64 st, .int .i64 c] w fun e w' => e = .returned (.int .i64 (stepF nx st c)) ∧ Below w.heap.size w w' := by
  obtain ⟨p0, p1⟩ := dtwo_new w (.slice a0 n0 c0) x1
  have hb0 := (Below.refl w.heap.size w).alloc (Nat.le_refl _) (.cells #[.slice a0 n0 c0, x1] 25)
  have HB0 := hide hb0
  have HD := hide (dr_below hb0 hD)
  have HN := hide hn
  clear hb0 hD hn
  by_cases cc : ¬ (0 ≤ c ∧ c < 16)
  · have HE := hide (step_out (nx := nx) (a := st) cc)
    by_cases c0' : c < 0
    · have y0 : decide (c < 0) = true := by simp [c0']
      go_enter Try.func29, Try.ntmps29
      go_wp2
      go_ret
      exact ⟨by rw [HE.out]; rfl, HB0.out⟩
    · have y0 : decide (c < 0) = false := by simp; omega
      have y1 : decide (16 ≤ c) = true := by simp; omega
      go_enter Try.func29, Try.ntmps29
      go_wp2
      go_ret
      exact ⟨by rw [HE.out]; rfl, HB0.out⟩
  obtain ⟨j, rfl⟩ : ∃ j : Nat, c = j := ⟨c.toNat, by omega⟩
  have hj : j < 16 := by omega
  have y0 : decide ((j : Int) < 0) = false := decide_eq_false (by omega)
  have y1 : decide ((16 : Int) ≤ (j : Int)) = false := decide_eq_false (by omega)
  obtain ⟨row, hr⟩ : ∃ row, nx[st]? = some row := ⟨_, List.getElem?_eq_getElem (by rw [HN.out]; exact hs)⟩
  have hl := (HD.out st row hr).1
  obtain ⟨z, hz⟩ : ∃ z, row[j]? = some z := ⟨_, List.getElem?_eq_getElem (by omega)⟩
  obtain ⟨b, off, rfl, k0⟩ := dr_cell HD.out hr hz
  have HE := hide (dstep_in hr hz hj)
  have i3 : (0 : Int) ≤ (st : Int) := by omega
  have i4 : (st : Int) < (n0 : Int) := by omega
  have i5 : (0 : Int) ≤ (j : Int) := by omega
  have i6 : (j : Int) < 16 := by omega
  clear cc hr hz hl
  go_enter Try.func29, Try.ntmps29
  go_wp2
  go_ret
  exact ⟨by rw [HE.out]; rfl, HB0.out⟩
/-- 16 cells at a pointer. -/
def rowM (w : World) : Value → List Value
  | .pointer (some ⟨b, o, none⟩) => (List.range 16).map fun (j : Nat) => (w.cell? ⟨b, o + j, none⟩).getD undef
  | _ => []
def rowMok (w : World) : Value → Bool
  | .pointer (some ⟨b, o, none⟩) => (List.range 16).all fun (j : Nat) => (w.cell? ⟨b, o + j, none⟩).isSome
  | _ => false
theorem rowM_drew (w : World) (v : Value) : rowM w.drew v = rowM w v := rfl
theorem rowMok_drew (w : World) (v : Value) : rowMok w.drew v = rowMok w v := rfl
theorem rowM_at {w : World} {b o : Nat} {cs : List Value} (h : w.rangeAt b o cs) (hl : cs.length = 16) : rowM w (.pointer (some ⟨b, o, none⟩)) = cs ∧ rowMok w (.pointer (some ⟨b, o, none⟩)) = true := by
  have hc : ∀ j, (hj : j < 16) → w.cell? ⟨b, o + j, none⟩ = some (cs[j]'(by omega)) := fun j hj => h j _ (List.getElem?_eq_getElem (by omega))
  constructor
  · apply List.ext_getElem
    · simp [rowM, hl]
    · intro j h1 h2
      simp only [rowM, List.getElem_map, List.getElem_range]
      rw [hc j (by omega)]; rfl
  · simp only [rowMok, List.all_eq_true, List.mem_range]
    intro j hj
    rw [hc j hj]; rfl
theorem wp_load63s {d : Tmp} {x : Operand} {t : TypeId} {p : String} {af : Array Edge} {g : Option (Nat × Bool)} {a : Act} {w : World} {K : Act → World → Prop} {Q : Exit → Act → World → Prop} (hc : rowMok w (a.eval x) = true) :
    Oper.wp Try.prog { dst := some d, op := Op.load 41 x, type := t, pos := p, after := af, guard := g } a w K Q = K (a.put (some d) (.agg (rowM w (a.eval x)).toArray)) w := by
  obtain ⟨_, hi63⟩ := zero_of_info zero63
  unfold rowMok at hc
  split at hc
  · rename_i b o hx
    have hl : (rowM w (.pointer (some ⟨b, o, none⟩))).length = 16 := by simp [rowM]
    have hr : w.rangeAt b o (rowM w (.pointer (some ⟨b, o, none⟩))) := fun j v hj => by
      have hj2 : j < 16 := by have := (List.getElem?_eq_some_iff.1 hj).1; omega
      have hs := List.all_eq_true.1 hc j (by simpa using hj2)
      simp only [rowM, List.getElem?_map, List.getElem?_range hj2, Option.map_some, Option.some.injEq] at hj
      obtain ⟨u, hu⟩ := Option.isSome_iff_exists.1 hs
      rw [hu] at hj ⊢
      rw [← hj]; rfl
    have hrun := run_loadAt_mid (P := Try.prog) w b o 41 _ _ hr Try.underlying41 rfl (by rw [hl]; exact hi63)
    unfold Oper.wp execOp
    simp only [hx, Sem.run_bind, hrun, Result.andThen_ok, Sem.run_pure]
    rw [Oper.upon_value]
  · cases hc
theorem cI_one (row : List Int) : (cI row).toArray.all (·.oneCell') = true := by
  rw [Array.all_eq_true_iff_forall_mem]
  intro v hv
  simp only [cI, List.mem_toArray, List.mem_map] at hv
  obtain ⟨z, _, rfl⟩ := hv
  rfl
theorem right_stop {nx : List (List Int)} {ru : List Int} {i : Nat} {row : List Int} {r : Int} (hr : nx[i]? = some row) (hu : ru[i]? = some r) (h : (okRule r && okRow nx.length row) = false) : rightD nx ru = false := by
  rw [Bool.eq_false_iff]
  intro hd
  have hi := (List.getElem?_eq_some_iff.1 hr).1
  unfold rightD at hd
  simp only [Bool.and_eq_true, decide_eq_true_eq, List.all_eq_true, List.mem_range] at hd
  have h4 := hd.2.2.2 i hi
  rw [List.getD_eq_getElem?_getD, List.getD_eq_getElem?_getD, hr, hu, Option.getD_some, Option.getD_some, ← Bool.and_eq_true, h] at h4
  cases h4
theorem row_bad {n : Nat} {row : List Int} {z : Int} {j : Nat} (hz : row[j]? = some z) (h : z < -1 ∨ (n : Int) ≤ z) : okRow n row = false := by
  unfold okRow
  rw [List.all_eq_false]
  exact ⟨z, List.mem_of_getElem? hz, by simp; omega⟩

theorem run_index63 (w : World) (cs : List Value) (j : Nat) (z : Int) (hj : j < 16) (h : cs[j]? = some (.int .i64 z)) : (Instr.index 41 (.agg cs.toArray) (.int .i64 (j : Int))).run Try.prog w = .ok (.int .i64 z) w := by
  have h1 : (0 : Int) ≤ (j : Int) ∧ (j : Int) < ((16 : Nat) : Int) := ⟨by omega, by omega⟩
  have h2 : (sizeOf 3).run Try.prog w = .ok 1 w := by kernel_rfl
  simp [Instr.index, run_underlying Try.underlying41, asIntOf, h1, h2, part, h, hj]
attribute [local go_sem ↓] wp_load63s
set_option maxRecDepth 100000 in
set_option maxHeartbeats 3200000 in
theorem dright_any (a0 a1 : Option Addr) (n0 n1 c0 c1 : Nat) (nx : List (List Int)) (ru : List Int) (w : World) (h0 : nx.length = n0) (h1 : ru.length = n1) (hD : Dr w a0 nx) (hR : Wd w a1 ru) (hl0 : n0 ≤ maxLen) (hl1 : n1 ≤ maxLen) :
    Calls Try.prog 19 #[.agg #[.slice a0 n0 c0, .slice a1 n1 c1]] w fun e w' => e = .returned (.bool (rightD nx ru)) ∧ Below w.heap.size w w' := by
  obtain ⟨hv63, hi63⟩ := zero_of_info zero63
  rw [rowG_zero] at hv63
  have HX := hide (dtwo_new w (.slice a0 n0 c0) (.slice a1 n1 c1))
  have hb0 := (Below.refl w.heap.size w).alloc (Nat.le_refl _) (.cells #[.slice a0 n0 c0, .slice a1 n1 c1] 25)
  have HB0 := hide hb0
  have HD := hide (dr_below hb0 hD)
  have HR := hide (wd_below hb0 hR)
  have H0 := hide h0
  have H1 := hide h1
  have HI := hide hi63
  have HZ := hide (show w.heap.size < (w.alloc (.cells #[.slice a0 n0 c0, .slice a1 n1 c1] 25)).heap.size by simp)
  obtain ⟨p0, p1⟩ := HX.out
  unfold maxLen at hl0 hl1
  clear hb0 hD hR h0 h1 hi63
  by_cases g0 : n0 < 1
  · have HE := hide (show rightD nx ru = false by unfold rightD; rw [show decide (1 ≤ nx.length) = false by rw [H0.out]; exact decide_eq_false (by omega)]; rfl)
    have d0 : decide ((n0 : Int) < 1) = true := by simp; omega
    go_enter Try.func19, Try.ntmps19
    go_wp2
    go_ret
    exact ⟨by rw [HE.out]; rfl, HB0.out⟩
  have d0 : decide ((n0 : Int) < 1) = false := by simp; omega
  by_cases g1 : 200 < n0
  · have HE := hide (show rightD nx ru = false by unfold rightD; rw [show decide (nx.length ≤ 200) = false by rw [H0.out]; exact decide_eq_false (by omega)]; simp)
    have d1 : decide ((200 : Int) < (n0 : Int)) = true := by simp; omega
    go_enter Try.func19, Try.ntmps19
    go_wp2
    go_ret
    exact ⟨by rw [HE.out]; rfl, HB0.out⟩
  have d1 : decide ((200 : Int) < (n0 : Int)) = false := by simp; omega
  by_cases g2 : n1 ≠ n0
  · have HE := hide (show rightD nx ru = false by unfold rightD; rw [show decide (ru.length = nx.length) = false by rw [H0.out, H1.out]; exact decide_eq_false g2]; simp)
    have d2 : ((n1 : Int) != (n0 : Int)) = true := by simp; omega
    have d3 : ((n1 : Int) == (n0 : Int)) = false := by simp; omega
    go_enter Try.func19, Try.ntmps19
    go_wp2
    go_ret
    exact ⟨by rw [HE.out]; rfl, HB0.out⟩
  obtain rfl : n1 = n0 := by omega
  go_enter Try.func19, Try.ntmps19
  go_wp2_with fail
  generalize w.alloc (.cells #[.slice a0 n1 c0, .slice a1 n1 c1] 25) = W0 at *
  generalize hB : w.heap.size = B at *
  go_loopw [4, 5, 7, 27, 47] (fun _ _ _ i _ wr => ∃ k : Nat, k ≤ n1 ∧ i = .int .i64 k ∧ (∀ j, j < k → (okRule (ru.getD j 0) && okRow n1 (nx.getD j [])) = true) ∧ Below W0.heap.size W0 wr) (fun _ _ _ i _ _ => n1 - (intOf i).toNat)
  case atStart => exact ⟨0, Nat.zero_le _, rfl, fun j hj => by omega, Below.refl _ _⟩
  case round =>
    obtain ⟨k, hk, rfl, hok, hb⟩ := hrel
    have HOK := hide hok
    have HBW := hide hb
    clear hok hb p0 p1
    by_cases hlt : k < n1
    · obtain ⟨row, hr⟩ : ∃ row, nx[k]? = some row := ⟨_, List.getElem?_eq_getElem (by rw [H0.out]; exact hlt)⟩
      obtain ⟨r, hu⟩ : ∃ r, ru[k]? = some r := ⟨_, List.getElem?_eq_getElem (by rw [H1.out]; exact hlt)⟩
      obtain ⟨hrl, b, off, rfl, hrg⟩ := dr_below HBW.out HD.out k row hr
      obtain ⟨b2, o2, rfl, k2⟩ := wd_below HBW.out HR.out k r hu
      obtain ⟨hrv, hro⟩ := rowM_at hrg (by rw [cI_len]; exact hrl)
      have hp0 : wr.cell? ⟨B, 0, none⟩ = _ := (HBW.out.cell (p := ⟨B, 0, none⟩) HZ.out).trans HX.out.1
      have hp1 : wr.cell? ⟨B, 1, none⟩ = _ := (HBW.out.cell (p := ⟨B, 1, none⟩) HZ.out).trans HX.out.2
      have i3 : (0 : Int) ≤ (k : Int) := by omega
      have i4 : (k : Int) < (n1 : Int) := by omega
      have HHR := hide hr
      have HHU := hide hu
      have HRL := hide hrl
      clear hr hu hrl hrg
      have hsc : (storeCells ⟨wr.heap.size, 0, none⟩ (cI row) 0).run Try.prog (wr.alloc (.cells (rowG fun _ => 0) 41)) = .ok () (wr.alloc (.cells (cI row).toArray 41)) := by
        have := run_storeCells_new (P := Try.prog) wr 41 (rowG fun _ => 0) (cI row).toArray (by have := HRL.out; simp [cI_len, this]; simpa using HI.out) (by have := HRL.out; simp [cI_len, this, rowG_size]) (cI_one _)
        simpa using this
      have hl16 : (cI row).length = 16 := by rw [cI_len]; exact HRL.out
      have hrg2 : (wr.alloc (.cells (cI row).toArray 41)).rangeAt wr.heap.size 0 (cI row) := fun j u hu => by
        rw [Nat.zero_add, cell_of_row _ _ j _ _ _ (heap_alloc_last wr _)]; simpa using hu
      obtain ⟨hrv2, hro2⟩ := rowM_at hrg2 (by rw [cI_len]; exact HRL.out)
      have hq1 : (wr.alloc (.cells (cI row).toArray 41)).cell? ⟨B, 1, none⟩ = _ := (((Below.refl wr.heap.size wr).alloc (Nat.le_refl _) (.cells (cI row).toArray 41)).cell (p := ⟨B, 1, none⟩) (cell_lt hp1)).trans hp1
      have hq2 : (wr.alloc (.cells (cI row).toArray 41)).cell? ⟨b2, o2 + k, none⟩ = _ := (((Below.refl wr.heap.size wr).alloc (Nat.le_refl _) (.cells (cI row).toArray 41)).cell (p := ⟨b2, o2 + k, none⟩) (cell_lt k2)).trans k2
      have HBA := hide (HBW.out.alloc HBW.out.size (.cells (cI row).toArray 41))
      by_cases r0 : r < -1
      · have d2 : decide (r < -1) = true := by simp [r0]
        have HE := hide (right_stop HHR.out HHU.out (by unfold okRule; rw [show decide (-1 ≤ r) = false by simp; omega]; rfl))
        go_wp2
        go_ret
        exact ⟨by rw [HE.out]; rfl, hB ▸ HB0.out.trans (HBA.out.mono (Nat.le_of_lt (hB ▸ HZ.out)))⟩
      have d2 : decide (r < -1) = false := by simp; omega
      by_cases r1 : 16 ≤ r
      · have d3 : decide (16 ≤ r) = true := by simp [r1]
        have HE := hide (right_stop HHR.out HHU.out (by unfold okRule; rw [show decide (r ≤ 15) = false by simp; omega]; simp))
        go_wp2
        go_ret
        exact ⟨by rw [HE.out]; rfl, hB ▸ HB0.out.trans (HBA.out.mono (Nat.le_of_lt (hB ▸ HZ.out)))⟩
      have d3 : decide (16 ≤ r) = false := by simp; omega
      have HOKR := hide (show okRule r = true by unfold okRule; rw [Bool.and_eq_true, decide_eq_true_eq, decide_eq_true_eq]; omega)
      go_wp2_with fail
      clear hsc hrg2 hrv hro hrv2 hro2 hq1 hq2 hp0 hp1 k2 hv63
      generalize wr.alloc (.cells (cI row).toArray 41) = W1 at *
      generalize wr.heap.size = B1 at *
      go_loopw [7, 47] (fun _ i wi => ∃ j : Nat, j ≤ 16 ∧ i = .int .i64 j ∧ (∀ m, m < j → -1 ≤ row.getD m 0 ∧ row.getD m 0 < (n1 : Int)) ∧ wi = W1) (fun _ i _ => 16 - (intOf i).toNat)
      case atStart => exact ⟨0, by omega, rfl, fun m hm => by omega, rfl⟩
      case round =>
        obtain ⟨j, hj, rfl, hin, rfl⟩ := hrel
        have HIN := hide hin
        clear hin
        by_cases hjt : j < 16
        · obtain ⟨z, hz⟩ : ∃ z, row[j]? = some z := ⟨_, List.getElem?_eq_getElem (by rw [HRL.out]; exact hjt)⟩
          have hcz : (cI row)[j]? = some (.int .i64 z) := by simp [cI, hz]
          have hcz2 : (cI row)[j]'(by omega) = .int .i64 z := by
            have := List.getElem?_eq_getElem (l := cI row) (i := j) (by omega)
            rw [hcz] at this; exact (Option.some.inj this).symm
          have hrx := fun w => run_index63 w (cI row) j z hjt hcz
          have i5 : (0 : Int) ≤ (j : Int) := by omega
          have i6 : (j : Int) < 16 := by omega
          by_cases z0 : z < -1
          · have d5 : decide (z < -1) = true := by simp [z0]
            have HE := hide (right_stop HHR.out HHU.out (by rw [row_bad (n := nx.length) hz (.inl z0)]; simp))
            clear hz
            go_wp2
            go_ret
            exact ⟨by rw [HE.out]; rfl, hB ▸ HB0.out.trans (HBA.out.mono (Nat.le_of_lt (hB ▸ HZ.out)))⟩
          have d5 : decide (z < -1) = false := by simp; omega
          by_cases z1 : (n1 : Int) ≤ z
          · have d6 : decide ((n1 : Int) ≤ z) = true := by simp [z1]
            have HE := hide (right_stop HHR.out HHU.out (by rw [row_bad (n := nx.length) hz (.inr (by rw [H0.out]; exact z1))]; simp))
            clear hz
            go_wp2
            go_ret
            exact ⟨by rw [HE.out]; rfl, hB ▸ HB0.out.trans (HBA.out.mono (Nat.le_of_lt (hB ▸ HZ.out)))⟩
          have d6 : decide ((n1 : Int) ≤ z) = false := by simp; omega
          have HZZ := hide hz
          clear hz
          go_wp2
          go_roundw
          case rel => exact ⟨j + 1, by omega, by go_num, fun m hm => by
            by_cases e : m = j
            · subst e; rw [List.getD_eq_getElem?_getD, HZZ.out]; exact ⟨by simp; omega, by simp; omega⟩
            · exact HIN.out m (by omega), trivial⟩
          case measure => simp [intOf]; omega
        · have e : j = 16 := by omega
          subst e
          go_wp2
          refine ⟨⟨k + 1, by omega, by go_num, fun m hm => ?_, HBA.out⟩, ?_⟩
          · by_cases e : m = k
            · subst e
              rw [List.getD_eq_getElem?_getD, List.getD_eq_getElem?_getD, HHU.out, HHR.out, Option.getD_some, Option.getD_some, HOKR.out, Bool.true_and]
              unfold okRow
              rw [List.all_eq_true]
              intro z hz
              obtain ⟨i, hi, e⟩ := List.getElem_of_mem hz
              have := HIN.out i (by rw [HRL.out] at hi; exact hi)
              rw [List.getD_eq_getElem?_getD, List.getElem?_eq_getElem hi, e, Option.getD_some] at this
              simp; omega
            · exact HOK.out m (by omega)
          · simp [intOf]; omega
    · have e : k = n1 := by omega
      subst e
      have HE := hide (show rightD nx ru = true from by
        unfold rightD
        simp only [Bool.and_eq_true, decide_eq_true_eq, List.all_eq_true, List.mem_range]
        exact ⟨by rw [H0.out]; omega, by rw [H0.out]; omega, by rw [H0.out, H1.out], fun i hi => by have := HOK.out i (by rw [H0.out] at hi; exact hi); rw [Bool.and_eq_true] at this; rw [H0.out]; exact this⟩)
      go_wp2
      go_ret
      exact ⟨by rw [HE.out]; rfl, hB ▸ HB0.out.trans (HBW.out.mono (Nat.le_of_lt (hB ▸ HZ.out)))⟩
/-- A machine without free steps in memory. -/
structure Dm (w : World) (a0 a1 : Option Addr) (n0 n1 : Nat) (nx : List (List Int)) (ru : List Int) : Prop where
  l0 : nx.length = n0
  l1 : ru.length = n1
  dr : Dr w a0 nx
  wd : Wd w a1 ru
  m0 : n0 ≤ maxLen
  m1 : n1 ≤ maxLen
theorem dm_below' {w w' : World} {a0 a1 : Option Addr} {n0 n1 : Nat} {nx : List (List Int)} {ru : List Int} (hb : Below w.heap.size w w') (h : Dm w a0 a1 n0 n1 nx ru) : Dm w' a0 a1 n0 n1 nx ru :=
  ⟨h.l0, h.l1, dr_below hb h.dr, wd_below hb h.wd, h.m0, h.m1⟩
theorem dm_len {w : World} {a0 a1 : Option Addr} {n0 n1 : Nat} {nx : List (List Int)} {ru : List Int} (h : Dm w a0 a1 n0 n1 nx ru) : ∀ x ∈ nx, x.length = 16 := fun x hx => by
  obtain ⟨i, hi, e⟩ := List.getElem_of_mem hx
  exact (h.dr i x (by rw [List.getElem?_eq_getElem hi, e])).1
def runR (nx : List (List Int)) (ru word : List Int) : Int := if rightD nx ru = true then runF nx word word.length else -1
def matR (nx : List (List Int)) (ru word : List Int) : Int := if 0 ≤ runR nx ru word then ru.getD (runR nx ru word).toNat 0 else -1

set_option maxRecDepth 100000 in
set_option maxHeartbeats 1600000 in
theorem drun_any (a0 a1 : Option Addr) (n0 n1 c0 c1 : Nat) (nx : List (List Int)) (ru : List Int) (a : Option Addr) (len cap : Nat) (word : List Int) (w : World) (hm : Dm w a0 a1 n0 n1 nx ru) (hz : word.length = len) (hl : len ≤ maxLen) (hW : Wd w a word) :
    Calls Try.prog 30 #[.agg #[.slice a0 n0 c0, .slice a1 n1 c1], .slice a len cap] w fun e w' => e = .returned (.int .i64 (runR nx ru word)) ∧ Below w.heap.size w w' := by
  have HX := hide (dtwo_new w (.slice a0 n0 c0) (.slice a1 n1 c1))
  have hb0 := (Below.refl w.heap.size w).alloc (Nat.le_refl _) (.cells #[.slice a0 n0 c0, .slice a1 n1 c1] 25)
  have HB0 := hide hb0
  have HM := hide (dm_below' hb0 hm)
  have HW := hide (wd_below hb0 hW)
  have HZ := hide hz
  have HZZ := hide (show w.heap.size < (w.alloc (.cells #[.slice a0 n0 c0, .slice a1 n1 c1] 25)).heap.size by simp)
  obtain ⟨p0, p1⟩ := HX.out
  unfold maxLen at hl
  clear hb0 hm hW hz
  go_enter Try.func30, Try.ntmps30
  go_wp2_with fail
  refine (dright_any a0 a1 n0 n1 c0 c1 nx ru _ HM.out.l0 HM.out.l1 HM.out.dr HM.out.wd HM.out.m0 HM.out.m1).mono ?_
  rintro e w1 ⟨rfl, hb1⟩
  have HB1 := hide (HB0.out.trans (hb1.mono HB0.out.size))
  have HM1 := hide (dm_below' hb1 HM.out)
  have HW1 := hide (wd_below hb1 HW.out)
  have HX1 := hide (And.intro ((hb1.cell (p := ⟨w.heap.size, 0, none⟩) HZZ.out).trans HX.out.1) ((hb1.cell (p := ⟨w.heap.size, 1, none⟩) HZZ.out).trans HX.out.2))
  have HP1 := hide (show w.heap.size < w1.heap.size by have := hb1.size; have := HZZ.out; omega)
  clear hb1 p0 p1 HX HM HW
  generalize hB : w.heap.size = B at *
  cases hr : rightD nx ru
  · have HE := hide (show runR nx ru word = -1 by unfold runR; rw [hr]; rfl)
    clear hr
    go_wp2
    go_ret
    exact ⟨by rw [HE.out]; rfl, hB ▸ HB1.out⟩
  · have HE := hide (show runR nx ru word = runF nx word len by unfold runR; rw [if_pos hr, HZ.out])
    have HR := hide hr
    clear hr
    go_wp2_with fail
    go_loopw [5, 7, 13] (fun u _ i wr => ∃ k st : Nat, k ≤ len ∧ i = .int .i64 k ∧ u = .int .i64 st ∧ runF nx word k = st ∧ Below w1.heap.size w1 wr) (fun _ _ i _ => len - (intOf i).toNat)
    case atStart => exact ⟨0, 0, Nat.zero_le _, rfl, rfl, rfl, Below.refl _ _⟩
    case round =>
      obtain ⟨k, st, hk, rfl, rfl, hst, hb⟩ := hrel
      have HST := hide hst
      have HBW := hide hb
      have hsr : (st : Int) < (nx.length : Int) := by rw [← hst]; exact (run_rng HR.out (dm_len HM1.out) word k).2
      have HSR := hide (show st < n0 by rw [← HM1.out.l0]; omega)
      clear hst hsr hb
      by_cases hlt : k < len
      · obtain ⟨c, hc⟩ : ∃ c, word[k]? = some c := ⟨_, List.getElem?_eq_getElem (by rw [HZ.out]; exact hlt)⟩
        obtain ⟨b, off, rfl, k0⟩ := wd_below HBW.out HW1.out k c hc
        have p0 := (HBW.out.cell (p := ⟨B, 0, none⟩) HP1.out).trans HX1.out.1
        have p1 := (HBW.out.cell (p := ⟨B, 1, none⟩) HP1.out).trans HX1.out.2
        have HNX := hide (show runF nx word (k + 1) = stepF nx st c by show stepF nx (runF nx word k) (word.getD k 0) = _; rw [HST.out, List.getD_eq_getElem?_getD, hc]; rfl)
        have i3 : (0 : Int) ≤ (k : Int) := by omega
        have i4 : (k : Int) < (len : Int) := by omega
        clear hc
        go_wp2_with fail
        refine (dstep_any a0 n0 c0 _ nx st c wr HM1.out.l0 (dm_below' HBW.out HM1.out).dr HSR.out).mono ?_
        rintro e w2 ⟨rfl, hb2⟩
        have HB2 := hide (HBW.out.trans (hb2.mono HBW.out.size))
        have hrg := run_rng HR.out (dm_len HM1.out) word (k + 1)
        rw [HNX.out] at hrg
        clear hb2 p0 p1 k0
        by_cases hdead : stepF nx st c = -1
        · have hE2 : runF nx word len = -1 := run_dead' (by rw [HNX.out]; exact hdead) (show k + 1 ≤ len by omega)
          have HE2 := hide hE2
          rw [hdead]
          clear hE2 hdead hrg
          go_wp2
          go_ret
          exact ⟨by rw [HE.out, HE2.out]; rfl, hB ▸ HB1.out.trans (HB2.out.mono (Nat.le_of_lt HP1.out))⟩
        · obtain ⟨s2, hs2⟩ : ∃ s2 : Nat, stepF nx st c = s2 := ⟨(stepF nx st c).toNat, by omega⟩
          rw [hs2] at hdead ⊢
          have HN2 := hide (HNX.out.trans hs2)
          have d5 : ((s2 : Int) == -1) = false := by simp
          clear hs2 hdead hrg
          go_wp2
          go_roundw
          case rel => exact ⟨k + 1, s2, by omega, by go_num, rfl, HN2.out, HB2.out⟩
          case measure => simp [intOf]; omega
      · have e : k = len := by omega
        subst e
        go_wp2
        go_ret
        exact ⟨by rw [HE.out, HST.out]; rfl, hB ▸ HB1.out.trans (HBW.out.mono (Nat.le_of_lt HP1.out))⟩

set_option maxRecDepth 100000 in
set_option maxHeartbeats 1600000 in
theorem dmatch_any (a0 a1 : Option Addr) (n0 n1 c0 c1 : Nat) (nx : List (List Int)) (ru : List Int) (a : Option Addr) (len cap : Nat) (word : List Int) (w : World) (hm : Dm w a0 a1 n0 n1 nx ru) (hz : word.length = len) (hl : len ≤ maxLen) (hW : Wd w a word) :
    Calls Try.prog 21 #[.agg #[.slice a0 n0 c0, .slice a1 n1 c1], .slice a len cap] w fun e w' => e = .returned (.int .i64 (matR nx ru word)) ∧ Below w.heap.size w w' := by
  have HX := hide (dtwo_new w (.slice a0 n0 c0) (.slice a1 n1 c1))
  have hb0 := (Below.refl w.heap.size w).alloc (Nat.le_refl _) (.cells #[.slice a0 n0 c0, .slice a1 n1 c1] 25)
  have HB0 := hide hb0
  have HM := hide (dm_below' hb0 hm)
  have HZZ := hide (show w.heap.size < (w.alloc (.cells #[.slice a0 n0 c0, .slice a1 n1 c1] 25)).heap.size by simp)
  have HRUN := hide (drun_any a0 a1 n0 n1 c0 c1 nx ru a len cap word _ HM.out hz hl (wd_below hb0 hW))
  obtain ⟨p0, p1⟩ := HX.out
  clear hb0 hm hW hz hl
  go_enter Try.func21, Try.ntmps21
  go_wp2_with fail
  refine HRUN.out.mono ?_
  rintro e w1 ⟨rfl, hb1⟩
  have HB1 := hide (HB0.out.trans (hb1.mono HB0.out.size))
  have HM1 := hide (dm_below' hb1 HM.out)
  have p3 := (hb1.cell (p := ⟨w.heap.size, 1, none⟩) HZZ.out).trans HX.out.2
  have hrng : runR nx ru word = -1 ∨ (rightD nx ru = true ∧ -1 ≤ runR nx ru word ∧ runR nx ru word < (nx.length : Int)) := by
    by_cases h : rightD nx ru = true
    · right
      unfold runR
      rw [if_pos h]
      exact ⟨h, run_rng h (dm_len HM.out) word _⟩
    · left; unfold runR; rw [if_neg h]
  clear hb1 p0 p1 HRUN
  by_cases hd : runR nx ru word = -1
  · have HE := hide (show matR nx ru word = -1 by unfold matR; rw [hd]; rfl)
    rw [hd]
    clear hd hrng
    go_wp2
    go_ret
    exact ⟨by rw [HE.out]; rfl, HB1.out⟩
  · obtain ⟨hrt, h1, h2⟩ := hrng.resolve_left hd
    obtain ⟨st, hst⟩ : ∃ st : Nat, runR nx ru word = st := ⟨(runR nx ru word).toNat, by omega⟩
    have hru := (right_open hrt).2.2.1
    have hl1 := HM1.out.l1
    obtain ⟨r, hr⟩ : ∃ r, ru[st]? = some r := ⟨_, List.getElem?_eq_getElem (by omega)⟩
    obtain ⟨b, off, rfl, k0⟩ := HM1.out.wd st r hr
    have HE := hide (show matR nx ru word = r by
      unfold matR
      rw [if_pos (by omega), hst, show ((st : Nat) : Int).toNat = st by omega, List.getD_eq_getElem?_getD, hr]; rfl)
    rw [hst]
    have d5 : ((st : Int) == -1) = false := by simp
    have i3 : (0 : Int) ≤ (st : Int) := by omega
    have i4 : (st : Int) < (n1 : Int) := by omega
    clear hd hrng hrt h1 h2 hst hru hl1 hr
    go_wp2
    go_ret
    exact ⟨by rw [HE.out]; rfl, HB1.out⟩
/-- What Longest tells. -/
def longR (nx : List (List Int)) (ru word : List Int) (f : Int) : Int × Int := if rightD nx ru = true ∧ 0 ≤ f ∧ f ≤ (word.length : Int) then lgF nx ru (word.drop f.toNat) f (word.length - f.toNat) else (-1, -1)
theorem long_no {nx : List (List Int)} {ru word : List Int} {f : Int} (h : ¬ (rightD nx ru = true ∧ 0 ≤ f ∧ f ≤ (word.length : Int))) : longR nx ru word f = (-1, -1) := by unfold longR; rw [if_neg h]

theorem wd_drop {w : World} {a : Option Addr} {word : List Int} (h : Wd w a word) (s : Nat) : Wd w (Option.map (fun x => x.add s) a) (word.drop s) := fun i c hc => by
  rw [List.getElem?_drop] at hc
  obtain ⟨b, off, rfl, k⟩ := h (s + i) c hc
  exact ⟨b, off + s, by rw [Option.map_some, add_at], by rw [Nat.add_assoc]; exact k⟩
theorem lg_some {nx : List (List Int)} {ru word : List Int} {f : Int} {k st : Nat} {r : Int} (h : runF nx word (k + 1) = st) (hr : ru[st]? = some r) : lgF nx ru word f (k + 1) = if r ≠ -1 then (f + (k : Int) + 1, r) else lgF nx ru word f k := by
  show (if 0 ≤ runF nx word (k + 1) ∧ ru.getD (runF nx word (k + 1)).toNat 0 ≠ -1 then (f + (k : Int) + 1, ru.getD (runF nx word (k + 1)).toNat 0) else lgF nx ru word f k) = _
  rw [h, show ((st : Nat) : Int).toNat = st by omega, List.getD_eq_getElem?_getD, hr, Option.getD_some]
  by_cases e : r ≠ -1
  · rw [if_pos ⟨by omega, e⟩, if_pos e]
  · rw [if_neg (fun q => e q.2), if_neg e]

set_option maxRecDepth 100000 in
set_option maxHeartbeats 3200000 in
theorem dlong_any (a0 a1 : Option Addr) (n0 n1 c0 c1 : Nat) (nx : List (List Int)) (ru : List Int) (a : Option Addr) (len cap : Nat) (word : List Int) (f : Int) (w : World) (hm : Dm w a0 a1 n0 n1 nx ru) (hz : word.length = len) (hl : len ≤ cap) (hc : cap ≤ maxLen) (hW : Wd w a word) :
    Calls Try.prog 20 #[.agg #[.slice a0 n0 c0, .slice a1 n1 c1], .slice a len cap, .int .i64 f] w fun e w' => e = .returned (.tuple #[.int .i64 (longR nx ru word f).1, .int .i64 (longR nx ru word f).2]) ∧ Below w.heap.size w w' := by
  have HX := hide (dtwo_new w (.slice a0 n0 c0) (.slice a1 n1 c1))
  have hb0 := (Below.refl w.heap.size w).alloc (Nat.le_refl _) (.cells #[.slice a0 n0 c0, .slice a1 n1 c1] 25)
  have HB0 := hide hb0
  have HM := hide (dm_below' hb0 hm)
  have HW := hide (wd_below hb0 hW)
  have HZ := hide hz
  have HZZ := hide (show w.heap.size < (w.alloc (.cells #[.slice a0 n0 c0, .slice a1 n1 c1] 25)).heap.size by simp)
  obtain ⟨p0, p1⟩ := HX.out
  unfold maxLen at hc
  clear hb0 hm hW hz
  have HRT := hide (dright_any a0 a1 n0 n1 c0 c1 nx ru _ HM.out.l0 HM.out.l1 HM.out.dr HM.out.wd HM.out.m0 HM.out.m1)
  by_cases hok : ¬ (rightD nx ru = true ∧ 0 ≤ f ∧ f ≤ (word.length : Int))
  · have HE := hide (long_no hok)
    cases hr : rightD nx ru
    · go_enter Try.func20, Try.ntmps20
      go_wp2_with fail
      refine HRT.out.mono ?_
      rintro e w1 ⟨rfl, hb1⟩
      have HB1 := hide (HB0.out.trans (hb1.mono HB0.out.size))
      rw [hr]
      clear hb1 p0 p1 hok hr HRT
      go_wp2
      go_ret2
      exact ⟨by rw [HE.out]; rfl, HB1.out⟩
    · have hff : f < 0 ∨ (len : Int) < f := by
        rw [HZ.out] at hok
        rcases Int.lt_or_le f 0 with h | h
        · exact .inl h
        · right
          rcases Int.lt_or_le (len : Int) f with h2 | h2
          · exact h2
          · exact absurd ⟨hr, h, h2⟩ hok
      by_cases f0 : f < 0
      · have d0 : decide (f < 0) = true := by simp [f0]
        go_enter Try.func20, Try.ntmps20
        go_wp2_with fail
        refine HRT.out.mono ?_
        rintro e w1 ⟨rfl, hb1⟩
        have HB1 := hide (HB0.out.trans (hb1.mono HB0.out.size))
        rw [hr]
        clear hb1 p0 p1 hok hr hff HRT
        go_wp2
        go_ret2
        exact ⟨by rw [HE.out]; rfl, HB1.out⟩
      · have d0 : decide (f < 0) = false := by simp; omega
        have d1 : decide ((len : Int) < f) = true := by simp; omega
        go_enter Try.func20, Try.ntmps20
        go_wp2_with fail
        refine HRT.out.mono ?_
        rintro e w1 ⟨rfl, hb1⟩
        have HB1 := hide (HB0.out.trans (hb1.mono HB0.out.size))
        rw [hr]
        clear hb1 p0 p1 hok hr hff HRT
        go_wp2
        go_ret2
        exact ⟨by rw [HE.out]; rfl, HB1.out⟩
  · obtain ⟨hr, f0, f1⟩ : rightD nx ru = true ∧ 0 ≤ f ∧ f ≤ (word.length : Int) := Classical.not_not.1 hok
    obtain ⟨s, rfl⟩ : ∃ s : Nat, f = s := ⟨f.toNat, by omega⟩
    rw [HZ.out] at f1
    have hsl : s ≤ len := by omega
    have HE := hide (show longR nx ru word s = lgF nx ru (word.drop s) s (len - s) by unfold longR; rw [if_pos ⟨hr, by omega, by rw [HZ.out]; omega⟩, HZ.out, show ((s : Nat) : Int).toNat = s by omega])
    have HR := hide hr
    have d0 : decide ((s : Int) < 0) = false := by simp
    have d1 : decide ((len : Int) < (s : Int)) = false := by simp; omega
    clear hok f0 f1
    go_enter Try.func20, Try.ntmps20
    go_wp2_with fail
    refine HRT.out.mono ?_
    rintro e w1 ⟨rfl, hb1⟩
    have HB1 := hide (HB0.out.trans (hb1.mono HB0.out.size))
    have HM1 := hide (dm_below' hb1 HM.out)
    have HW1 := hide (wd_below hb1 HW.out)
    have HX1 := hide (And.intro ((hb1.cell (p := ⟨w.heap.size, 0, none⟩) HZZ.out).trans HX.out.1) ((hb1.cell (p := ⟨w.heap.size, 1, none⟩) HZZ.out).trans HX.out.2))
    have HP1 := hide (show w.heap.size < w1.heap.size by have := hb1.size; have := HZZ.out; omega)
    rw [hr]
    clear hb1 p0 p1 HX HM HW hr HRT
    generalize hB : w.heap.size = B at *
    have HWD := hide (wd_drop HW1.out s)
    have HLD := hide (show (word.drop s).length = len - s by rw [List.length_drop, HZ.out])
    have HWD0 := hide (show len - s = 0 → Wd w1 a (word.drop s) from fun e i c hc => by
      have := (List.getElem?_eq_some_iff.1 hc).1
      rw [HLD.out] at this; omega)
    have hnl : s + (len - s) ≤ 2 ^ 63 - 1 := by omega
    go_wp2_with fail
    case inl =>
      have h0 : len - s = 0 := by omega
      have HWX := hide (HWD0.out h0)
      clear h0
      generalize len - s = nl at *
      clear HWD HWD0
      generalize a = a2 at *
      obtain ⟨wd, hwd⟩ : ∃ wd, word.drop s = wd := ⟨_, rfl⟩
      rw [hwd] at HE HLD HWX
      clear hwd
      go_loopw [8, 9, 10, 11, 12, 32] (fun e r u _ _ i wr => ∃ k st : Nat, k ≤ nl ∧ i = .int .i64 k ∧ u = .int .i64 st ∧ runF nx wd k = st ∧ e = .int .i64 (lgF nx ru wd s k).1 ∧ r = .int .i64 (lgF nx ru wd s k).2 ∧ Below w1.heap.size w1 wr) (fun _ _ _ _ _ i _ => nl - (intOf i).toNat)
      case atStart => exact ⟨0, 0, Nat.zero_le _, rfl, rfl, rfl, rfl, rfl, Below.refl _ _⟩
      case round =>
        obtain ⟨k, st, hk, rfl, rfl, hst, rfl, rfl, hb⟩ := hrel
        have HST := hide hst
        have HBW := hide hb
        have hsr : (st : Int) < (nx.length : Int) := by rw [← hst]; exact (run_rng HR.out (dm_len HM1.out) wd k).2
        have HSR := hide (show st < n0 by rw [← HM1.out.l0]; omega)
        clear hst hsr hb
        by_cases hlt : k < nl
        · obtain ⟨c, hc⟩ : ∃ c, wd[k]? = some c := ⟨_, List.getElem?_eq_getElem (by rw [HLD.out]; exact hlt)⟩
          obtain ⟨b, off, rfl, k0⟩ := wd_below HBW.out HWX.out k c hc
          have p0 := (HBW.out.cell (p := ⟨B, 0, none⟩) HP1.out).trans HX1.out.1
          have p1 := (HBW.out.cell (p := ⟨B, 1, none⟩) HP1.out).trans HX1.out.2
          have HNX := hide (show runF nx wd (k + 1) = stepF nx st c by show stepF nx (runF nx wd k) (wd.getD k 0) = _; rw [HST.out, List.getD_eq_getElem?_getD, hc]; rfl)
          have i3 : (0 : Int) ≤ (k : Int) := by omega
          have i4 : (k : Int) < (nl : Int) := by omega
          clear hc
          go_wp2_with fail
          refine (dstep_any a0 n0 c0 _ nx st c wr HM1.out.l0 (dm_below' HBW.out HM1.out).dr HSR.out).mono ?_
          rintro e w2 ⟨rfl, hb2⟩
          have HB2 := hide (HBW.out.trans (hb2.mono HBW.out.size))
          have hrg := run_rng HR.out (dm_len HM1.out) wd (k + 1)
          rw [HNX.out] at hrg
          clear hb2 p0 p1 k0
          by_cases hdead : stepF nx st c = -1
          · have HE2 := hide (show lgF nx ru wd s nl = lgF nx ru wd s k by
              have := lg_dead (nx := nx) (ru := ru) (word := wd) (f := (s : Int)) (k := k + 1) (by rw [HNX.out]; exact hdead) k (Nat.le_refl _) (nl - k)
              rw [show k + (nl - k) = nl by omega] at this; exact this)
            rw [hdead]
            clear hdead hrg
            go_wp2
            go_ret2
            exact ⟨by rw [HE.out, HE2.out]; rfl, hB ▸ HB1.out.trans (HB2.out.mono (Nat.le_of_lt HP1.out))⟩
          · obtain ⟨s2, hs2⟩ : ∃ s2 : Nat, stepF nx st c = s2 := ⟨(stepF nx st c).toNat, by omega⟩
            rw [hs2] at hdead hrg ⊢
            have HN2 := hide (HNX.out.trans hs2)
            have d5 : ((s2 : Int) == -1) = false := by simp
            have hru := (right_open HR.out).2.2.1
            have hl1 := HM1.out.l1
            obtain ⟨r, hr⟩ : ∃ r, ru[s2]? = some r := ⟨_, List.getElem?_eq_getElem (by omega)⟩
            obtain ⟨b3, o3, rfl, k3⟩ := wd_below HB2.out HM1.out.wd s2 r hr
            have p1 := (HB2.out.cell (p := ⟨B, 1, none⟩) HP1.out).trans HX1.out.2
            have i5 : (0 : Int) ≤ (s2 : Int) := by omega
            have i6 : (s2 : Int) < (n1 : Int) := by omega
            have HLS := hide (lg_some (f := (s : Int)) HN2.out hr)
            have hsk : s + k + 1 ≤ 2 ^ 63 - 1 := by omega
            clear hs2 hdead hrg hru hl1 hr
            by_cases r0 : r = -1
            · subst r0
              have HLS2 := hide (show lgF nx ru wd s (k + 1) = lgF nx ru wd s k by rw [HLS.out, if_neg (by simp)])
              go_wp2
              go_roundw
              case rel => exact ⟨k + 1, s2, by omega, by go_num, rfl, HN2.out, by rw [HLS2.out], by rw [HLS2.out], HB2.out⟩
              case measure => simp [intOf]; omega
            · have d6 : (r == -1) = false := by simp [r0]
              have HLS2 := hide (show lgF nx ru wd s (k + 1) = ((s : Int) + (k : Int) + 1, r) by rw [HLS.out, if_pos r0])
              clear r0
              go_wp2
              go_quiet (fail)
              go_wp2
              go_roundw
              case rel => exact ⟨k + 1, s2, by omega, by go_num, rfl, HN2.out, by rw [HLS2.out], by rw [HLS2.out], below_drewN HB2.out _⟩
              case measure => simp [intOf]; omega
        · have e : k = nl := by omega
          subst e
          go_wp2
          go_ret2
          exact ⟨by rw [HE.out]; rfl, hB ▸ HB1.out.trans (HBW.out.mono (Nat.le_of_lt HP1.out))⟩
    case inr =>
      clear HWD0
      generalize Option.map (fun x => x.add s) a = a2 at *
      generalize len - s = nl at *
      have HWX := HWD
      obtain ⟨wd, hwd⟩ : ∃ wd, word.drop s = wd := ⟨_, rfl⟩
      rw [hwd] at HE HLD HWX
      clear hwd
      go_loopw [8, 9, 10, 11, 12, 32] (fun e r u _ _ i wr => ∃ k st : Nat, k ≤ nl ∧ i = .int .i64 k ∧ u = .int .i64 st ∧ runF nx wd k = st ∧ e = .int .i64 (lgF nx ru wd s k).1 ∧ r = .int .i64 (lgF nx ru wd s k).2 ∧ Below w1.heap.size w1 wr) (fun _ _ _ _ _ i _ => nl - (intOf i).toNat)
      case atStart => exact ⟨0, 0, Nat.zero_le _, rfl, rfl, rfl, rfl, rfl, Below.refl _ _⟩
      case round =>
        obtain ⟨k, st, hk, rfl, rfl, hst, rfl, rfl, hb⟩ := hrel
        have HST := hide hst
        have HBW := hide hb
        have hsr : (st : Int) < (nx.length : Int) := by rw [← hst]; exact (run_rng HR.out (dm_len HM1.out) wd k).2
        have HSR := hide (show st < n0 by rw [← HM1.out.l0]; omega)
        clear hst hsr hb
        by_cases hlt : k < nl
        · obtain ⟨c, hc⟩ : ∃ c, wd[k]? = some c := ⟨_, List.getElem?_eq_getElem (by rw [HLD.out]; exact hlt)⟩
          obtain ⟨b, off, rfl, k0⟩ := wd_below HBW.out HWX.out k c hc
          have p0 := (HBW.out.cell (p := ⟨B, 0, none⟩) HP1.out).trans HX1.out.1
          have p1 := (HBW.out.cell (p := ⟨B, 1, none⟩) HP1.out).trans HX1.out.2
          have HNX := hide (show runF nx wd (k + 1) = stepF nx st c by show stepF nx (runF nx wd k) (wd.getD k 0) = _; rw [HST.out, List.getD_eq_getElem?_getD, hc]; rfl)
          have i3 : (0 : Int) ≤ (k : Int) := by omega
          have i4 : (k : Int) < (nl : Int) := by omega
          clear hc
          go_wp2_with fail
          refine (dstep_any a0 n0 c0 _ nx st c wr HM1.out.l0 (dm_below' HBW.out HM1.out).dr HSR.out).mono ?_
          rintro e w2 ⟨rfl, hb2⟩
          have HB2 := hide (HBW.out.trans (hb2.mono HBW.out.size))
          have hrg := run_rng HR.out (dm_len HM1.out) wd (k + 1)
          rw [HNX.out] at hrg
          clear hb2 p0 p1 k0
          by_cases hdead : stepF nx st c = -1
          · have HE2 := hide (show lgF nx ru wd s nl = lgF nx ru wd s k by
              have := lg_dead (nx := nx) (ru := ru) (word := wd) (f := (s : Int)) (k := k + 1) (by rw [HNX.out]; exact hdead) k (Nat.le_refl _) (nl - k)
              rw [show k + (nl - k) = nl by omega] at this; exact this)
            rw [hdead]
            clear hdead hrg
            go_wp2
            go_ret2
            exact ⟨by rw [HE.out, HE2.out]; rfl, hB ▸ HB1.out.trans (HB2.out.mono (Nat.le_of_lt HP1.out))⟩
          · obtain ⟨s2, hs2⟩ : ∃ s2 : Nat, stepF nx st c = s2 := ⟨(stepF nx st c).toNat, by omega⟩
            rw [hs2] at hdead hrg ⊢
            have HN2 := hide (HNX.out.trans hs2)
            have d5 : ((s2 : Int) == -1) = false := by simp
            have hru := (right_open HR.out).2.2.1
            have hl1 := HM1.out.l1
            obtain ⟨r, hr⟩ : ∃ r, ru[s2]? = some r := ⟨_, List.getElem?_eq_getElem (by omega)⟩
            obtain ⟨b3, o3, rfl, k3⟩ := wd_below HB2.out HM1.out.wd s2 r hr
            have p1 := (HB2.out.cell (p := ⟨B, 1, none⟩) HP1.out).trans HX1.out.2
            have i5 : (0 : Int) ≤ (s2 : Int) := by omega
            have i6 : (s2 : Int) < (n1 : Int) := by omega
            have HLS := hide (lg_some (f := (s : Int)) HN2.out hr)
            have hsk : s + k + 1 ≤ 2 ^ 63 - 1 := by omega
            clear hs2 hdead hrg hru hl1 hr
            by_cases r0 : r = -1
            · subst r0
              have HLS2 := hide (show lgF nx ru wd s (k + 1) = lgF nx ru wd s k by rw [HLS.out, if_neg (by simp)])
              go_wp2
              go_roundw
              case rel => exact ⟨k + 1, s2, by omega, by go_num, rfl, HN2.out, by rw [HLS2.out], by rw [HLS2.out], HB2.out⟩
              case measure => simp [intOf]; omega
            · have d6 : (r == -1) = false := by simp [r0]
              have HLS2 := hide (show lgF nx ru wd s (k + 1) = ((s : Int) + (k : Int) + 1, r) by rw [HLS.out, if_pos r0])
              clear r0
              go_wp2
              go_quiet (fail)
              go_wp2
              go_roundw
              case rel => exact ⟨k + 1, s2, by omega, by go_num, rfl, HN2.out, by rw [HLS2.out], by rw [HLS2.out], below_drewN HB2.out _⟩
              case measure => simp [intOf]; omega
        · have e : k = nl := by omega
          subst e
          go_wp2
          go_ret2
          exact ⟨by rw [HE.out]; rfl, hB ▸ HB1.out.trans (HBW.out.mono (Nat.le_of_lt HP1.out))⟩
theorem run_take {nx : List (List Int)} {word : List Int} {m : Nat} : ∀ k, k ≤ m → m ≤ word.length → runF nx (word.take m) k = runF nx word k
  | 0, _, _ => rfl
  | k + 1, hk, hm => by
    show stepF nx (runF nx (word.take m) k) ((word.take m).getD k 0) = stepF nx (runF nx word k) (word.getD k 0)
    rw [run_take k (by omega) hm, List.getD_eq_getElem?_getD, List.getD_eq_getElem?_getD, List.getElem?_take_of_lt (by omega)]
theorem lg_take {nx : List (List Int)} {ru word : List Int} {f : Int} {m : Nat} : ∀ k, k ≤ m → m ≤ word.length → lgF nx ru (word.take m) f k = lgF nx ru word f k
  | 0, _, _ => rfl
  | k + 1, hk, hm => by
    show (if 0 ≤ runF nx (word.take m) (k + 1) ∧ ru.getD (runF nx (word.take m) (k + 1)).toNat 0 ≠ -1 then (f + (k : Int) + 1, ru.getD (runF nx (word.take m) (k + 1)).toNat 0) else lgF nx ru (word.take m) f k) = _
    rw [run_take (k + 1) hk hm, lg_take k (by omega) hm]; rfl
theorem lg_le {nx : List (List Int)} {ru word : List Int} {f : Int} (hf : 0 ≤ f) : ∀ k : Nat, -1 ≤ (lgF nx ru word f k).1 ∧ (lgF nx ru word f k).1 ≤ f + (k : Int)
  | 0 => by
    show -1 ≤ (-1 : Int) ∧ (-1 : Int) ≤ f + ((0 : Nat) : Int)
    omega
  | k + 1 => by
    have ih := lg_le (nx := nx) (ru := ru) (word := word) hf k
    unfold lgF
    split
    · simp only; omega
    · omega
theorem lg_mono {nx : List (List Int)} {ru word : List Int} {f : Int} (hf : 0 ≤ f) (k : Nat) : ∀ m : Nat, (lgF nx ru word f k).1 ≤ (lgF nx ru word f (k + m)).1
  | 0 => Int.le_refl _
  | m + 1 => by
    have ih := lg_mono (nx := nx) (ru := ru) (word := word) hf k m
    have h1 := lg_le (nx := nx) (ru := ru) (word := word) hf k
    show _ ≤ (if 0 ≤ runF nx word (k + m + 1) ∧ ru.getD (runF nx word (k + m + 1)).toNat 0 ≠ -1 then (f + ((k + m : Nat) : Int) + 1, ru.getD (runF nx word (k + m + 1)).toNat 0) else lgF nx ru word f (k + m)).1
    split
    · simp only; omega
    · exact ih
/-- Who is nowhere stays nowhere. -/
theorem runR_take {nx : List (List Int)} {ru word : List Int} {k : Nat} (hk : k ≤ word.length) (h16 : ∀ x ∈ nx, x.length = 16) (h : runR nx ru (word.take k) < 0) : runR nx ru word < 0 := by
  unfold runR at h ⊢
  split
  · rename_i hr
    rw [if_pos hr, List.length_take, Nat.min_eq_left hk, run_take k (Nat.le_refl _) hk] at h
    have := run_rng hr h16 word k
    rw [run_dead' (show runF nx word k = -1 by omega) hk]; omega
  · omega
theorem longR_take {nx : List (List Int)} {ru word : List Int} {k : Nat} (hk : k ≤ word.length) : (longR nx ru (word.take k) 0).1 ≤ (longR nx ru word 0).1 ∧ (longR nx ru (word.take k) 0).1 ≤ (k : Int) := by
  unfold longR
  by_cases hr : rightD nx ru = true
  · rw [if_pos ⟨hr, by omega, by omega⟩, if_pos ⟨hr, by omega, by omega⟩]
    simp only [Int.toNat_zero, List.drop_zero, Nat.sub_zero, List.length_take, Nat.min_eq_left hk]
    rw [lg_take k (Nat.le_refl _) hk]
    have h1 := lg_mono (nx := nx) (ru := ru) (word := word) (f := 0) (by omega) k (word.length - k)
    rw [show k + (word.length - k) = word.length by omega] at h1
    have h2 := lg_le (nx := nx) (ru := ru) (word := word) (f := 0) (by omega) k
    exact ⟨h1, by omega⟩
  · rw [if_neg (fun h => hr h.1), if_neg (fun h => hr h.1)]
    simp only; omega
set_option linter.unusedVariables false

/-- What the machine of sets is. -/
structure Tb (tr : List Int → Nat → List Int) (ls : List Int → Int) (start : List Int) (S nx : List (List Int)) (ru : List Int) : Prop where
  ln : nx.length = S.length
  lr : ru.length = S.length
  pos : 1 ≤ S.length
  most : S.length ≤ 200
  zero : S[0]? = some start
  at_ : ∀ (i : Nat) (s : List Int), S[i]? = some s → ∃ row, nx[i]? = some row ∧ row.length = 16 ∧ ru[i]? = some (ls s) ∧ Means tr S s row 16

theorem tb_of {tr : List Int → Nat → List Int} {ls : List Int → Int} {start : List Int} (hb : (stF tr ls start 201).1.length ≤ 200) : Tb tr ls start (stF tr ls start 201).1 (stF tr ls start 201).2.1 (stF tr ls start 201).2.2 := by
  obtain ⟨k, h1, h2, h3, h4⟩ := st_reach hb
  obtain ⟨l1, l2⟩ := st_len (tr := tr) (ls := ls) (start := start) k h3
  rw [h4]
  have h0 := st_start (tr := tr) (ls := ls) (start := start) k
  have hp := (List.getElem?_eq_some_iff.1 h0).1
  refine ⟨by omega, by omega, by omega, by omega, h0, fun i s hs => ?_⟩
  have hi := (List.getElem?_eq_some_iff.1 hs).1
  obtain ⟨s', row, e1, e2, e3, e4, e5⟩ := st_means (tr := tr) (ls := ls) (start := start) k h3 i (by omega)
  rw [hs] at e1
  cases e1
  exact ⟨row, e2, e3, e4, e5⟩

theorem tb_right {tr : List Int → Nat → List Int} {ls : List Int → Int} {start : List Int} {S nx : List (List Int)} {ru : List Int} (h : Tb tr ls start S nx ru) (hl : ∀ s, -1 ≤ ls s ∧ ls s ≤ 15) : rightD nx ru = true := by
  have hn := h.ln
  have hr := h.lr
  have h1 := h.pos
  have h2 := h.most
  unfold rightD
  simp only [Bool.and_eq_true, decide_eq_true_eq, List.all_eq_true, List.mem_range]
  refine ⟨by omega, by omega, by omega, fun i hi => ?_⟩
  obtain ⟨row, e1, e2, e3, e4⟩ := h.at_ i _ (List.getElem?_eq_getElem (by omega))
  rw [List.getD_eq_getElem?_getD, e3, List.getD_eq_getElem?_getD, e1, Option.getD_some, Option.getD_some]
  refine ⟨?_, ?_⟩
  · unfold okRule
    rw [Bool.and_eq_true, decide_eq_true_eq, decide_eq_true_eq]
    exact hl _
  · unfold okRow
    rw [List.all_eq_true]
    intro z hz
    obtain ⟨c, hc, e⟩ := List.getElem_of_mem hz
    have ez : row[c]? = some z := by rw [List.getElem?_eq_getElem hc, e]
    rcases e4 c (by omega) with ⟨_, q⟩ | ⟨_, j, q, q2⟩
    · rw [ez] at q; cases q; simp; omega
    · rw [ez] at q; cases q
      have := (List.getElem?_eq_some_iff.1 q2).1
      simp; omega

section
variable {fs : List (List Int)} {ss : List Nat} {ts rs : List Int} {N : Nat} {tr : List Int → Nat → List Int} {g0 : Nat → Bool} {ls : List Int → Int} {S nx : List (List Int)} {ru : List Int}
end
set_option linter.unusedVariables false

/-- Are the first k marks alike? -/
def eqB (g h : Nat → Bool) (k : Nat) : Bool := (List.range k).all fun j => g j == h j
theorem eqB_step (g h : Nat → Bool) (k : Nat) : eqB g h (k + 1) = (eqB g h k && (g k == h k)) := by simp [eqB, List.range_succ]
theorem eqB_no {g h : Nat → Bool} {k N : Nat} (hk : k < N) (hne : g k ≠ h k) : eqB g h N = false := by
  unfold eqB
  rw [List.all_eq_false]
  exact ⟨k, List.mem_range.2 hk, by simpa using hne⟩
theorem eqB_lst (g h : Nat → Bool) (N : Nat) : eqB g h N = decide (lstL g N = lstL h N) := by
  rw [Bool.eq_iff_iff, decide_eq_true_iff]
  unfold eqB
  rw [List.all_eq_true]
  constructor
  · intro e
    exact lst_congr fun j hj => by simpa using e j (List.mem_range.2 hj)
  · intro e j hj
    have hj' := List.mem_range.1 hj
    have h1 := lst_mem g N (j : Int)
    have h2 := lst_mem h N (j : Int)
    rw [e] at h1
    have h3 : g j = true ↔ h j = true := by
      constructor
      · intro q
        obtain ⟨i, e1, _, e2⟩ := h2.1 (h1.2 ⟨j, rfl, hj', q⟩)
        obtain rfl : j = i := by omega
        exact e2
      · intro q
        obtain ⟨i, e1, _, e2⟩ := h1.1 (h2.2 ⟨j, rfl, hj', q⟩)
        obtain rfl : j = i := by omega
        exact e2
    rw [beq_iff_eq, Bool.eq_iff_iff]
    exact h3

set_option linter.unusedVariables false

theorem smallZ : Try.prog.types.size + 2 ≤ 10000 := of_decide_eq_true (by kernel_rfl)
theorem types_succZ : ∃ m, Try.prog.types.size = m + 1 := ⟨89, by kernel_rfl⟩
theorem cells3Z : Try.prog.cellsOf 3 = 1 := by kernel_rfl
/-- 16 numbers that fit. -/
def Fit16 (x : List Int) : Prop := x.length = 16 ∧ ∀ v ∈ x, -1 ≤ v ∧ v ≤ 10000
theorem keyT63 : Try.prog.keyType 41 = true := by kernel_rfl
theorem wide63 : (match Try.prog.underlying 41 with | some (.array _ _) | some (.struct _) => true | _ => false) = true := by rw [Try.underlying41]
theorem cells41 : Try.prog.cellsOf 41 = 16 := by kernel_rfl
theorem lits63 {x : List Int} (hx : Fit16 x) (m : Nat) : ∃ ls, Try.prog.keyLits (m + 2) 41 (cI x) = some ls := by
  have hl : (cI x).length = 16 := by rw [cI_len]; exact hx.1
  have hu : Try.prog.keyLits (m + 2) 41 (cI x) = if (cI x).length = Try.prog.cellsOf 41 then ((List.range 16).mapM fun i => Try.prog.keyLits (m + 1) 3 (((cI x).drop (i * Try.prog.cellsOf 3)).take (Try.prog.cellsOf 3))).map List.flatten else none := by
    conv => lhs; unfold Program.keyLits
    simp only [Try.underlying41]
  rw [hu, if_pos (by rw [cells41, hl]), cells3Z]
  have : ∀ (L : List Nat), (∀ i ∈ L, i < 16) → ∃ r, (L.mapM fun i => Try.prog.keyLits (m + 1) 3 (((cI x).drop (i * 1)).take 1)) = some r := by
    intro L
    induction L with
    | nil => intro _; exact ⟨[], rfl⟩
    | cons i r ih =>
      intro h
      obtain ⟨r', e⟩ := ih (fun j hj => h j (by simp [hj]))
      have hi := h i (by simp)
      have hix : i < x.length := by rw [hx.1]; exact hi
      have e1 : ((cI x).drop (i * 1)).take 1 = [.int .i64 x[i]] := by
        rw [Nat.mul_one, List.drop_eq_getElem_cons (by omega)]
        simp [cI]
      have hv := hx.2 x[i] (List.getElem_mem hix)
      rw [List.mapM_cons, e1, e]
      simp only [Program.keyLits, Try.underlying3]
      rw [WalkArith.wf_i64 (by omega)]
      exact ⟨_, rfl⟩
  obtain ⟨r, e⟩ := this (List.range 16) (fun i hi => by simpa using hi)
  rw [e]
  exact ⟨_, rfl⟩
theorem key63 {x : List Int} (hx : Fit16 x) : ∃ l, keyOf Try.prog 41 (.agg (cI x).toArray) = some l := by
  obtain ⟨m, hm⟩ := types_succZ
  obtain ⟨ls, e⟩ := lits63 hx m
  have hsz : (cI x).toArray.size = 16 := by simp [cI_len, hx.1]
  simp only [keyOf, Try.underlying41, keyT63, Value.formed, hsz, cells41, Value.cells, hm]
  rw [e]
  exact ⟨_, rfl⟩
set_option maxRecDepth 100000 in
theorem ne63 {x : List Int} (hx : Fit16 x) (w : World) : (binOp .neq 41 (.agg (cI x).toArray) (.agg (cI x).toArray)).run Try.prog w = .ok (.bool false) w := by
  obtain ⟨l, hl⟩ := key63 hx
  obtain ⟨r, h1, h2⟩ := run_equal_deep (P := Try.prog) w (m := Try.prog.types.size + 1) (by have := smallZ; omega) keyT63 wide63 hl hl
  have h3 : r = true := h2.2 rfl
  subst h3
  simp only [binOp, Sem.run_bind, h1, Result.andThen_ok, Sem.run_pure]
  rfl

theorem four28 (w : World) (x y u v : Value) : ((w.alloc (.cells #[x, y] 25)).alloc (.cells #[u, v] 25)).heap[w.heap.size]? = some (.cells #[x, y] 25 (0, 0)) ∧ ((w.alloc (.cells #[x, y] 25)).alloc (.cells #[u, v] 25)).heap[w.heap.size + 1]? = some (.cells #[u, v] 25 (0, 0)) := by
  have e : (w.alloc (.cells #[x, y] 25)).heap.size = w.heap.size + 1 := by simp
  refine ⟨?_, ?_⟩
  · rw [Below.heap_alloc _ _ _ (by simp)]; exact heap_alloc_last w _
  · rw [← e]; exact heap_alloc_last _ _

attribute [local go_sem ↓] wp_load63s
attribute [local go_sem] rowM_drew rowMok_drew
set_option maxRecDepth 100000 in
set_option maxHeartbeats 3200000 in
theorem dSame_any (a0 a1 b0 b1 : Option Addr) (n0 n1 c0 c1 d0 d1 : Nat) (nx : List (List Int)) (ru : List Int) (w : World) (h0 : nx.length = n0) (h1 : ru.length = n1) (hl0 : n0 ≤ 10000) (hl1 : n1 ≤ 10000) (hA : Dr w a0 nx) (hB : Wd w a1 ru) (hC : Dr w b0 nx) (hD : Wd w b1 ru) (hf : ∀ x ∈ nx, ∀ z ∈ x, -1 ≤ z ∧ z ≤ 10000) :
    Calls Try.prog 16 #[.agg #[.slice a0 n0 c0, .slice a1 n1 c1], .agg #[.slice b0 n0 d0, .slice b1 n1 d1]] w fun e w' => e = .returned (.bool true) ∧ Below w.heap.size w w' := by
  have hX := four28 w (.slice a0 n0 c0) (.slice a1 n1 c1) (.slice b0 n0 d0) (.slice b1 n1 d1)
  have hb0 := ((Below.refl w.heap.size w).alloc (Nat.le_refl _) (.cells #[.slice a0 n0 c0, .slice a1 n1 c1] 25)).alloc (by simp) (.cells #[.slice b0 n0 d0, .slice b1 n1 d1] 25)
  have HB0 := hide hb0
  have HA := hide (dr_below hb0 hA)
  have HB := hide (wd_below hb0 hB)
  have HC := hide (dr_below hb0 hC)
  have HD := hide (wd_below hb0 hD)
  have H0 := hide h0
  have H1 := hide h1
  have HF := hide hf
  have HX := hide hX
  have HL := hide (show w.heap.size + 1 < ((w.alloc (.cells #[.slice a0 n0 c0, .slice a1 n1 c1] 25)).alloc (.cells #[.slice b0 n0 d0, .slice b1 n1 d1] 25)).heap.size by simp)
  obtain ⟨p0, p1, -⟩ := d_cells hX.1
  obtain ⟨p2, p3, -⟩ := d_cells hX.2
  clear hX hb0 hA hB hC hD h0 h1 hf
  have e0 : ((n0 : Int) != (n0 : Int)) = false := by simp
  have e1 : ((n1 : Int) != (n1 : Int)) = false := by simp
  go_enter Try.func16, Try.ntmps16
  go_wp2_with fail
  generalize (w.alloc (.cells #[.slice a0 n0 c0, .slice a1 n1 c1] 25)).alloc (.cells #[.slice b0 n0 d0, .slice b1 n1 d1] 25) = W at *
  generalize hP : w.heap.size = P at *
  go_loopw [5] (fun i wr => ∃ k : Nat, k ≤ n0 ∧ i = .int .i64 k ∧ Below W.heap.size W wr) (fun i _ => n0 - (intOf i).toNat)
  case atStart => exact ⟨0, Nat.zero_le _, rfl, Below.refl _ _⟩
  case round =>
    obtain ⟨k, hk, rfl, hb⟩ := hrel
    have HBW := hide hb
    clear p0 p1 p2 p3 hb
    obtain ⟨p0, p1, -⟩ := d_cells ((HBW.out.block P (by have := HL.out; omega)).trans HX.out.1)
    obtain ⟨p2, p3, -⟩ := d_cells ((HBW.out.block (P + 1) HL.out).trans HX.out.2)
    by_cases hlt : k < n0
    · obtain ⟨row, hr⟩ : ∃ row, nx[k]? = some row := ⟨_, List.getElem?_eq_getElem (by rw [H0.out]; exact hlt)⟩
      obtain ⟨hrl, b, off, rfl, hrg⟩ := dr_below HBW.out HA.out k row hr
      obtain ⟨-, b', off', rfl, hrg'⟩ := dr_below HBW.out HC.out k row hr
      obtain ⟨r1, r2⟩ := rowM_at hrg (by rw [cI_len]; exact hrl)
      obtain ⟨r3, r4⟩ := rowM_at hrg' (by rw [cI_len]; exact hrl)
      have hne := ne63 (x := row) ⟨hrl, fun z hz => HF.out row (List.mem_of_getElem? hr) z hz⟩
      have i3 : (0 : Int) ≤ (k : Int) := by omega
      have i4 : (k : Int) < (n0 : Int) := by omega
      clear hr hrl hrg hrg'
      generalize cI row = cs at *
      go_wp2_with fail
      go_region_law (fail)
      all_goals
        go_frame
        go_wp2
        go_roundw
        case rel =>
          exact ⟨k + 1, by omega, by go_num, HBW.out.trans ((below_drew1 wr).mono HBW.out.size)⟩
        case measure => simp [intOf]; omega
    · have e : k = n0 := by omega
      subst e
      go_wp2_with fail
      go_loopw [6] (fun i wr2 => ∃ j : Nat, j ≤ n1 ∧ i = .int .i64 j ∧ Below W.heap.size W wr2) (fun i _ => n1 - (intOf i).toNat)
      case atStart => exact ⟨0, Nat.zero_le _, rfl, HBW.out⟩
      case round =>
        obtain ⟨j, hj, rfl, hb2⟩ := hrel
        have HBV := hide hb2
        clear p0 p1 p2 p3 hb2
        obtain ⟨p0, p1, -⟩ := d_cells ((HBV.out.block P (by have := HL.out; omega)).trans HX.out.1)
        obtain ⟨p2, p3, -⟩ := d_cells ((HBV.out.block (P + 1) HL.out).trans HX.out.2)
        by_cases hlt2 : j < n1
        · obtain ⟨z, hz⟩ : ∃ z, ru[j]? = some z := ⟨_, List.getElem?_eq_getElem (by rw [H1.out]; exact hlt2)⟩
          obtain ⟨b, off, rfl, q0⟩ := wd_below HBV.out HB.out j z hz
          obtain ⟨b', off', rfl, q1⟩ := wd_below HBV.out HD.out j z hz
          have i3 : (0 : Int) ≤ (j : Int) := by omega
          have i4 : (j : Int) < (n1 : Int) := by omega
          have hne : (z != z) = false := by simp
          have heq : (z == z) = true := by simp
          clear hz
          go_wp2_with fail
          go_quiet (fail)
          go_wp2
          go_roundw
          case rel => exact ⟨j + 1, by omega, by go_num, below_drewN HBV.out _⟩
          case measure => simp [intOf]; omega
        · have e : j = n1 := by omega
          subst e
          go_wp2
          go_ret
          exact ⟨rfl, by rw [hP]; exact HB0.out.trans (HBV.out.mono (by have := HB0.out.size; omega))⟩
set_option linter.unusedVariables false

section
variable {w w' : World} {base N d : Nat} {sv nv rv : Value} {vs : List Value} {S nx : List (List Int)} {ru : List Int}
end
theorem own_one (w : World) (base : Nat) (v : Value) (t : TypeId) (hb : base ≤ w.heap.size) : (w.alloc (.cells #[v] t)).ownsRow base t 1 (.slice (some ⟨w.heap.size, 0, none⟩) 1 1) 1 [v] :=
  ⟨rfl, .inr ⟨w.heap.size, 1, #[v], rfl, hb, heap_alloc_last w _, Nat.le_refl _, by unfold maxLen; omega, rfl, rfl⟩⟩

/-- Is any of the first k marks set? -/
def anyM (o : Nat → Bool) (k : Nat) : Bool := (List.range k).any o
theorem anyM_step (o : Nat → Bool) (k : Nat) : anyM o (k + 1) = (anyM o k || o k) := by simp [anyM, List.range_succ]
/-- What is told of a set among the first k: the first one that is it, or that none is. -/
def Seen (S : List (List Int)) (t : List Int) (k : Nat) (z : Int) : Prop :=
  (z = -1 ∧ ∀ i, i < k → S[i]? ≠ some t) ∨ ∃ i : Nat, z = i ∧ i < k ∧ S[i]? = some t ∧ ∀ j, j < i → S[j]? ≠ some t
theorem seen_zero (S : List (List Int)) (t : List Int) : Seen S t 0 (-1) := .inl ⟨rfl, fun i hi => by omega⟩
theorem seen_no {S : List (List Int)} {t s : List Int} {k : Nat} (h : Seen S t k (-1)) (hs : S[k]? = some s) (hne : s ≠ t) : Seen S t (k + 1) (-1) := by
  rcases h with ⟨_, h⟩ | ⟨i, e, _⟩
  · refine .inl ⟨rfl, fun i hi => ?_⟩
    by_cases c : i < k
    · exact h i c
    · have : i = k := by omega
      subst this
      rw [hs]
      exact fun e => hne (Option.some.inj e)
  · omega
theorem seen_yes {S : List (List Int)} {t : List Int} {k : Nat} (h : Seen S t k (-1)) (hs : S[k]? = some t) : Seen S t (k + 1) (k : Int) := by
  rcases h with ⟨_, h⟩ | ⟨i, e, _⟩
  · exact .inr ⟨k, rfl, by omega, hs, h⟩
  · omega
theorem seen_end {S : List (List Int)} {t : List Int} (ht : t ≠ []) (h : Seen S t S.length (-1)) : findF S t = (S ++ [t], ((S.length : Nat) : Int)) := by
  rcases h with ⟨_, h⟩ | ⟨i, e, _⟩
  · unfold findF
    rw [if_neg ht, if_neg]
    intro hm
    obtain ⟨i, hi, e⟩ := List.getElem_of_mem hm
    exact h i hi (by rw [List.getElem?_eq_getElem hi, e])
  · omega
theorem seen_found {S : List (List Int)} {t : List Int} (ht : t ≠ []) {k : Nat} {z : Int} (hz : 0 ≤ z) (h : Seen S t k z) : findF S t = (S, z) := by
  rcases h with ⟨e, _⟩ | ⟨i, rfl, _, hi, hno⟩
  · omega
  · have hm := List.mem_of_getElem? hi
    unfold findF
    rw [if_neg ht, if_pos hm]
    have hil := (List.getElem?_eq_some_iff.1 hi).1
    have h1 : S.idxOf t ≤ i := by
      rcases Nat.lt_or_ge i (S.idxOf t) with c | c
      · have h2 := List.not_of_lt_findIdx (p := (· == t)) (xs := S) (i := i) (by simpa [List.idxOf] using c)
        rw [List.getElem?_eq_getElem hil] at hi
        have h3 := Option.some.inj hi
        simp [h3] at h2
      · exact c
    have h2 : i ≤ S.idxOf t := by
      rcases Nat.lt_or_ge (S.idxOf t) i with c | c
      · have hl : S.idxOf t < S.length := List.idxOf_lt_length_iff.2 hm
        have h3 : S[S.idxOf t] = t := List.getElem_idxOf hl
        exact absurd (by rw [List.getElem?_eq_getElem hl, h3]) (hno _ c)
      · exact c
    have : S.idxOf t = i := by omega
    rw [this]
theorem seen_rng {S : List (List Int)} {t : List Int} {k : Nat} {z : Int} (h : Seen S t k z) : -1 ≤ z ∧ z < (k : Int) := by
  rcases h with ⟨rfl, _⟩ | ⟨i, rfl, h, _⟩
  · omega
  · omega

/-- A row of 16 numbers in a block of its own. -/
def Rg (w : World) (rb : Nat) (f : Nat → Int) : Prop := w.heap[rb]? = some (.cells (rowG f) 41 (0, 0))
theorem rg_cell {w : World} {rb m : Nat} {f : Nat → Int} (h : Rg w rb f) (hm : m < 16) : w.cell? ⟨rb, m, none⟩ = some (.int .i64 (f m)) ∧ w.frozen? ⟨rb, m, none⟩ = false := by
  constructor
  · rw [cell_of_row _ _ _ _ _ _ h, rowG_at _ _ hm]
  · unfold Rg at h; simp [World.frozen?, h]
theorem rg_set {w : World} {rb m : Nat} {f : Nat → Int} (h : Rg w rb f) (hm : m < 16) (z : Int) : Rg (w.setCell ⟨rb, m, none⟩ (.int .i64 z)) rb (fun i => if i = m then z else f i) := by
  unfold Rg at h ⊢
  rw [blk_set h, rowG_set _ _ _ hm]
theorem rg_congr {w : World} {rb : Nat} {f f' : Nat → Int} (h : Rg w rb f) (e : ∀ j, j < 16 → f j = f' j) : Rg w rb f' := by
  unfold Rg; rw [← rowG_congr e]; exact h
theorem rg_below {w w' : World} {rb : Nat} {f : Nat → Int} (hb : Below w.heap.size w w') (h : Rg w rb f) : Rg w' rb f := (hb.block rb (Array.getElem?_eq_some_iff.1 h).1).trans h
theorem rg_lt {w : World} {rb : Nat} {f : Nat → Int} (h : Rg w rb f) : rb < w.heap.size := (Array.getElem?_eq_some_iff.1 h).1
theorem rg_range {w : World} {rb : Nat} {row : List Int} (h : Rg w rb (fnL row)) (hl : row.length = 16) : w.rangeAt rb 0 (cI row) := fun j v hj => by
  rw [cell_of_row _ _ _ _ _ _ h, rowG_list hl, Nat.zero_add]
  simpa [cI] using hj
theorem fnL_app {l : List Int} {m : Nat} (hl : l.length = m) (z : Int) (j : Nat) (hj : j < 16) : fnL (l ++ [z]) j = if j = m then z else fnL l j := by
  unfold fnL
  rw [List.getD_eq_getElem?_getD, List.getD_eq_getElem?_getD]
  by_cases e : j = m
  · subst e; rw [if_pos rfl, List.getElem?_append_right (by omega), hl, Nat.sub_self]; rfl
  · rw [if_neg e]
    by_cases e2 : j < m
    · rw [List.getElem?_append_left (by omega)]
    · rw [List.getElem?_eq_none (by rw [List.length_append, hl]; simp; omega), List.getElem?_eq_none (by omega)]
theorem row_step {tr : List Int → Nat → List Int} {s : List Int} {S S' : List (List Int)} {m : Nat} {z : Int} (h : findF (rowF tr s S m).1 (tr s m) = (S', z)) : rowF tr s S (m + 1) = (S', (rowF tr s S m).2 ++ [z]) := by
  show ((findF (rowF tr s S m).1 (tr s m)).1, (rowF tr s S m).2 ++ [(findF (rowF tr s S m).1 (tr s m)).2]) = _
  rw [h]
theorem find_none (S : List (List Int)) {t : List Int} (h : t = []) : findF S t = (S, -1) := by unfold findF; rw [if_pos h]
/-- A row's block, behind a step. -/
theorem rg_step {w : World} {rb m : Nat} {tr : List Int → Nat → List Int} {s : List Int} {S S' : List (List Int)} {f : Nat → Int} {z : Int} (hf : findF (rowF tr s S m).1 (tr s m) = (S', z)) (h : Rg w rb f) (e : ∀ j, j < 16 → f j = if j = m then z else fnL (rowF tr s S m).2 j) : Rg w rb (fnL (rowF tr s S (m + 1)).2) := by
  rw [row_step hf]
  exact rg_congr h fun j hj => by rw [e j hj]; exact (fnL_app (row_len tr s S m) z j hj).symm
end Go.Proofs.Ythkollnlmnbidaa.A
