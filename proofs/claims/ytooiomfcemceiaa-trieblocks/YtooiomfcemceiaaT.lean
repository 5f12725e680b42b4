/- Contract: a trie is built. -/
import Derived.Test.YtooiomfcemceiaaX
import Derived.Deep.RegionLaw
import Derived.Deep.AppendLies
import Derived.Deep.MidRow
import Derived.Maps.RangeWalk
namespace Go.Proofs.Ytooiomfcemceiaa.A
open Go.RowKit Go.Maps

theorem info63 : (Try.prog.info? 63).map (fun i => (i.zero, i.size, i.bytes)) = some (some (.int .u16 0), 1, 2) := by kernel_rfl
theorem make52 (w : World) : (Instr.makeSlice 52 (.int .i64 8704) (.int .i64 8704)).run Try.prog w = .ok (.slice (some ⟨w.heap.size, 0, none⟩) 8704 8704) (w.alloc (.cells (rowK .u16 8704 fun _ => 0) 63)) := by
  have := run_make_row' (P := Try.prog) 52 63 (.int .u16 0) 2 Try.underlying52 info63 rfl .i64 .i64 8704 (by omega) (by omega) w
  rw [rowK_zero] at this
  exact this

/-- A trie's struct. -/
def St (w : World) (tb : Nat) (r o1 o2 o3 n v a : Value) : Prop := w.heap[tb]? = some (.cells #[r, o1, o2, o3, n, v, a] 58 (0, 0))
theorem st_cells {w : World} {tb : Nat} {r o1 o2 o3 n v a : Value} (h : St w tb r o1 o2 o3 n v a) :
    w.cell? ⟨tb, 0, none⟩ = some r ∧ w.cell? ⟨tb, 1, none⟩ = some o1 ∧ w.cell? ⟨tb, 2, none⟩ = some o2 ∧ w.cell? ⟨tb, 3, none⟩ = some o3 ∧ w.cell? ⟨tb, 4, none⟩ = some n ∧ w.cell? ⟨tb, 5, none⟩ = some v ∧ w.cell? ⟨tb, 6, none⟩ = some a := by
  unfold St at h
  simp [World.cell?, h]
theorem st_free {w : World} {tb : Nat} {r o1 o2 o3 n v a : Value} (h : St w tb r o1 o2 o3 n v a) (j : Nat) : w.frozen? ⟨tb, j, none⟩ = false := by
  unfold St at h
  simp [World.frozen?, h]
theorem st_set {w : World} {tb : Nat} {r o1 o2 o3 n v a : Value} (h : St w tb r o1 o2 o3 n v a) (j : Nat) (u : Value) : (w.setCell ⟨tb, j, none⟩ u).heap[tb]? = some (.cells ((#[r, o1, o2, o3, n, v, a] : Array Value).setIfInBounds j u) 58 (0, 0)) := by
  rw [setCell_eq_setRow _ _ _ _ _ _ _ h, setRow_heap _ _ _ _ _ _ h]
theorem st_grown {w w' : World} {tb : Nat} {row : Option Nat} {r o1 o2 o3 n v a : Value} (h : St w tb r o1 o2 o3 n v a) (hg : w.grownBy w' row) (hne : some tb ≠ row) : St w' tb r o1 o2 o3 n v a :=
  (hg.block tb (Array.getElem?_eq_some_iff.1 h).1 hne).trans h
theorem st_below {w w' : World} {tb : Nat} {r o1 o2 o3 n v a : Value} (h : St w tb r o1 o2 o3 n v a) (hg : Below w.heap.size w w') : St w' tb r o1 o2 o3 n v a :=
  (hg.block tb (Array.getElem?_eq_some_iff.1 h).1).trans h
theorem st_lt {w : World} {tb : Nat} {r o1 o2 o3 n v a : Value} (h : St w tb r o1 o2 o3 n v a) : tb < w.heap.size := (Array.getElem?_eq_some_iff.1 h).1

/-- A trie that is being built: its numbers, its map and its blocks are those of the first so many blocks of codes. -/
def Bd (h : Int → Int) (w wr : World) (B tb kn km kb : Nat) (rg o1 o2 o3 a6 vb : Value) : Prop :=
  St wr tb rg o1 o2 o3 (.slice (some ⟨B, 0, none⟩) 8704 8704) vb a6 ∧
  wr.heap[B]? = some (.cells (rowK .u16 8704 (fun i => if i < kn then (numv h i : Nat) else 0)) 63 (0, 0)) ∧
  (∃ D : DataW Unit, wr.ownsMap Try.prog 62 (plainElem Try.prog 63) (B + 1) km D ∧ Tie h km D) ∧
  wr.ownsRow (B + 2) 62 128 vb (kept h kb).length (cellsB (kept h kb)) ∧ w.grownBy wr (some tb) ∧ B + 2 ≤ wr.heap.size ∧ tb < B ∧ B = w.heap.size

theorem grown_below {w wr w1 : World} {row : Option Nat} (h : w.grownBy wr row) (hb : Below wr.heap.size wr w1) : w.grownBy w1 row :=
  ⟨hb.os.trans h.os, hb.tape.trans h.tape, hb.output.trans h.output, Nat.le_trans h.size hb.size, fun k hk hne => (hb.block k (Nat.lt_of_lt_of_le hk h.size)).trans (h.block k hk hne)⟩
theorem grown_set {w wr : World} {tb : Nat} (h : w.grownBy wr (some tb)) (a : Addr) (u : Value) (ha : a.block = tb ∨ w.heap.size ≤ a.block) : w.grownBy (wr.setCell a u) (some tb) := by
  refine ⟨h.os, h.tape, h.output, by simpa using h.size, fun k hk hne => ?_⟩
  rw [Below.heap_setCell _ _ _ _ (by
    rcases ha with e | e
    · rw [e]; exact fun q => hne (by rw [q])
    · omega)]
  exact h.block k hk hne
theorem grown_more {w wr w1 : World} {tb : Nat} {row : Option Nat} (h : w.grownBy wr (some tb)) (hg : wr.grownBy w1 row) (hr : ∀ k, row = some k → w.heap.size ≤ k ∨ k = tb) : w.grownBy w1 (some tb) := by
  refine ⟨hg.os.trans h.os, hg.tape.trans h.tape, hg.output.trans h.output, Nat.le_trans h.size hg.size, fun k hk hne => ?_⟩
  rw [hg.block k (Nat.lt_of_lt_of_le hk h.size) (fun q => by
    rcases hr k q.symm with e | e
    · omega
    · exact hne (by rw [e]))]
  exact h.block k hk hne
theorem map_below {w w1 : World} {k : TypeId} {R : Value → Option (DataW Unit × List MemPlace)} {b n : Nat} {D : DataW Unit} (h : w.ownsMap Try.prog k R b n D) (hb : Below w.heap.size w w1) : w1.ownsMap Try.prog k R b n D := by
  have hlt := h.lt
  obtain ⟨es, clock, hb', F, hs, hD⟩ := h
  exact ⟨es, clock, (hb.block b hlt).trans hb', F, hs, hD⟩
theorem heap_below {w w1 : World} {i : Nat} {o : Obj} (h : w.heap[i]? = some o) (hb : Below w.heap.size w w1) : w1.heap[i]? = some o := (hb.block i (Array.getElem?_eq_some_iff.1 h).1).trans h
theorem heap_grown {w w1 : World} {i : Nat} {o : Obj} {row : Option Nat} (h : w.heap[i]? = some o) (hb : w.grownBy w1 row) (hne : some i ≠ row) : w1.heap[i]? = some o := (hb.block i (Array.getElem?_eq_some_iff.1 h).1 hne).trans h

theorem zero63 (w : World) : (zeroValue 63).run Try.prog w = .ok (.int .u16 0) w := by kernel_rfl
theorem nums_next (h : Int → Int) (k : Nat) : rowK .u16 8704 (fun i => if i = k then ((numv h k : Nat) : Int) else if i < k then ((numv h i : Nat) : Int) else 0) = rowK .u16 8704 (fun i => if i < k + 1 then ((numv h i : Nat) : Int) else 0) :=
  rowK_congr fun j hj => by
    by_cases e : j = k
    · subst e; rw [if_pos rfl, if_pos (by omega)]
    · rw [if_neg e]
      by_cases q : j < k
      · rw [if_pos q, if_pos (by omega)]
      · rw [if_neg q, if_neg (by omega)]
theorem nums_start (h : Int → Int) : rowK .u16 8704 (fun _ => 0) = rowK .u16 8704 (fun i => if i < 0 then ((numv h i : Nat) : Int) else 0) := rowK_congr fun j hj => by rw [if_neg (by omega)]
theorem bd_below {h : Int → Int} {w wr w1 : World} {B tb kn km kb : Nat} {rg o1 o2 o3 a6 vb : Value} (d : Bd h w wr B tb kn km kb rg o1 o2 o3 a6 vb) (hb : Below wr.heap.size wr w1) : Bd h w w1 B tb kn km kb rg o1 o2 o3 a6 vb := by
  obtain ⟨d1, d2, ⟨D, d3, d4⟩, d5, d6, d7, d8, d9⟩ := d
  exact ⟨st_below d1 hb, heap_below d2 hb, ⟨D, map_below d3 hb, d4⟩, own_below d5 hb, grown_below d6 hb, Nat.le_trans d7 hb.size, d8, d9⟩
theorem bd_num {h : Int → Int} {w wr : World} {B tb km kb k : Nat} {rg o1 o2 o3 a6 vb : Value} (d : Bd h w wr B tb k km kb rg o1 o2 o3 a6 vb) (hk : k < 8704) : Bd h w (wr.setCell ⟨B, k, none⟩ (.int .u16 (numv h k : Nat))) B tb (k + 1) km kb rg o1 o2 o3 a6 vb := by
  obtain ⟨d1, d2, ⟨D, d3, d4⟩, d5, d6, d7, d8, d9⟩ := d
  refine ⟨?_, ?_, ⟨D, d3.setCell (by simp) _, d4⟩, ownsRow_setCell_below d5 (by simp) _, grown_set d6 _ _ (.inr (by simp; omega)), by simpa using d7, d8, d9⟩
  · unfold St at d1 ⊢
    rw [Below.heap_setCell _ _ _ _ (by simp; omega)]; exact d1
  · rw [setCell_eq_setRow _ _ _ _ _ _ _ d2, setRow_heap _ _ _ _ _ _ d2, rowK_set _ _ _ hk, nums_next h k]
theorem bd_map {h : Int → Int} {w wr w1 : World} {B tb kn km kb : Nat} {rg o1 o2 o3 a6 vb : Value} {D' : DataW Unit} (d : Bd h w wr B tb kn km kb rg o1 o2 o3 a6 vb) (hg : wr.grownBy w1 (some (B + 1))) (hown : w1.ownsMap Try.prog 62 (plainElem Try.prog 63) (B + 1) (km + 1) D') (ht : Tie h (km + 1) D') : Bd h w w1 B tb kn (km + 1) kb rg o1 o2 o3 a6 vb := by
  obtain ⟨d1, d2, _, d5, d6, d7, d8, d9⟩ := d
  refine ⟨st_grown d1 hg (by simp; omega), heap_grown d2 hg (by simp), ⟨D', hown, ht⟩, d5.kept hg ?_, grown_more d6 hg (fun k e => by cases e; omega), Nat.le_trans d7 hg.size, d8, d9⟩
  cases hv : vb.ownBlock with
  | none => exact .inl rfl
  | some g => exact .inr (fun e => by cases e; have := (d5.lt _ hv).1; omega)
theorem bd_app {h : Int → Int} {w wr w1 : World} {B tb kn km k : Nat} {rg o1 o2 o3 a6 vb : Value} {vb' : Value} {n : Nat} {cs : List Value} (d : Bd h w wr B tb kn km k rg o1 o2 o3 a6 vb) (hg : wr.grownBy w1 vb.ownBlock) (hown : w1.ownsRow (B + 2) 62 128 vb' n cs) (hn : n = (kept h (k + 1)).length) (hc : cs = cellsB (kept h (k + 1))) :
    Bd h w (w1.setCell ⟨tb, 5, none⟩ vb') B tb kn km (k + 1) rg o1 o2 o3 a6 vb' := by
  obtain ⟨d1, d2, ⟨D, d3, d4⟩, d5, d6, d7, d8, d9⟩ := d
  have hlo : ∀ g, vb.ownBlock = some g → B + 2 ≤ g := fun g e => (d5.lt g e).1
  have hst := st_grown d1 hg (fun e => by have := hlo _ e.symm; omega)
  subst hn hc
  refine ⟨?_, ?_, ⟨D, (d3.kept hg (fun e => by have := hlo _ e.symm; omega)).setCell (by simp; omega) _, d4⟩, ownsRow_setCell_below hown (by simp; omega) _, grown_set (grown_more d6 hg (fun g e => .inl (by have := hlo g e; omega))) _ _ (.inl rfl), ?_, d8, d9⟩
  · exact st_set hst 5 vb'
  · rw [Below.heap_setCell _ _ _ _ (by simp; omega)]
    exact heap_grown d2 hg (fun e => by have := hlo _ e.symm; omega)
  · have := hg.size; simp; omega
theorem bd_same {h : Int → Int} {w wr : World} {B tb kn k : Nat} {rg o1 o2 o3 a6 vb : Value} (d : Bd h w wr B tb kn k k rg o1 o2 o3 a6 vb) (hm : bl h k ∈ kept h k) : Bd h w wr B tb kn (k + 1) (k + 1) rg o1 o2 o3 a6 vb := by
  obtain ⟨d1, d2, ⟨D, d3, d4⟩, d5, d6, d7, d8, d9⟩ := d
  exact ⟨d1, d2, ⟨D, d3.mono (by omega), tie_old d4 hm⟩, by rw [kept_old hm]; exact d5, d6, d7, d8, d9⟩
theorem own_form {w : World} {base n size : Nat} {e : TypeId} {v : Value} {xs : List Value} (h : w.ownsRow base e size v n xs) : ∃ x c, v = .slice x n c := by
  rcases h.2 with ⟨rfl, rfl⟩ | ⟨g, cap, cur, rfl, _⟩
  · exact ⟨_, _, rfl⟩
  · exact ⟨_, _, rfl⟩
theorem info62 : (Try.prog.info? 62).map (fun i => (i.zero, i.size, i.bytes)) = some (some (.agg (Array.replicate 128 (.int .u8 0))), 128, 128) := by kernel_rfl
theorem rowU_ones (g : Nat → Int) : ∀ v ∈ (rowU g).toList, v.oneCell' = true := by
  intro v hv
  have := rowU_one g
  rw [Array.all_eq_true_iff_forall_mem] at this
  exact this v (by simpa using hv)
theorem kept_cells {h : Int → Int} {k : Nat} (hm : ¬ bl h k ∈ kept h k) : cellsB (kept h k) ++ (rowU (bf h k)).toList = cellsB (kept h (k + 1)) ∧ (kept h k).length + 1 = (kept h (k + 1)).length := by
  constructor
  · rw [kept_new hm, cellsB_app, bl_bf]; simp [cellsB]
  · rw [kept_new hm, List.length_append]; rfl
theorem row_range {w : World} {q : Nat} {g : Nat → Int} (h : w.heap[q]? = some (.cells (rowU g) 62 (0, 0))) : w.rangeAt q 0 (rowU g).toList := fun j v hj => by
  rw [Nat.zero_add, cell_of_row _ _ j _ _ _ h]; simpa using hj
theorem build53' {cs : List Value} (hc : cs.length = 128) (w : World) : (Instr.buildSlice 53 1 #[(0, .agg cs.toArray)]).run Try.prog w = .ok (.slice (some ⟨w.heap.size, 0, none⟩) 1 1) (w.alloc (.cells cs.toArray 62)) := build53 _ (by simpa using hc) w
theorem cell_alloc {w : World} {a : Addr} {v : Value} (h : w.cell? a = some v) (o : Obj) : (w.alloc o).cell? a = some v := (World.cell?_of_block (Below.heap_alloc w o a.block (cell_lt h))).trans h
theorem range_set {w : World} {q : Nat} {cs : List Value} (h : w.rangeAt q 0 cs) {a : Addr} (ha : q ≠ a.block) (u : Value) : (w.setCell a u).rangeAt q 0 cs := fun j v hv => by
  rw [World.cell?_setCell_other _ a _ _ (fun e => ha (by rw [e]))]; exact h j v hv
theorem range_grown {w w' : World} {q : Nat} {cs : List Value} {row : Option Nat} (h : w.rangeAt q 0 cs) (hg : w.grownBy w' row) (ha : some q ≠ row) : w'.rangeAt q 0 cs := fun j v hv => hg.cell (h j v hv) ha
/-- A trie that is built. -/
def Bt (h : Int → Int) (w : World) (tb : Nat) (o1 o2 o3 a6 : Value) (nb : Nat) (vb : Value) : Prop :=
  St w tb (.slice none 0 0) o1 o2 o3 (.slice (some ⟨nb, 0, none⟩) 8704 8704) vb a6 ∧ w.heap[nb]? = some (.cells (rowK .u16 8704 (fun i => (numv h i : Nat))) 63 (0, 0)) ∧ w.ownsRow 0 62 128 vb (kept h 8704).length (cellsB (kept h 8704))
theorem nums_end (h : Int → Int) : rowK .u16 8704 (fun i => if i < 8704 then ((numv h i : Nat) : Int) else 0) = rowK .u16 8704 (fun i => ((numv h i : Nat) : Int)) := rowK_congr fun j hj => by rw [if_pos hj]
theorem bd_end {h : Int → Int} {w wr : World} {B tb km : Nat} {rg o1 o2 o3 a6 vb : Value} (d : Bd h w wr B tb 8704 km 8704 rg o1 o2 o3 a6 vb) :
    w.grownBy (wr.setCell ⟨tb, 0, none⟩ (.slice none 0 0)) (some tb) ∧ ∃ nb vb, Bt h (wr.setCell ⟨tb, 0, none⟩ (.slice none 0 0)) tb o1 o2 o3 a6 nb vb := by
  obtain ⟨d1, d2, _, d5, d6, d7, d8, d9⟩ := d
  refine ⟨grown_set d6 _ _ (.inl rfl), B, vb, st_set d1 0 _, ?_, own_mono (ownsRow_setCell_below d5 (by simp; omega) _) (Nat.zero_le _)⟩
  rw [Below.heap_setCell _ _ _ _ (by simp; omega), d2, nums_end]
theorem bd_start {h : Int → Int} {w : World} {tb : Nat} {rg o1 o2 o3 a6 : Value} (hst : St w tb rg o1 o2 o3 (.slice none 0 0) (.slice none 0 0) a6) :
    Bd h w (((w.setCell ⟨tb, 4, none⟩ (.slice (some ⟨w.heap.size, 0, none⟩) 8704 8704)).alloc (.cells (rowK .u16 8704 fun _ => 0) 63)).alloc (.map #[] 0)) w.heap.size tb 0 0 0 rg o1 o2 o3 a6 (.slice none 0 0) := by
  have hlt := st_lt hst
  have e1 : (w.setCell ⟨tb, 4, none⟩ (.slice (some ⟨w.heap.size, 0, none⟩) 8704 8704)).heap.size = w.heap.size := by simp
  have e2 : ((w.setCell ⟨tb, 4, none⟩ (.slice (some ⟨w.heap.size, 0, none⟩) 8704 8704)).alloc (.cells (rowK .u16 8704 fun _ => 0) 63)).heap.size = w.heap.size + 1 := by simp
  have s1 := st_set hst 4 (.slice (some ⟨w.heap.size, 0, none⟩) 8704 8704)
  have n1 := heap_alloc_last (w.setCell ⟨tb, 4, none⟩ (.slice (some ⟨w.heap.size, 0, none⟩) 8704 8704)) (.cells (rowK .u16 8704 fun _ => 0) 63)
  have m1 := World.ownsMap_made ((w.setCell ⟨tb, 4, none⟩ (.slice (some ⟨w.heap.size, 0, none⟩) 8704 8704)).alloc (.cells (rowK .u16 8704 fun _ => 0) 63)) Try.prog 62 (plainElem (H := Unit) Try.prog 63)
  rw [e1] at n1
  rw [e2] at m1
  refine ⟨heap_alloc_old _ _ (heap_alloc_old _ _ s1), ?_, ⟨_, m1, tie_start h⟩, World.ownsRow_nil _ _ _ _, ?_, by simp, hlt, rfl⟩
  · rw [heap_alloc_old _ _ n1, nums_start h]
  · have g0 : w.grownBy w (some tb) := ⟨rfl, rfl, rfl, Nat.le_refl _, fun _ _ _ => rfl⟩
    exact grown_more (grown_more (grown_set g0 _ _ (.inl rfl)) (World.grownBy_alloc _ _ none) (fun k e => by cases e)) (World.grownBy_alloc _ _ none) (fun k e => by cases e)
theorem seg_grown {w wr : World} {tb len : Nat} {x : Option Addr} {zs : List Rg} (hs : SegR w x len zs) (hg : w.grownBy wr (some tb)) (hx : ∀ a, x = some a → a.block ≠ tb) : SegR wr x len zs := by
  obtain ⟨h1, h2⟩ := hs
  refine ⟨h1, ?_⟩
  rcases h2 with h2 | ⟨b, off, rfl, hc⟩
  · exact .inl h2
  · have hb := hx _ rfl
    refine .inr ⟨b, off, rfl, fun i hi => ?_⟩
    obtain ⟨c0, c1, c2⟩ := hc i hi
    exact ⟨hg.cell c0 (by simpa using hb), hg.cell c1 (by simpa using hb), hg.cell c2 (by simpa using hb)⟩

attribute [local go_sem ↓] wp_build53s wp_load62s
attribute [local go_sem] isBlk_agg cells_agg rowV_drew rowOk_drew
set_option maxRecDepth 100000 in
set_option maxHeartbeats 3200000 in
theorem build_any (tb : Nat) (x : Option Addr) (len cap : Nat) (zs : List Rg) (o1 o2 o3 a6 : Value) (w : World) (hst : St w tb (.slice x len cap) o1 o2 o3 (.slice none 0 0) (.slice none 0 0) a6)
    (hl : len ≤ 5000) (hcap : len ≤ cap) (hs : SegR w x len zs) (hx : ∀ a, x = some a → a.block ≠ tb) (hr : Rt 255 zs len) :
    Calls Try.prog 23 #[.pointer (some ⟨tb, 0, none⟩)] w fun e w' => e = .returned (.tuple #[]) ∧ w.grownBy w' (some tb) ∧ ∃ nb vb, Bt (hv zs len) w' tb o1 o2 o3 a6 nb vb := by
  have hmk := make52
  have hmm := @run_makeMap Try.prog
  obtain ⟨p0, p1, p2, p3, p4, p5, p6⟩ := st_cells hst
  have pf := st_free hst
  have hlt := st_lt hst
  have hne : ∀ j, (⟨tb, j, none⟩ : Addr).block < w.heap.size := fun _ => hlt
  go_enter Try.func23, Try.ntmps23
  go_wp2
  have hbd := bd_start (h := hv zs len) hst
  have HR := hide hr
  have HST := hide hst
  clear hst p0 p1 p2 p3 p4 p5 p6 pf hne hmk hmm hr
  generalize (((w.setCell ⟨tb, 4, none⟩ (.slice (some ⟨w.heap.size, 0, none⟩) 8704 8704)).alloc (.cells (rowK .u16 8704 fun _ => 0) 63)).alloc (.map #[] 0)) = W0 at *
  generalize hB : w.heap.size = B at *
  go_loopw [3, 23] (fun l i wr => ∃ (k d : Nat) (x' : Option Addr) (vb : Value), k ≤ 8704 ∧ i = .int .i64 k ∧ l = .slice x' (len - d) (cap - d) ∧ d ≤ len ∧ SegR w x' (len - d) (zs.drop d) ∧ x'.map (·.block) = x.map (·.block) ∧ (∀ i, i < d → (at' zs i).t < (k : Int) * 128) ∧
      Bd (hv zs len) w wr B tb k k k (.slice x len cap) o1 o2 o3 a6 vb) (fun _ i _ => 8704 - (intOf i).toNat)
  case atStart => exact ⟨0, 0, x, _, by omega, rfl, rfl, by omega, hs, rfl, fun i hi => by omega, hbd⟩
  case round =>
    obtain ⟨k, d, x', vb, hk, rfl, rfl, hd, hseg, hxb, hdt, hbd⟩ := hrel
    by_cases hlt : k < 8704
    · have hsr := hide (seg_grown hseg hbd.2.2.2.2.1 (fun a e => by
        subst e
        cases x with
        | none => simp at hxb
        | some a' => simp at hxb; rw [hxb]; exact hx a' rfl))
      have HD := hide hdt
      clear hdt
      go_wp2_with fail
      refine (ahead_any x' (len - d) (cap - d) _ (zs.drop d) wr (by omega) (by omega) hsr.out).mono ?_
      rintro e w1 ⟨x2, d2, hd2, rfl, hs2, hb2, hx2, hw⟩
      rw [hw]
      have hseg2 := hs2 w hseg
      have hsr2 := hs2 wr hsr.out
      rw [List.drop_drop, show len - d - d2 = len - (d + d2) by omega] at hseg2 hsr2
      have hdt2 : ∀ i, i < d + d2 → (at' zs i).t < (k : Int) * 128 := fun i hi => by
        by_cases q : i < d
        · exact HD.out i q
        · have := hb2 (i - d) (by omega)
          rw [at_drop, show d + (i - d) = i by omega] at this
          exact this
      have hxb2 := hx2.trans hxb
      rw [show len - d - d2 = len - (d + d2) by omega, show cap - d - d2 = cap - (d + d2) by omega]
      have hd3 : d + d2 ≤ len := by omega
      generalize d + d2 = d3 at *
      have HSEG := hide hseg2
      have HD3 := hide hdt2
      clear hs2 hsr hseg hb2 hx2 hxb HD hw hd2 hd hseg2 hdt2
      go_wp2_with fail
      refine (fill_any x2 (len - d3) (cap - d3) _ (zs.drop d3) wr (by omega) hsr2 (rt_drop HR.out hd3) (by omega) (by omega)).mono ?_
      rintro e w1 ⟨rfl, hb1⟩
      have hrow : rowU (fun (j : Nat) => hv (zs.drop d3) (len - d3) ((k : Int) * 128 + (j : Int))) = rowU (bf (hv zs len) k) := rowU_congr fun j hj => hv_drop HR.out hd3 (fun i hi => by have := HD3.out i hi; omega)
      rw [hrow]
      have hbd1 := bd_below hbd hb1
      have HBY := hide (show Byt (bf (hv zs len) k) from fun j hj => hv_bd _ HR.out)
      clear hrow hb1 hbd hsr2
      obtain ⟨hv62, hi62⟩ := zero_of_info zero62
      rw [rowU_zero] at hv62
      have hsz := rowU_size (bf (hv zs len) k)
      have HSC := hide (run_storeCells_new (P := Try.prog) w1 62 (rowU fun _ => 0) (rowU (bf (hv zs len) k)) (by rw [hsz]; exact hi62) (by rw [hsz, rowU_size]) (rowU_one _))
      go_wp2_with fail
      simp only [Result.andThen, HSC.out]
      rw [Oper.upon_skip]
      have hbd2 := bd_below hbd1 ((Below.refl _ _).alloc (Nat.le_refl _) (.cells (rowU (bf (hv zs len) k)) 62))
      have hq := heap_alloc_last w1 (.cells (rowU (bf (hv zs len) k)) 62)
      have hq2 : B + 2 ≤ w1.heap.size := hbd1.2.2.2.2.2.1
      have hgq : ∀ g, vb.ownBlock = some g → g < w1.heap.size := fun g e => (hbd1.2.2.2.1.lt g e).2
      clear HSC hbd1 hv62
      generalize w1.alloc (.cells (rowU (bf (hv zs len) k)) 62) = W1 at *
      generalize w1.heap.size = q at *
      have HBA := hide (show ∀ i, Byt (bf (hv zs len) i) from fun i j hj => hv_bd _ HR.out)
      generalize hhv : hv zs len = h at *
      have HH := hide hhv
      clear hhv
      have hn16 := numv_at (h := h) hlt
      have hn17 : numv (h) k < 8704 := by have := numv_lt (h) k; have := kept_len (h) (k + 1); omega
      obtain ⟨D, hown, htie⟩ := hbd2.2.2.1
      have HB2 := hide hbd2
      have HTI := hide htie
      have HSZ := hide hsz
      have HI := hide hi62
      have HQ := hide hq
      obtain ⟨q0, q1, q2, q3, q4, q5, q6⟩ := st_cells hbd2.1
      have qf := st_free hbd2.1
      have n0 := cell_of_row _ _ k _ _ _ hbd2.2.1
      rw [rowK_at _ _ hlt] at n0
      have nf : W1.frozen? ⟨B, k, none⟩ = false := by simp [World.frozen?, hbd2.2.1]
      have i0 : (0 : Int) ≤ (k : Int) := by omega
      have i1 : (k : Int) < 8704 := by omega
      by_cases hm : bl (h) k ∈ kept (h) k
      · have hhas : Maps.has D (klP Try.prog (bf (h) k)) = true := by rw [(htie k).1]; simp [hm]
        have hat0 := (htie k).2 hm
        rw [← numv_old hm] at hat0
        have HM := hide hm
        clear hbd2 htie hsz hi62 hq hm
        generalize hnv : numv (h) k = nv at *
        go_wp2_with (first
          | refine wpList_load_row rfl 62 _ rfl q rfl 62 _ (0, 0) _ HQ.out Try.underlying62 rfl (by rw [HSZ.out]; exact HI.out) ?_
          | (at_lookup; refine wpList_lookup_own_ok_int _ rfl _ _ 77 rfl 62 63 .u16 law62 Try.underlying77 Try.underlying63 (zero63 _) (B + 1) k D rfl hown _ _ rfl (key_of HBY.out) ?_; intro c hat hwc; rw [hhas]; obtain rfl : c = (nv : Int) := by (rw [hat0] at hat; injection hat with h1; injection h1 with _ h2; exact h2.symm)))
        have hend := bd_num HB2.out hlt
        rw [hnv] at hend
        have hend2 := bd_same hend HM.out
        rw [← HH.out] at hend2
        refine ⟨⟨k + 1, d3, x2, vb, by omega, by go_num, rfl, hd3, HSEG.out, hxb2, fun i hi => by have := HD3.out i hi; omega, hend2⟩, ?_⟩
        simp [intOf]; omega
      · have hhas : Maps.has D (klP Try.prog (bf (h) k)) = false := by rw [(htie k).1]; simp [hm]
        have HNV := hide (numv_new hm)
        have HM := hide hm
        obtain ⟨xb, cb, rfl⟩ := own_form hbd2.2.2.2.1
        have hnk := kept_len (h) k
        clear hbd2 htie hsz hi62 hq hm n0 hn16 hn17
        generalize hnk0 : (kept (h) k).length = nk at *
        have hnk1 : nk ≤ 8704 := by omega
        go_wp2_with (first
          | refine wpList_load_row rfl 62 _ rfl q rfl 62 _ (0, 0) _ HQ.out Try.underlying62 rfl (by rw [HSZ.out]; exact HI.out) ?_
          | (at_lookup; refine wpList_lookup_own_ok_int _ rfl _ _ 77 rfl 62 63 .u16 law62 Try.underlying77 Try.underlying63 (zero63 _) (B + 1) k D rfl hown _ _ rfl (key_of HBY.out) ?_; intro c hat hwc; rw [hhas])
          | (at_mapUpdate; refine wpList_mapUpdate_own _ rfl _ _ _ 77 rfl 62 63 law62 Try.underlying77 _ (B + 1) k _ rfl hown (by unfold maxLen; omega) _ _ _ rfl rfl (key_of HBY.out) _ [] (plainElem_int Try.underlying63 (WalkArith.wf_u16 (by omega))) ?_; intro w2 hown2 hg2))
        have htn := tie_new HBA.out HTI.out hown.isMap HM.out
        rw [hnk0] at htn
        have hbd3 := bd_map HB2.out hg2 hown2 htn
        have hq3 := heap_grown HQ.out hg2 (by simp; omega)
        have hrv := rowV_at hq3
        have hro := rowOk_at hq3 HSZ.out
        rw [← Array.toArray_toList (xs := rowU (bf h k))] at hrv
        have hcl : (rowU (bf h k)).toList.length = 128 := by simpa using HSZ.out
        have hone := rowU_ones (bf h k)
        have HNEW := hide (kept_cells HM.out)
        have HB3 := hide hbd3
        obtain ⟨q0, q1, q2, q3, q4, q5, q6⟩ := st_cells hbd3.1
        have hB2 : B + 2 ≤ w2.heap.size := hbd3.2.2.2.2.2.1
        have qf2 := st_free hbd3.1 5
        have qfa : ∀ o, (w2.alloc o).frozen? ⟨tb, 5, none⟩ = false := fun o => (World.frozen?_of_block (a := ⟨tb, 5, none⟩) (Below.heap_alloc w2 o tb (st_lt hbd3.1))).trans qf2
        have htB : tb < B := hbd3.2.2.2.2.2.2.1
        have hu62 := Try.underlying62
        have hi62 := HI.out
        rw [← hcl] at hi62
        obtain ⟨ii, hi, hz0, hz1, hz2⟩ := info_parts info62
        have how0 := hbd3.2.2.2.1
        rw [hnk0] at how0
        have how := hide how0
        have hlo : ∀ g, (Value.slice xb nk cb).ownBlock = some g → B + 2 ≤ g := fun g e => (how.out.lt g e).1
        clear hq3 htn how0 hg2 hown2 hown hbd3 hhas hat hwc qf nf HI HTI HB2 HQ HM HSZ
        generalize (rowU (bf h k)).toList = cs at *
        generalize cellsB (kept h k) = ks at *
        go_frame
        have hq5a : ∀ o, (w2.alloc o).cell? ⟨tb, 5, none⟩ = some (.slice xb nk cb) := fun o => cell_alloc q5 o
        go_region_law ((refine step_append_lies _ (by rfl) _ _ 53 (by rfl) (B + 2) 62 ii (.agg (Array.replicate 128 (.int .u8 0))) 128 128 Try.underlying53 hi hz0 hz1 hz2 (by simp [Value.cells]) (by omega) (.slice xb nk cb) nk ks (by rfl) (how.out.alloc _).drew ⟨w2.heap.size, 0, none⟩ 1 1 cs (by rfl) (by omega) (World.news_of_block (cs := cs.toArray) (heap_alloc_last w2 _)) hone (by omega) (by unfold maxLen; omega) (by omega) (by simp; omega) (w2.heap.size + 1) (by simp) ?_; intro g cap' w3 hown3 hgrow3 hat3 hlt3; have c53 := hgrow3.cell (hq5a _) (fun e => by have := hlo _ e.symm; simp at this; omega); have f53 := (World.frozen?_of_block (a := ⟨tb, 5, none⟩) (hgrow3.block tb (by simp; omega) (fun e => by have := hlo _ e.symm; omega))).trans (qfa _)))
        all_goals
          have hbd4 := bd_app (bd_below HB3.out (((Below.refl _ _).alloc (Nat.le_refl _) (.cells cs.toArray 62)).drew)) hgrow3 hown3 (by rw [← HNEW.out.2, hnk0]) HNEW.out.1
          clear hgrow3 hown3 hat3 hlt3 c53 f53 q0 q1 q2 q3 q4 q5 q6 hq5a qfa qf2
          generalize w3.setCell ⟨tb, 5, none⟩ (.slice (some ⟨g, 0, none⟩) (nk + 1) cap') = W4 at *
          obtain ⟨q0, q1, q2, q3, q4, q5, q6⟩ := st_cells hbd4.1
          have n0 := cell_of_row _ _ k _ _ _ hbd4.2.1
          rw [rowK_at _ _ hlt] at n0
          have nf : W4.frozen? ⟨B, k, none⟩ = false := by simp [World.frozen?, hbd4.2.1]
          have HB4 := hide hbd4
          clear hbd4
          go_wp2
          have hend := bd_num HB4.out hlt
          rw [HNV.out, ← HH.out] at hend
          refine ⟨⟨k + 1, d3, x2, _, by omega, by go_num, rfl, hd3, HSEG.out, hxb2, fun i hi => by have := HD3.out i hi; omega, hend⟩, ?_⟩
          simp [intOf]; omega
    · have e : k = 8704 := by omega
      subst e
      obtain ⟨q0, q1, q2, q3, q4, q5, q6⟩ := st_cells hbd.1
      have qf := st_free hbd.1
      have HB := hide hbd
      clear hbd
      go_wp2
      go_end0
      exact ⟨rfl, bd_end HB.out⟩
end Go.Proofs.Ytooiomfcemceiaa.A
