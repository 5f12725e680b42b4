/- The program's turn. -/
import Derived.Test.YtgjjmcgmdlfdaaaDoorV
namespace Go.Proofs.YtgjjmcgmdlfdaaaDoor.A
open Go.RowKit

theorem info40 : (Tryd.prog.info? 40).map (fun i => (i.zero, i.size, i.bytes)) = some (some (.agg #[.int .u8 0, .int .u16 0, .slice none 0 0]), 3, 32) := by kernel_rfl
/-- A struct of three cells. -/
def St3 (w : World) (b : Nat) (k s : Nat) (v : Value) : Prop := w.heap[b]? = some (.cells #[.int .u8 k, .int .u16 s, v] 40 (0, 0))
theorem st3_cells {w : World} {b k s : Nat} {v : Value} (h : St3 w b k s v) : w.cell? ⟨b, 0, none⟩ = some (.int .u8 k) ∧ w.cell? ⟨b, 1, none⟩ = some (.int .u16 s) ∧ w.cell? ⟨b, 2, none⟩ = some v ∧ ∀ j, w.frozen? ⟨b, j, none⟩ = false := by
  unfold St3 at h
  refine ⟨?_, ?_, ?_, fun j => ?_⟩ <;> simp [World.cell?, World.frozen?, h]
theorem st3_set {w : World} {b k s : Nat} {v : Value} (h : St3 w b k s v) (u : Value) : St3 (w.setCell ⟨b, 2, none⟩ u) b k s u := by
  unfold St3 at h ⊢
  rw [setCell_eq_setRow _ _ _ _ _ _ _ h, setRow_heap _ _ _ _ _ _ h]
  rfl
theorem st3_lt {w : World} {b k s : Nat} {v : Value} (h : St3 w b k s v) : b < w.heap.size := (Array.getElem?_eq_some_iff.1 h).1
theorem st3_below {w w' : World} {b k s B : Nat} {v : Value} (h : St3 w b k s v) (hb : Below B w w') (hB : b < B) : St3 w' b k s v := (hb.block b hB).trans h
theorem st3_grown {w w' : World} {b k s : Nat} {v : Value} {r : Option Nat} (h : St3 w b k s v) (hg : w.grownBy w' r) (hr : some b ≠ r) : St3 w' b k s v := (hg.block b (st3_lt h) hr).trans h
theorem one_newN (w : World) (x : Nd) (t : TypeId) : ∀ j u, (cellsO x)[j]? = some u → (w.alloc (.cells #[.int .u8 x.k, .int .u16 x.s, .slice x.a x.l x.c] t)).cell? ((⟨w.heap.size, 0, none⟩ : Addr).add j) = some u := by
  intro j u hj
  match j with
  | 0 => simp [cellsO] at hj; subst hj; simp [Addr.add]
  | 1 => simp [cellsO] at hj; subst hj; simp [Addr.add]
  | 2 => simp [cellsO] at hj; subst hj; simp [Addr.add]
  | j + 3 => simp [cellsO] at hj

/-- What a call has made: an expression in new memory. -/
def Makes (w : World) (n : Nat) (t : Ex n) (e : Ending) (w' : World) : Prop := ∃ (y : Nd) (S : List Nat), e = .returned (.agg #[.int .u8 y.k, .int .u16 y.s, .slice y.a y.l y.c]) ∧ Tr w' n t y S ∧ S.Nodup ∧ (∀ b ∈ S, w.heap.size ≤ b) ∧ Below w.heap.size w w'
theorem sum_mem {α : Type} (f : α → Nat) : ∀ (l : List α) (x : α), x ∈ l → f x ≤ (l.map f).sum
  | [], x, h => by cases h
  | y :: r, x, h => by
    rw [List.map_cons, List.sum_cons]
    rcases List.mem_cons.1 h with rfl | h
    · omega
    · have := sum_mem f r x h; omega
theorem sum_len {α : Type} (f : α → Nat) : ∀ (l : List α), (∀ x ∈ l, 1 ≤ f x) → l.length ≤ (l.map f).sum
  | [], _ => Nat.le_refl _
  | y :: r, h => by
    rw [List.map_cons, List.sum_cons, List.length_cons]
    have := sum_len f r (fun x hx => h x (by simp [hx]))
    have := h y (by simp)
    omega
theorem real_pos {n : Nat} {t : Ex n} (h : full n t) : 1 ≤ realN n t := by
  cases n with
  | zero => exact h.elim
  | succ n => show 1 ≤ 1 + _; omega
theorem real_len {n : Nat} {t : Ex (n + 1)} (h : full (n + 1) t) : (ks t).length + 1 ≤ realN (n + 1) t := by
  have := sum_len (fun x => realN n x) (ks t) (fun x hx => real_pos (h x hx))
  show _ ≤ 1 + ((ks t).map (fun x => realN n x)).sum
  omega
theorem real_kid {n : Nat} {t : Ex (n + 1)} {x : Ex n} (h : x ∈ ks t) : realN n x ≤ realN (n + 1) t := by
  have := sum_mem (fun x => realN n x) (ks t) x h
  show _ ≤ 1 + ((ks t).map (fun x => realN n x)).sum
  omega

/-- One part more. -/
theorem mkg_next {base q k s : Nat} {wr w2 w3 : World} {n : Nat} {l : List (Ex n)} {v : Value} {ys : List Nd} {Ss : List (List Nat)} (h : Mkg base wr n l v ys Ss) (hst : St3 wr q k s v) (hq : q < base) {lo : Nat} (hlo : wr.heap.size ≤ lo) (hbase : base ≤ wr.heap.size) {e : Ex n} {y : Nd} {T : List Nat}
    (hT : Tr w2 n e y T) (hTn : T.Nodup) (hTl : ∀ b ∈ T, lo ≤ b) (hb : Below lo wr w2) {g cap : Nat} (o : Obj)
    (hown : w3.ownsRow base 40 3 (.slice (some ⟨g, 0, none⟩) (l.length + 1) cap) (l.length + 1) (cellsN ys ++ cellsO y)) (hgrow : (w2.alloc o).grownBy w3 v.ownBlock) (hat : v.ownBlock = some g ∨ g = w2.heap.size + 1) :
    Mkg base (w3.setCell ⟨q, 2, none⟩ (.slice (some ⟨g, 0, none⟩) (l.length + 1) cap)) n (l ++ [e]) (.slice (some ⟨g, 0, none⟩) (l.length + 1) cap) (ys ++ [y]) (Ss ++ [T]) ∧
    St3 (w3.setCell ⟨q, 2, none⟩ (.slice (some ⟨g, 0, none⟩) (l.length + 1) cap)) q k s (.slice (some ⟨g, 0, none⟩) (l.length + 1) cap) ∧
    Below q wr (w3.setCell ⟨q, 2, none⟩ (.slice (some ⟨g, 0, none⟩) (l.length + 1) cap)) := by
  have hv : ∀ g, v.ownBlock = some g → base ≤ g ∧ g < wr.heap.size := fun g hg => h.1.lt g hg
  have hb0 : Below wr.heap.size wr w2 := hb.mono hlo
  have h2 := mkg_below h hb0
  have h3 := mkg_below h2 ((Below.refl w2.heap.size w2).alloc (Nat.le_refl _) o)
  have hTw := tr_lt n e y T hT
  have hT3 : Tr (w2.alloc o) n e y T := tr_keep n e y T (fun b hb' => Below.heap_alloc _ _ _ (hTw b hb')) hT
  have s2 := st3_below (st3_below hst hb0 (st3_lt hst)) ((Below.refl w2.heap.size w2).alloc (Nat.le_refl _) o) (by have := st3_lt hst; have := hb0.size; omega)
  have s3 := st3_grown s2 hgrow (fun e => by have := (hv q e.symm).1; omega)
  have m := mkg_app h3 hT3 hTn (lo := lo) (fun b hb' => ⟨hTl b hb', by have := hTw b hb'; simp; omega⟩) (by omega) (fun b hb' => by have := (h.2.2.2.2.2.1 b hb').2; omega) (fun g hg => by have := (hv g hg).2; omega) hown hgrow (by simpa using hat)
  refine ⟨mkg_set m hq _, st3_set s3 _, ?_⟩
  have b1 : Below base wr (w2.alloc o) := (hb.mono (by omega)).alloc (by have := hb0.size; omega) o
  exact ((b1.grown hgrow (by have := hb0.size; simp; omega) (fun g hg => (hv g hg).1)).mono (by omega)).setCell (by simp) _
end Go.Proofs.YtgjjmcgmdlfdaaaDoor.A
