/- A block as a slice of one; numbers as cells. -/
import Derived.Test.YtooiomfcemceiaaQ
import Derived.Deep.OwnRows
namespace Go.Proofs.Ytooiomfcemceiaa.A
open Go.RowKit Go.Maps

theorem fold_at : ∀ (l : List Value) (k : Nat) (cells : Array Value) (i : Nat), ((l.zipIdx k).foldl (fun cs p => cs.setIfInBounds (0 + p.2) p.1) cells)[i]? = if k ≤ i ∧ i < k + l.length ∧ i < cells.size then l[i - k]? else cells[i]?
  | [], k, cells, i => by
    rw [if_neg (by simp; omega)]; rfl
  | x :: r, k, cells, i => by
    rw [List.zipIdx_cons, List.foldl_cons, fold_at r (k + 1) _ i]
    simp only [Array.size_setIfInBounds, List.length_cons, Nat.zero_add]
    by_cases h : i = k
    · subst h
      rw [if_neg (by omega)]
      by_cases h2 : i < cells.size
      · rw [if_pos ⟨by omega, by omega, h2⟩]
        simp [h2]
      · rw [if_neg (by omega), Array.getElem?_eq_none (by simp; omega), Array.getElem?_eq_none (by omega)]
    · have hk : (cells.setIfInBounds k x)[i]? = cells[i]? := by rw [Array.getElem?_setIfInBounds, if_neg (fun e => h e.symm)]
      rw [hk]
      by_cases h2 : k ≤ i ∧ i < k + (r.length + 1) ∧ i < cells.size
      · rw [if_pos h2, if_pos (show k + 1 ≤ i ∧ i < k + 1 + r.length ∧ i < cells.size from ⟨by omega, by omega, by omega⟩)]
        rw [show i - k = (i - (k + 1)) + 1 by omega]
        simp
      · rw [if_neg h2, if_neg (by omega)]
theorem fold_all (c cells : Array Value) (h : c.size = cells.size) : c.zipIdx.foldl (fun cs p => cs.setIfInBounds (0 + p.2) p.1) cells = c := by
  apply Array.ext_getElem?
  intro i
  rw [← Array.foldl_toList, Array.toList_zipIdx, fold_at]
  by_cases hi : i < c.size
  · rw [if_pos ⟨by omega, by simpa using hi, by omega⟩]
    simp
  · rw [if_neg (by simp; omega), Array.getElem?_eq_none (by omega), Array.getElem?_eq_none (by omega)]
theorem build53 (c : Array Value) (hc : c.size = 128) (w : World) : (Instr.buildSlice 53 1 #[(0, .agg c)]).run Try.prog w = .ok (.slice (some ⟨w.heap.size, 0, none⟩) 1 1) (w.alloc (.cells c 62)) := by
  obtain ⟨hv62, hi62⟩ := zero_of_info zero62
  have hs : ∀ w, (sizeOf 62).run Try.prog w = .ok 128 w := by
    intro w
    cases hq : Try.prog.info? 62 with
    | none => simp [hq] at hi62
    | some i => simp [hq] at hi62; simp [sizeOf, typeInfo, hq, hi62]
  have e := fold_all c ((Array.range (1 * 128)).map (fun x => (Array.replicate 128 (Value.int IntKind.u8 0))[x % (Array.replicate 128 (Value.int IntKind.u8 0)).size]!)) (by simp [hc])
  simp only [Instr.buildSlice, Sem.run_bind, run_underlying Try.underlying53, Result.andThen_ok, hs, Value.cells]
  rw [if_neg (by omega), if_neg (by omega)]
  simp only [Sem.run_bind, Sem.run_pure, hv62, Result.andThen_ok, Value.cells, Instr.fill, Nat.zero_mul, e, hc]
  rw [if_neg (by simp)]
  simp [newRow]

/-- Numbers as cells. -/
def rowK (q : IntKind) (n : Nat) (g : Nat → Int) : Array Value := ((List.range n).map fun (j : Nat) => Value.int q (g j)).toArray
theorem rowK_size (q : IntKind) (n : Nat) (g : Nat → Int) : (rowK q n g).size = n := by simp [rowK]
theorem rowK_at (q : IntKind) {n : Nat} (g : Nat → Int) {j : Nat} (h : j < n) : (rowK q n g)[j]? = some (.int q (g j)) := by simp [rowK, h]
theorem rowK_congr {q : IntKind} {n : Nat} {g h : Nat → Int} (e : ∀ j, j < n → g j = h j) : rowK q n g = rowK q n h := by
  unfold rowK
  congr 1
  refine List.map_congr_left fun j hj => ?_
  rw [e j (by simpa using hj)]
theorem rowK_set (q : IntKind) {n : Nat} (g : Nat → Int) {j : Nat} (v : Int) (h : j < n) : (rowK q n g).setIfInBounds j (.int q v) = rowK q n (fun i => if i = j then v else g i) := by
  apply Array.ext_getElem?
  intro i
  by_cases hi : i < n
  · rw [rowK_at _ _ hi]
    by_cases e : i = j
    · subst e; simp [rowK_size, h]
    · rw [Array.getElem?_setIfInBounds, if_neg (fun q => e q.symm), rowK_at _ _ hi, if_neg e]
  · rw [Array.getElem?_eq_none (by simp [rowK_size]; omega), Array.getElem?_eq_none (by simp [rowK_size]; omega)]
theorem rowK_zero (q : IntKind) (n : Nat) : madeCells #[.int q 0] n = rowK q n (fun _ => 0) := by
  apply Array.ext_getElem?
  intro i
  by_cases hi : i < n
  · rw [rowK_at _ _ hi]; simp [madeCells, hi, Nat.mod_one]
  · rw [Array.getElem?_eq_none (by simp [madeCells]; omega), Array.getElem?_eq_none (by simp [rowK_size]; omega)]

/-- The number of a block, as it is laid down when the block is met. -/
def numv (h : Int → Int) (i : Nat) : Nat := (kept h (i + 1)).idxOf (bl h i)
/-- What the codes of a block have, as a function. -/
def bf (h : Int → Int) (i : Nat) : Nat → Int := fun j => h ((i : Int) * 128 + (j : Int))
theorem bl_bf (h : Int → Int) (i : Nat) : (rowU (bf h i)).toList = (bl h i).map (Value.int .u8) := by simp [rowU, bl, bf]
theorem bf_of_bl {h : Int → Int} {i k : Nat} (e : bl h i = bl h k) : ∀ j, j < 128 → bf h i j = bf h k j := by
  intro j hj
  have := congrArg (fun l : List Int => l[j]?) e
  simp only [bl_at _ _ _ hj, Option.some.injEq] at this
  exact this
theorem bl_of_bf {h : Int → Int} {i k : Nat} (e : ∀ j, j < 128 → bf h i j = bf h k j) : bl h i = bl h k := by
  unfold bl
  exact List.map_congr_left fun j hj => e j (by simpa using hj)
theorem kept_prefix (h : Int → Int) : ∀ n k, k ≤ n → ∃ r, kept h n = kept h k ++ r
  | 0, k, hk => ⟨[], by rw [show k = 0 by omega]; simp⟩
  | n + 1, k, hk => by
    by_cases e : k = n + 1
    · exact ⟨[], by rw [e]; simp⟩
    · obtain ⟨r, hr⟩ := kept_prefix h n k (by omega)
      by_cases q : bl h n ∈ kept h n
      · exact ⟨r, by rw [kept_old q, hr]⟩
      · exact ⟨r ++ [bl h n], by rw [kept_new q, hr, List.append_assoc]⟩
theorem numv_lt (h : Int → Int) (i : Nat) : numv h i < (kept h (i + 1)).length := List.idxOf_lt_length_iff.2 ((kept_mem h _ _).2 ⟨i, by omega, rfl⟩)
theorem numv_at {h : Int → Int} {i n : Nat} (hi : i < n) : numv h i < (kept h n).length ∧ (kept h n).getD (numv h i) [] = bl h i := by
  obtain ⟨r, hr⟩ := kept_prefix h n (i + 1) (by omega)
  have hlt := numv_lt h i
  refine ⟨by rw [hr, List.length_append]; omega, ?_⟩
  rw [hr, List.getD_eq_getElem?_getD, List.getElem?_append_left hlt, List.getElem?_eq_getElem hlt]
  simp [numv]
theorem numv_old {h : Int → Int} {k : Nat} (hm : bl h k ∈ kept h k) : numv h k = (kept h k).idxOf (bl h k) := by unfold numv; rw [kept_old hm]
theorem numv_new {h : Int → Int} {k : Nat} (hm : ¬ bl h k ∈ kept h k) : numv h k = (kept h k).length := by
  unfold numv
  rw [kept_new hm, List.idxOf_append, if_neg hm]
  simp

/-- The map tells which blocks are kept, and where. -/
def Tie (h : Int → Int) (k : Nat) (D : DataW Unit) : Prop :=
  ∀ i : Nat, Maps.has D (klP Try.prog (bf h i)) = decide (bl h i ∈ kept h k) ∧ (bl h i ∈ kept h k → D.atKey (klP Try.prog (bf h i)) (.lit (.int .u16 0)) = .lit (.int .u16 ((kept h k).idxOf (bl h i) : Nat)))
theorem tie_start (h : Int → Int) : Tie h 0 (.map []) := fun i => ⟨by simp [Maps.has, kept], fun q => by simp [kept] at q⟩
theorem tie_old {h : Int → Int} {k : Nat} {D : DataW Unit} (t : Tie h k D) (hm : bl h k ∈ kept h k) : Tie h (k + 1) D := fun i => by rw [kept_old hm]; exact t i
theorem tie_new {h : Int → Int} (hb : ∀ i, Byt (bf h i)) {k : Nat} {D : DataW Unit} (t : Tie h k D) (hD : IsMap D) (hm : ¬ bl h k ∈ kept h k) :
    Tie h (k + 1) (D.put (klP Try.prog (bf h k)) (.lit (.int .u16 ((kept h k).length : Nat)))) := by
  intro i
  rw [kept_new hm]
  by_cases e : bl h i = bl h k
  · have ek : klP Try.prog (bf h i) = klP Try.prog (bf h k) := by unfold klP; rw [rowU_congr (bf_of_bl e)]
    rw [ek, e, has_put_same hD (law62.key (key_of (hb k))), atKey_put_same hD (law62.key (key_of (hb k)))]
    refine ⟨by simp, fun _ => ?_⟩
    rw [List.idxOf_append, if_neg hm]
    simp
  · have ek : klP Try.prog (bf h i) ≠ klP Try.prog (bf h k) := fun q => e (bl_of_bf (kl_inj (hb i) (hb k) q))
    rw [has_put_other ek, atKey_put_other ek, (t i).1]
    refine ⟨by simp [e], fun q => ?_⟩
    have q' : bl h i ∈ kept h k := by simpa [e] using q
    rw [(t i).2 q', List.idxOf_append, if_pos q']
end Go.Proofs.Ytooiomfcemceiaa.A
