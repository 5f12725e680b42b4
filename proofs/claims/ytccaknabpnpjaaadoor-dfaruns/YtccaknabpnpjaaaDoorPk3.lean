/- The document's Right, Same. -/
import Derived.Test.YtccaknabpnpjaaaDoorPk2
import Derived.Deep.RegionHeld3
import Derived.OpenShut
import Derived.Deep.Slices
import Derived.Deep.Strs
import Derived.Deep.OwnRows
import Derived.Deep.WholeRow
namespace Go.Proofs.YtccaknabpnpjaaaDoor.A
open Go.RowKit

theorem rx_form {w : World} {n : Nat} {t : Ex n} {v : Value} (h : Rx w n t v) : ∃ c0 c1 c2, v = .agg #[c0, c1, c2] := by
  cases n with
  | zero => exact h.elim
  | succ n => obtain ⟨a, len, cap, e, _⟩ := h; exact ⟨_, _, _, e⟩

end Go.Proofs.YtccaknabpnpjaaaDoor.A

/- An expression that came in. -/
namespace Go.Proofs.YtccaknabpnpjaaaDoor.A
open Go.RowKit Go.ChangeShapes Go.WideShapes Go.Deep

def exI : (n : Nat) → Ex n | 0 => () | _ + 1 => (0, 0, [])
/-- The same, with room for a level more. -/
def liftE : (n : Nat) → Ex n → Ex (n + 1)
  | 0, _ => (0, 0, [])
  | n + 1, t => (kd t, st t, (ks t).map (fun x => liftE n x))
theorem rx_lift {w : World} : ∀ (n : Nat) (t : Ex n) (v : Value), Rx w n t v → Rx w (n + 1) (liftE n t) v
  | 0, _, _, h => h.elim
  | n + 1, t, _, ⟨a, len, cap, h1, h2, h3, h4, h5, h6, h7⟩ => by
    refine ⟨a, len, cap, h1, h2, h3, h4, h5, ?_, ?_⟩
    · show ((ks t).map (fun x => liftE n x)).length = len
      rw [List.length_map]; exact h6
    · rcases h7 with h7 | ⟨b, off, e, h7⟩
      · exact .inl h7
      · refine .inr ⟨b, off, e, fun i y hy => ?_⟩
        have hy' : ((ks t).map (fun x => liftE n x))[i]? = some y := hy
        rw [List.getElem?_map] at hy'
        obtain ⟨x, hx, rfl⟩ := Option.map_eq_some_iff.1 hy'
        obtain ⟨c0, c1, c2, p0, p1, p2, p3⟩ := h7 i x hx
        exact ⟨c0, c1, c2, p0, p1, p2, rx_lift n x _ p3⟩
theorem cells42 : Tryd.prog.cellsOf 42 = 3 := by kernel_rfl
theorem cells5 : Tryd.prog.cellsOf 5 = 1 := by kernel_rfl
theorem cells39 : Tryd.prog.cellsOf 39 = 1 := by kernel_rfl
theorem cells40 : Tryd.prog.cellsOf 40 = 1 := by kernel_rfl
set_option maxRecDepth 100000 in
theorem open_ex {H : Type} {enc : TypeId × Value → H} {W : World} {sp : Nat → Bool} : ∀ (fuel : Nat) (cs : List Value) (x : DataW H × List MemPlace), DataW.trod enc Tryd.prog W 0 sp true fuel 42 cs = some x →
    ∃ c0 c1 c2, cs = [c0, c1, c2] ∧ ∃ t : Ex fuel, Rx W fuel t (.agg #[c0, c1, c2]) := by
  intro fuel
  induction fuel using Nat.strongRecOn with
  | _ fuel ih =>
    intro cs x h
    obtain ⟨xs, n, hfuel, _, hlen, hxs, hf⟩ := DataW.trod_struct Tryd.underlying42 h
    rw [cells42] at hlen
    match cs, hlen with
    | [c0, c1, c2], _ =>
      refine ⟨c0, c1, c2, rfl, ?_⟩
      have u0 : DataW.trod enc Tryd.prog W 0 sp true n 5 [c0] = xs[0]? := by
        have this : DataW.trod enc Tryd.prog W 0 sp true n 5 (List.take (Tryd.prog.cellsOf 5) (List.drop 0 [c0, c1, c2])) = xs[0]? := hf 0 _ rfl
        rw [cells5] at this
        exact this
      have u1 : DataW.trod enc Tryd.prog W 0 sp true n 39 [c1] = xs[1]? := by
        have this : DataW.trod enc Tryd.prog W 0 sp true n 39 (List.take (Tryd.prog.cellsOf 39) (List.drop 1 [c0, c1, c2])) = xs[1]? := hf 1 _ rfl
        rw [cells39] at this
        exact this
      have u2 : DataW.trod enc Tryd.prog W 0 sp true n 40 [c2] = xs[2]? := by
        have this : DataW.trod enc Tryd.prog W 0 sp true n 40 (List.take (Tryd.prog.cellsOf 40) (List.drop 2 [c0, c1, c2])) = xs[2]? := hf 2 _ rfl
        rw [cells40] at this
        exact this
      have hxs3 : xs.length = 3 := hxs
      match xs, hxs3 with
      | [y0, y1, y2], _ =>
        simp only [List.getElem?_cons_zero, List.getElem?_cons_succ] at u0 u1 u2
        obtain ⟨s0, e0, _, w0⟩ := DataW.trod_int Tryd.underlying5 u0
        obtain ⟨s1, e1, _, w1⟩ := DataW.trod_int Tryd.underlying39 u1
        simp only [List.cons.injEq, and_true] at e0 e1
        subst e0; subst e1; subst hfuel
        have b0 := bounds_u8 w0
        have b1 := bounds_u16 w1
        obtain ⟨k0, rfl⟩ : ∃ k : Nat, s0 = (k : Int) := ⟨s0.toNat, by omega⟩
        obtain ⟨k1, rfl⟩ : ∃ k : Nat, s1 = (k : Int) := ⟨s1.toNat, by omega⟩
        rcases DataW.trod_slice Tryd.underlying40 u2 with ⟨hcs, _⟩ | ⟨a, len, cap, elems, rest, f, rfl, hcs, _, _, hl, hm, hel, hx, _⟩
        · simp only [List.cons.injEq, and_true] at hcs
          subst hcs
          exact ⟨(k0, k1, []), none, 0, 0, rfl, by show k0 < 256; omega, by show k1 < 65536; omega, Nat.le_refl _, by unfold maxLen; omega, rfl, .inl rfl⟩
        · simp only [List.cons.injEq, and_true] at hcs
          subst hcs
          have each : ∀ i, i < len → ∃ y : Ex f, ∃ d0 d1 d2, W.cell? (a.add (i * 3)) = some d0 ∧ W.cell? (a.add (i * 3 + 1)) = some d1 ∧ W.cell? (a.add (i * 3 + 2)) = some d2 ∧ Rx W f y (.agg #[d0, d1, d2]) := by
            intro i hi
            have hxi := hx i hi
            rw [cells42, List.getElem?_eq_getElem (by omega)] at hxi
            obtain ⟨cs', h1, h2⟩ := Option.bind_eq_some_iff.1 hxi
            obtain ⟨d0, d1, d2, rfl, y, hy⟩ := ih f (by omega) cs' _ h2
            obtain ⟨_, _, hcell⟩ := World.cells?_some h1
            have q0 := hcell 0 (by omega)
            have q1 := hcell 1 (by omega)
            have q2 := hcell 2 (by omega)
            rw [add_add] at q0 q1 q2
            exact ⟨y, d0, d1, d2, by simpa using q0, by simpa using q1, by simpa using q2, hy⟩
          obtain ⟨g, hg⟩ := @choose_lt (Ex f) ⟨exI f⟩ len _ each
          refine ⟨(k0, k1, (List.range len).map fun i => liftE f (g i)), some a, len, cap, rfl, by show k0 < 256; omega, by show k1 < 65536; omega, hl, hm, ?_, ?_⟩
          · show ((List.range len).map _).length = len
            simp
          · by_cases h0 : len = 0
            · exact .inl h0
            · obtain ⟨b, off, spot⟩ := a
              obtain ⟨_, _, _, z0, _⟩ := hg 0 (by omega)
              have hspot : spot = none := by simpa [Addr.add] using World.cell?_spot z0
              subst hspot
              refine .inr ⟨b, off, rfl, fun i y hy => ?_⟩
              have hy' : ((List.range len).map fun i => liftE f (g i))[i]? = some y := hy
              have hi : i < len := by have := (List.getElem?_eq_some_iff.1 hy').1; simpa using this
              simp only [List.getElem?_map, List.getElem?_range hi, Option.map_some, Option.some.injEq] at hy'
              subst hy'
              obtain ⟨d0, d1, d2, q0, q1, q2, hy⟩ := hg i hi
              have ha : ∀ j, (⟨b, off, none⟩ : Addr).add j = ⟨b, off + j, none⟩ := fun j => by
                simp only [Addr.add]
                split
                · rename_i h; rw [h]; rfl
                · rfl
              rw [ha] at q0 q1 q2
              exact ⟨d0, d1, d2, q0, by rw [Nat.add_assoc]; exact q1, by rw [Nat.add_assoc]; exact q2, rx_lift f _ _ hy⟩
end Go.Proofs.YtccaknabpnpjaaaDoor.A

/- The document's Ends: rows of marks; the kinds without parts. -/
namespace Go.Proofs.YtccaknabpnpjaaaDoor.A
open Go.RowKit

/-- Marks as cells. -/
def rowB (n : Nat) (g : Nat → Bool) : Array Value := ((List.range n).map fun (j : Nat) => Value.bool (g j)).toArray
theorem rowB_size (n : Nat) (g : Nat → Bool) : (rowB n g).size = n := by simp [rowB]
theorem rowB_at {n : Nat} (g : Nat → Bool) {j : Nat} (h : j < n) : (rowB n g)[j]? = some (.bool (g j)) := by simp [rowB, h]
theorem rowB_congr {n : Nat} {g h : Nat → Bool} (e : ∀ j, j < n → g j = h j) : rowB n g = rowB n h := by
  unfold rowB
  congr 1
  refine List.map_congr_left fun j hj => ?_
  rw [e j (by simpa using hj)]
theorem rowB_set {n : Nat} (g : Nat → Bool) {j : Nat} (v : Bool) (h : j < n) : (rowB n g).setIfInBounds j (.bool v) = rowB n (fun i => if i = j then v else g i) := by
  apply Array.ext_getElem?
  intro i
  by_cases hi : i < n
  · rw [rowB_at _ hi]
    by_cases e : i = j
    · subst e; simp [rowB_size, h]
    · rw [Array.getElem?_setIfInBounds, if_neg (fun q => e q.symm), rowB_at _ hi, if_neg e]
  · rw [Array.getElem?_eq_none (by simp [rowB_size]; omega), Array.getElem?_eq_none (by simp [rowB_size]; omega)]
theorem rowB_zero (n : Nat) : madeCells #[.bool false] n = rowB n (fun _ => false) := by
  apply Array.ext_getElem?
  intro i
  by_cases hi : i < n
  · rw [rowB_at _ hi]; simp [madeCells, hi, Nat.mod_one]
  · rw [Array.getElem?_eq_none (by simp [madeCells]; omega), Array.getElem?_eq_none (by simp [rowB_size]; omega)]
theorem info4 : (Tryd.prog.info? 4).map (fun i => (i.zero, i.size, i.bytes)) = some (some (.bool false), 1, 1) := by kernel_rfl
theorem make39 (n : Nat) (hn : n ≤ 10000) (w : World) : (Instr.makeSlice 109 (.int .i64 (n : Int)) (.int .i64 (n : Int))).run Tryd.prog w = .ok (.slice (some ⟨w.heap.size, 0, none⟩) n n) (w.alloc (.cells (rowB n fun _ => false) 4)) := by
  have := run_make_row' (P := Tryd.prog) 109 4 (.bool false) 1 Tryd.underlying109 info4 rfl .i64 .i64 n (by omega) (by omega) w
  rw [rowB_zero] at this
  exact this
/-- A row of marks. -/
def Mk (wr : World) (B n : Nat) (g : Nat → Bool) : Prop := wr.heap[B]? = some (.cells (rowB n g) 4 (0, 0))
theorem mk_congr {wr : World} {B n : Nat} {g h : Nat → Bool} (d : Mk wr B n g) (e : ∀ j, j < n → g j = h j) : Mk wr B n h := by unfold Mk; rw [← rowB_congr e]; exact d
theorem mk_cell {wr : World} {B n : Nat} {g : Nat → Bool} (d : Mk wr B n g) {j : Nat} (hj : j < n) : wr.cell? ⟨B, j, none⟩ = some (.bool (g j)) ∧ wr.frozen? ⟨B, j, none⟩ = false := by
  unfold Mk at d
  constructor
  · rw [cell_of_row _ _ j _ _ _ d, rowB_at _ hj]
  · simp [World.frozen?, d]
theorem mk_set {wr : World} {B n : Nat} {g : Nat → Bool} (d : Mk wr B n g) {j : Nat} (hj : j < n) (v : Bool) : Mk (wr.setCell ⟨B, j, none⟩ (.bool v)) B n (fun i => if i = j then v else g i) := by
  unfold Mk at *
  rw [setCell_eq_setRow _ _ _ _ _ _ _ d, setRow_heap _ _ _ _ _ _ d, rowB_set _ _ hj]
theorem mk_lt {wr : World} {B n : Nat} {g : Nat → Bool} (d : Mk wr B n g) : B < wr.heap.size := (Array.getElem?_eq_some_iff.1 d).1
theorem mk_new (w : World) (o1 : Obj) (N : Nat) : Mk ((w.alloc o1).alloc (.cells (rowB N fun _ => false) 4)) (w.heap.size + 1) N (fun _ => false) := by
  have := heap_alloc_last (w.alloc o1) (.cells (rowB N fun _ => false) 4)
  rw [show (w.alloc o1).heap.size = w.heap.size + 1 by simp] at this
  exact this
theorem mk_below {w w' : World} {B F n : Nat} {g : Nat → Bool} (hF : F < B) (hb : Below B w w') (d : Mk w F n g) : Mk w' F n g := by
  unfold Mk at *
  rw [hb.block F hF]; exact d
/-- A word at a slice. -/
def Wd (w : World) (a : Option Addr) (word : List Int) : Prop := ∀ i c, word[i]? = some c → ∃ b off, a = some ⟨b, off, none⟩ ∧ w.cell? ⟨b, off + i, none⟩ = some (.int .i64 c)
theorem wd_below {w w' : World} {a : Option Addr} {word : List Int} (hb : Below w.heap.size w w') (h : Wd w a word) : Wd w' a word := fun i c hc => by
  obtain ⟨b, off, e, k⟩ := h i c hc
  exact ⟨b, off, e, (hb.cell (p := ⟨b, off + i, none⟩) (cell_lt k)).trans k⟩
theorem copy_set (o : Nat → Bool) (k j : Nat) : (if j = k then o k else (decide (j < k) && o j)) = (decide (j < k + 1) && o j) := by
  by_cases e : j = k
  · subst e; simp
  · have : decide (j < k + 1) = decide (j < k) := by by_cases q : j < k <;> simp [q] <;> omega
    rw [if_neg e, this]
/-- What Ends is to hand back. -/
def Gives (w : World) (N : Nat) (g : Nat → Bool) (e : Ending) (w' : World) : Prop := ∃ B, w.heap.size ≤ B ∧ e = .returned (.slice (some ⟨B, 0, none⟩) N N) ∧ Mk w' B N g ∧ Below w.heap.size w w'

/-- What a set's bit is, by a shift. -/
theorem bit_at (s : Nat) (c : Int) (h0 : 0 ≤ c) (h1 : c < 16) : ((s : Int) / 2 ^ c.toNat % 2 == 1) = inS s c := by
  unfold inS
  rw [decide_eq_true h0, decide_eq_true h1, Bool.true_and, Bool.true_and, Bool.eq_iff_iff]
  simp only [beq_iff_eq]
  have e : (2 : Int) ^ c.toNat = ((2 ^ c.toNat : Nat) : Int) := by simp
  rw [e]
  generalize 2 ^ c.toNat = d
  omega
theorem bits_one (s : Nat) (c : Int) (hs : s < 65536) : (bits BinOp.and IntKind.u16 ((s : Int) / 2 ^ c.toNat) 1 == 1) = ((s : Int) / 2 ^ c.toNat % 2 == 1) := by
  have e : (2 : Int) ^ c.toNat = ((2 ^ c.toNat : Nat) : Int) := by simp
  have hd : (s : Int) / 2 ^ c.toNat = ((s / 2 ^ c.toNat : Nat) : Int) := by rw [e]; simp
  have hle : s / 2 ^ c.toNat ≤ s := Nat.div_le_self _ _
  rw [hd]
  generalize s / 2 ^ c.toNat = d at *
  have h := bits_mask .u16 16 (by decide) (fun n h0 h1 => by rw [IntKind.wrap_u16]; omega) 1 (by decide) (d : Int) (by omega) (by omega)
  rw [show ((2 : Int) ^ 1 - 1) = 1 from by decide, show ((2 : Int) ^ 1) = 2 from by decide] at h
  rw [h]
/-- What is marked behind so many places of a letter's loop. -/
def chB (word : List Int) (s : Nat) (o : Nat → Bool) (k j : Nat) : Bool := decide (j ≤ k) && (decide (0 < j) && (o (j - 1) && (match word[j - 1]? with | some c => inS s c | none => false)))
theorem chB_yes {word : List Int} {s : Nat} {o : Nat → Bool} {k : Nat} {c : Int} (hc : word[k]? = some c) (ho : o k = true) (hs : inS s c = true) (j : Nat) : (if j = k + 1 then true else chB word s o k j) = chB word s o (k + 1) j := by
  by_cases e : j = k + 1
  · subst e; simp [chB, ho, hc, hs]
  · rw [if_neg e]
    unfold chB
    rw [show decide (j ≤ k + 1) = decide (j ≤ k) from by by_cases q : j ≤ k <;> simp [q] <;> omega]
theorem chB_no {word : List Int} {s : Nat} {o : Nat → Bool} {k : Nat} {c : Int} (hc : word[k]? = some c) (h : (o k && inS s c) = false) (j : Nat) : chB word s o k j = chB word s o (k + 1) j := by
  by_cases e : j = k + 1
  · subst e; simp [chB, hc, h]
  · unfold chB
    rw [show decide (j ≤ k + 1) = decide (j ≤ k) from by by_cases q : j ≤ k <;> simp [q] <;> omega]

end Go.Proofs.YtccaknabpnpjaaaDoor.A
