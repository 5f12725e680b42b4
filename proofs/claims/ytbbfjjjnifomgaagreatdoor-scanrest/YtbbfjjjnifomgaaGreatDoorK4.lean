/- An expression that came in. -/
import Derived.OpenShut
import Derived.Deep.Slices
import Derived.Deep.Strs
import Derived.WalkKit
import Derived.ProofKit
import Derived.Outline
import Derived.BigQuiet
import Derived.Deep.QuietTactic
import Derived.Below
import Derived.Deep.RegionHeld3
import Derived.Test.YtbbfjjjnifomgaaGreatDoorK1
import Derived.Deep.OwnRows
import Derived.Deep.WholeRow
import Derived.Test.YtbbfjjjnifomgaaGreatDoorK3
import Derived.Test.YtbbfjjjnifomgaaGreatDoorK2
import Derived.Deep.Heap
namespace Go.Proofs.YtbbfjjjnifomgaaGreatDoor.A
open Go.RowKit Go.ChangeShapes Go.WideShapes Go.Deep

def exI : (n : Nat) → Ex n | 0 => () | _ + 1 => (0, 0, [])
/-- The same, with room for a level more. -/
def liftE : (n : Nat) → Ex n → Ex (n + 1)
  | 0, _ => (0, 0, [])
  | n + 1, t => (kd t, st t, (ks t).map (fun x => liftE n x))
theorem rx_lift {w : World} : ∀ (n : Nat) (t : Ex n) (v : Value), Rx w n t v → Rx w (n + 1) (liftE n t) v
  | 0, _, _, h => h.elim
  | n + 1, t, _, ⟨a, len, cap, h1, h2, h3, h4, h5, h6, h7⟩ => by
    refine ⟨a, len, cap, h1, h2, h3, h4, h5, ?_, ?_⟩
    · show ((ks t).map (fun x => liftE n x)).length = len
      rw [List.length_map]; exact h6
    · rcases h7 with h7 | ⟨b, off, e, h7⟩
      · exact .inl h7
      · refine .inr ⟨b, off, e, fun i y hy => ?_⟩
        have hy' : ((ks t).map (fun x => liftE n x))[i]? = some y := hy
        rw [List.getElem?_map] at hy'
        obtain ⟨x, hx, rfl⟩ := Option.map_eq_some_iff.1 hy'
        obtain ⟨c0, c1, c2, p0, p1, p2, p3⟩ := h7 i x hx
        exact ⟨c0, c1, c2, p0, p1, p2, rx_lift n x _ p3⟩
theorem cells55 : Tryz.prog.cellsOf 55 = 3 := by kernel_rfl
theorem cells5 : Tryz.prog.cellsOf 5 = 1 := by kernel_rfl
theorem cells53 : Tryz.prog.cellsOf 53 = 1 := by kernel_rfl
theorem cells50 : Tryz.prog.cellsOf 50 = 1 := by kernel_rfl
set_option maxRecDepth 100000 in
theorem open_ex {H : Type} {enc : TypeId × Value → H} {W : World} {sp : Nat → Bool} : ∀ (fuel : Nat) (cs : List Value) (x : DataW H × List MemPlace), DataW.trod enc Tryz.prog W 0 sp true fuel 55 cs = some x →
    ∃ c0 c1 c2, cs = [c0, c1, c2] ∧ ∃ t : Ex fuel, Rx W fuel t (.agg #[c0, c1, c2]) := by
  intro fuel
  induction fuel using Nat.strongRecOn with
  | _ fuel ih =>
    intro cs x h
    obtain ⟨xs, n, hfuel, _, hlen, hxs, hf⟩ := DataW.trod_struct Tryz.underlying55 h
    rw [cells55] at hlen
    match cs, hlen with
    | [c0, c1, c2], _ =>
      refine ⟨c0, c1, c2, rfl, ?_⟩
      have u0 : DataW.trod enc Tryz.prog W 0 sp true n 5 [c0] = xs[0]? := by
        have this : DataW.trod enc Tryz.prog W 0 sp true n 5 (List.take (Tryz.prog.cellsOf 5) (List.drop 0 [c0, c1, c2])) = xs[0]? := hf 0 _ rfl
        rw [cells5] at this
        exact this
      have u1 : DataW.trod enc Tryz.prog W 0 sp true n 53 [c1] = xs[1]? := by
        have this : DataW.trod enc Tryz.prog W 0 sp true n 53 (List.take (Tryz.prog.cellsOf 53) (List.drop 1 [c0, c1, c2])) = xs[1]? := hf 1 _ rfl
        rw [cells53] at this
        exact this
      have u2 : DataW.trod enc Tryz.prog W 0 sp true n 50 [c2] = xs[2]? := by
        have this : DataW.trod enc Tryz.prog W 0 sp true n 50 (List.take (Tryz.prog.cellsOf 50) (List.drop 2 [c0, c1, c2])) = xs[2]? := hf 2 _ rfl
        rw [cells50] at this
        exact this
      have hxs3 : xs.length = 3 := hxs
      match xs, hxs3 with
      | [y0, y1, y2], _ =>
        simp only [List.getElem?_cons_zero, List.getElem?_cons_succ] at u0 u1 u2
        obtain ⟨s0, e0, _, w0⟩ := DataW.trod_int Tryz.underlying5 u0
        obtain ⟨s1, e1, _, w1⟩ := DataW.trod_int Tryz.underlying53 u1
        simp only [List.cons.injEq, and_true] at e0 e1
        subst e0; subst e1; subst hfuel
        have b0 := bounds_u8 w0
        have b1 := bounds_u16 w1
        obtain ⟨k0, rfl⟩ : ∃ k : Nat, s0 = (k : Int) := ⟨s0.toNat, by omega⟩
        obtain ⟨k1, rfl⟩ : ∃ k : Nat, s1 = (k : Int) := ⟨s1.toNat, by omega⟩
        rcases DataW.trod_slice Tryz.underlying50 u2 with ⟨hcs, _⟩ | ⟨a, len, cap, elems, rest, f, rfl, hcs, _, _, hl, hm, hel, hx, _⟩
        · simp only [List.cons.injEq, and_true] at hcs
          subst hcs
          exact ⟨(k0, k1, []), none, 0, 0, rfl, by show k0 < 256; omega, by show k1 < 65536; omega, Nat.le_refl _, by unfold maxLen; omega, rfl, .inl rfl⟩
        · simp only [List.cons.injEq, and_true] at hcs
          subst hcs
          have each : ∀ i, i < len → ∃ y : Ex f, ∃ d0 d1 d2, W.cell? (a.add (i * 3)) = some d0 ∧ W.cell? (a.add (i * 3 + 1)) = some d1 ∧ W.cell? (a.add (i * 3 + 2)) = some d2 ∧ Rx W f y (.agg #[d0, d1, d2]) := by
            intro i hi
            have hxi := hx i hi
            rw [cells55, List.getElem?_eq_getElem (by omega)] at hxi
            obtain ⟨cs', h1, h2⟩ := Option.bind_eq_some_iff.1 hxi
            obtain ⟨d0, d1, d2, rfl, y, hy⟩ := ih f (by omega) cs' _ h2
            obtain ⟨_, _, hcell⟩ := World.cells?_some h1
            have q0 := hcell 0 (by omega)
            have q1 := hcell 1 (by omega)
            have q2 := hcell 2 (by omega)
            rw [add_add] at q0 q1 q2
            exact ⟨y, d0, d1, d2, by simpa using q0, by simpa using q1, by simpa using q2, hy⟩
          obtain ⟨g, hg⟩ := @choose_lt (Ex f) ⟨exI f⟩ len _ each
          refine ⟨(k0, k1, (List.range len).map fun i => liftE f (g i)), some a, len, cap, rfl, by show k0 < 256; omega, by show k1 < 65536; omega, hl, hm, ?_, ?_⟩
          · show ((List.range len).map _).length = len
            simp
          · by_cases h0 : len = 0
            · exact .inl h0
            · obtain ⟨b, off, spot⟩ := a
              obtain ⟨_, _, _, z0, _⟩ := hg 0 (by omega)
              have hspot : spot = none := by simpa [Addr.add] using World.cell?_spot z0
              subst hspot
              refine .inr ⟨b, off, rfl, fun i y hy => ?_⟩
              have hy' : ((List.range len).map fun i => liftE f (g i))[i]? = some y := hy
              have hi : i < len := by have := (List.getElem?_eq_some_iff.1 hy').1; simpa using this
              simp only [List.getElem?_map, List.getElem?_range hi, Option.map_some, Option.some.injEq] at hy'
              subst hy'
              obtain ⟨d0, d1, d2, q0, q1, q2, hy⟩ := hg i hi
              have ha : ∀ j, (⟨b, off, none⟩ : Addr).add j = ⟨b, off + j, none⟩ := fun j => by
                simp only [Addr.add]
                split
                · rename_i h; rw [h]; rfl
                · rfl
              rw [ha] at q0 q1 q2
              exact ⟨d0, d1, d2, q0, by rw [Nat.add_assoc]; exact q1, by rw [Nat.add_assoc]; exact q2, rx_lift f _ _ hy⟩
end Go.Proofs.YtbbfjjjnifomgaaGreatDoor.A



/- The document's Ends: rows of marks; the kinds without parts. -/
namespace Go.Proofs.YtbbfjjjnifomgaaGreatDoor.A
open Go.RowKit

/-- Marks as cells. -/
def rowB (n : Nat) (g : Nat → Bool) : Array Value := ((List.range n).map fun (j : Nat) => Value.bool (g j)).toArray
theorem rowB_size (n : Nat) (g : Nat → Bool) : (rowB n g).size = n := by simp [rowB]
theorem rowB_at {n : Nat} (g : Nat → Bool) {j : Nat} (h : j < n) : (rowB n g)[j]? = some (.bool (g j)) := by simp [rowB, h]
theorem rowB_congr {n : Nat} {g h : Nat → Bool} (e : ∀ j, j < n → g j = h j) : rowB n g = rowB n h := by
  unfold rowB
  congr 1
  refine List.map_congr_left fun j hj => ?_
  rw [e j (by simpa using hj)]
theorem rowB_set {n : Nat} (g : Nat → Bool) {j : Nat} (v : Bool) (h : j < n) : (rowB n g).setIfInBounds j (.bool v) = rowB n (fun i => if i = j then v else g i) := by
  apply Array.ext_getElem?
  intro i
  by_cases hi : i < n
  · rw [rowB_at _ hi]
    by_cases e : i = j
    · subst e; simp [rowB_size, h]
    · rw [Array.getElem?_setIfInBounds, if_neg (fun q => e q.symm), rowB_at _ hi, if_neg e]
  · rw [Array.getElem?_eq_none (by simp [rowB_size]; omega), Array.getElem?_eq_none (by simp [rowB_size]; omega)]
theorem rowB_zero (n : Nat) : madeCells #[.bool false] n = rowB n (fun _ => false) := by
  apply Array.ext_getElem?
  intro i
  by_cases hi : i < n
  · rw [rowB_at _ hi]; simp [madeCells, hi, Nat.mod_one]
  · rw [Array.getElem?_eq_none (by simp [madeCells]; omega), Array.getElem?_eq_none (by simp [rowB_size]; omega)]
theorem info4 : (Tryz.prog.info? 4).map (fun i => (i.zero, i.size, i.bytes)) = some (some (.bool false), 1, 1) := by kernel_rfl
theorem make39 (n : Nat) (hn : n ≤ 10000) (w : World) : (Instr.makeSlice 70 (.int .i64 (n : Int)) (.int .i64 (n : Int))).run Tryz.prog w = .ok (.slice (some ⟨w.heap.size, 0, none⟩) n n) (w.alloc (.cells (rowB n fun _ => false) 4)) := by
  have := run_make_row' (P := Tryz.prog) 70 4 (.bool false) 1 Tryz.underlying70 info4 rfl .i64 .i64 n (by omega) (by omega) w
  rw [rowB_zero] at this
  exact this
/-- A row of marks. -/
def Mk (wr : World) (B n : Nat) (g : Nat → Bool) : Prop := wr.heap[B]? = some (.cells (rowB n g) 4 (0, 0))
theorem mk_congr {wr : World} {B n : Nat} {g h : Nat → Bool} (d : Mk wr B n g) (e : ∀ j, j < n → g j = h j) : Mk wr B n h := by unfold Mk; rw [← rowB_congr e]; exact d
theorem mk_cell {wr : World} {B n : Nat} {g : Nat → Bool} (d : Mk wr B n g) {j : Nat} (hj : j < n) : wr.cell? ⟨B, j, none⟩ = some (.bool (g j)) ∧ wr.frozen? ⟨B, j, none⟩ = false := by
  unfold Mk at d
  constructor
  · rw [cell_of_row _ _ j _ _ _ d, rowB_at _ hj]
  · simp [World.frozen?, d]
theorem mk_set {wr : World} {B n : Nat} {g : Nat → Bool} (d : Mk wr B n g) {j : Nat} (hj : j < n) (v : Bool) : Mk (wr.setCell ⟨B, j, none⟩ (.bool v)) B n (fun i => if i = j then v else g i) := by
  unfold Mk at *
  rw [setCell_eq_setRow _ _ _ _ _ _ _ d, setRow_heap _ _ _ _ _ _ d, rowB_set _ _ hj]
theorem mk_lt {wr : World} {B n : Nat} {g : Nat → Bool} (d : Mk wr B n g) : B < wr.heap.size := (Array.getElem?_eq_some_iff.1 d).1
theorem mk_new (w : World) (o1 : Obj) (N : Nat) : Mk ((w.alloc o1).alloc (.cells (rowB N fun _ => false) 4)) (w.heap.size + 1) N (fun _ => false) := by
  have := heap_alloc_last (w.alloc o1) (.cells (rowB N fun _ => false) 4)
  rw [show (w.alloc o1).heap.size = w.heap.size + 1 by simp] at this
  exact this
theorem mk_below {w w' : World} {B F n : Nat} {g : Nat → Bool} (hF : F < B) (hb : Below B w w') (d : Mk w F n g) : Mk w' F n g := by
  unfold Mk at *
  rw [hb.block F hF]; exact d
/-- A word at a slice. -/
def Wd (w : World) (a : Option Addr) (word : List Int) : Prop := ∀ i c, word[i]? = some c → ∃ b off, a = some ⟨b, off, none⟩ ∧ w.cell? ⟨b, off + i, none⟩ = some (.int .i64 c)
theorem wd_below {w w' : World} {a : Option Addr} {word : List Int} (hb : Below w.heap.size w w') (h : Wd w a word) : Wd w' a word := fun i c hc => by
  obtain ⟨b, off, e, k⟩ := h i c hc
  exact ⟨b, off, e, (hb.cell (p := ⟨b, off + i, none⟩) (cell_lt k)).trans k⟩
theorem copy_set (o : Nat → Bool) (k j : Nat) : (if j = k then o k else (decide (j < k) && o j)) = (decide (j < k + 1) && o j) := by
  by_cases e : j = k
  · subst e; simp
  · have : decide (j < k + 1) = decide (j < k) := by by_cases q : j < k <;> simp [q] <;> omega
    rw [if_neg e, this]
/-- What Ends is to hand back. -/
def Gives (w : World) (N : Nat) (g : Nat → Bool) (e : Ending) (w' : World) : Prop := ∃ B, w.heap.size ≤ B ∧ e = .returned (.slice (some ⟨B, 0, none⟩) N N) ∧ Mk w' B N g ∧ Below w.heap.size w w'

set_option maxRecDepth 100000 in
set_option maxHeartbeats 3200000 in
theorem ends_k0 (ss : Int) (x : Value) (a : Option Addr) (L N cap F : Nat) (o : Nat → Bool) (w : World) (hN : (L : Int) + 1 = (N : Int)) (hL : L ≤ 1000) (hF : Mk w F N o) :
    Calls Tryz.prog 49 #[.agg #[.int .u8 0, .int .u16 ss, x], .slice a L cap, .slice (some ⟨F, 0, none⟩) N N] w fun e w' => Gives w N o e w' := by
  have hmk : ∀ w, (Instr.makeSlice 70 (.int .i64 (N : Int)) (.int .i64 (N : Int))).run Tryz.prog w = .ok (.slice (some ⟨w.heap.size, 0, none⟩) N N) (w.alloc (.cells (rowB N fun _ => false) 4)) := make39 N (by omega)
  have HF := hide hF
  have HFL := hide (mk_lt hF)
  clear hF
  obtain ⟨p0, p1, p2⟩ := box3 w (.int .u8 0) (.int .u16 ss) x 55
  have HB0 := hide ((Below.refl w.heap.size w).alloc (Nat.le_refl _) (.cells #[.int .u8 0, .int .u16 ss, x] 55))
  go_enter Tryz.func49, Tryz.ntmps49
  go_wp2_with fail
  have hm0 : Mk ((w.alloc (.cells #[.int .u8 0, .int .u16 ss, x] 55)).alloc (.cells (rowB N fun _ => false) 4)) (w.heap.size + 1) N (fun j => decide (j < 0) && o j) := mk_congr (g := fun _ => false) (mk_new _ _ _) (by simp)
  have hb0 := HB0.out.alloc (by simp) (.cells (rowB N fun _ => false) 4)
  clear hmk p0 p1 p2 HB0
  generalize (w.alloc (.cells #[.int .u8 0, .int .u16 ss, x] 55)).alloc (.cells (rowB N fun _ => false) 4) = W0 at *
  generalize hB : w.heap.size = B at *
  go_loopw [8] (fun i wr => ∃ k : Nat, k ≤ N ∧ i = .int .i64 k ∧ Mk wr (B + 1) N (fun j => decide (j < k) && o j) ∧ Below B w wr) (fun i _ => N - (intOf i).toNat)
  case atStart => exact ⟨0, Nat.zero_le _, rfl, hm0, hb0⟩
  case round =>
    obtain ⟨k, hk, rfl, hm, hb⟩ := hrel
    clear hm0 hb0
    by_cases hlt : k < N
    · obtain ⟨m0, m1⟩ := mk_cell hm hlt
      obtain ⟨f0, _⟩ := mk_cell (mk_below HFL.out hb HF.out) hlt
      have i1 : (0 : Int) ≤ (k : Int) := by omega
      have i2 : (k : Int) < (N : Int) := by omega
      have HM := hide hm
      clear hm
      go_wp2
      go_roundw
      case rel => exact ⟨k + 1, by omega, by go_num, mk_congr (mk_set HM.out hlt (o k)) (fun j _ => copy_set o k j), hb.setCell (by simp) _⟩
      case measure => simp [intOf]; omega
    · have e : k = N := by omega
      subst e
      go_wp2
      go_ret
      exact ⟨B + 1, by omega, rfl, mk_congr hm (fun j hj => by simp [hj]), by rw [hB]; exact hb⟩

/-- What a set's bit is, by a shift. -/
theorem bit_at (s : Nat) (c : Int) (h0 : 0 ≤ c) (h1 : c < 16) : ((s : Int) / 2 ^ c.toNat % 2 == 1) = inS s c := by
  unfold inS
  rw [decide_eq_true h0, decide_eq_true h1, Bool.true_and, Bool.true_and, Bool.eq_iff_iff]
  simp only [beq_iff_eq]
  have e : (2 : Int) ^ c.toNat = ((2 ^ c.toNat : Nat) : Int) := by simp
  rw [e]
  generalize 2 ^ c.toNat = d
  omega
theorem bits_one (s : Nat) (c : Int) (hs : s < 65536) : (bits BinOp.and IntKind.u16 ((s : Int) / 2 ^ c.toNat) 1 == 1) = ((s : Int) / 2 ^ c.toNat % 2 == 1) := by
  have e : (2 : Int) ^ c.toNat = ((2 ^ c.toNat : Nat) : Int) := by simp
  have hd : (s : Int) / 2 ^ c.toNat = ((s / 2 ^ c.toNat : Nat) : Int) := by rw [e]; simp
  have hle : s / 2 ^ c.toNat ≤ s := Nat.div_le_self _ _
  rw [hd]
  generalize s / 2 ^ c.toNat = d at *
  have h := bits_mask .u16 16 (by decide) (fun n h0 h1 => by rw [IntKind.wrap_u16]; omega) 1 (by decide) (d : Int) (by omega) (by omega)
  rw [show ((2 : Int) ^ 1 - 1) = 1 from by decide, show ((2 : Int) ^ 1) = 2 from by decide] at h
  rw [h]
/-- What is marked behind so many places of a letter's loop. -/
def chB (word : List Int) (s : Nat) (o : Nat → Bool) (k j : Nat) : Bool := decide (j ≤ k) && (decide (0 < j) && (o (j - 1) && (match word[j - 1]? with | some c => inS s c | none => false)))
theorem chB_yes {word : List Int} {s : Nat} {o : Nat → Bool} {k : Nat} {c : Int} (hc : word[k]? = some c) (ho : o k = true) (hs : inS s c = true) (j : Nat) : (if j = k + 1 then true else chB word s o k j) = chB word s o (k + 1) j := by
  by_cases e : j = k + 1
  · subst e; simp [chB, ho, hc, hs]
  · rw [if_neg e]
    unfold chB
    rw [show decide (j ≤ k + 1) = decide (j ≤ k) from by by_cases q : j ≤ k <;> simp [q] <;> omega]
theorem chB_no {word : List Int} {s : Nat} {o : Nat → Bool} {k : Nat} {c : Int} (hc : word[k]? = some c) (h : (o k && inS s c) = false) (j : Nat) : chB word s o k j = chB word s o (k + 1) j := by
  by_cases e : j = k + 1
  · subst e; simp [chB, hc, h]
  · unfold chB
    rw [show decide (j ≤ k + 1) = decide (j ≤ k) from by by_cases q : j ≤ k <;> simp [q] <;> omega]

set_option maxRecDepth 100000 in
set_option maxHeartbeats 3200000 in
theorem ends_k1 (ss : Nat) (x : Value) (a : Option Addr) (word : List Int) (L N cap F : Nat) (o : Nat → Bool) (w : World) (hN : (L : Int) + 1 = (N : Int)) (hL : L ≤ 1000) (hw : word.length = L) (hs : ss < 65536) (hF : Mk w F N o) (hW : Wd w a word) :
    Calls Tryz.prog 49 #[.agg #[.int .u8 1, .int .u16 ss, x], .slice a L cap, .slice (some ⟨F, 0, none⟩) N N] w fun e w' => Gives w N (chB word ss o L) e w' := by
  have hmk : ∀ w, (Instr.makeSlice 70 (.int .i64 (N : Int)) (.int .i64 (N : Int))).run Tryz.prog w = .ok (.slice (some ⟨w.heap.size, 0, none⟩) N N) (w.alloc (.cells (rowB N fun _ => false) 4)) := make39 N (by omega)
  have HF := hide hF
  have HFL := hide (mk_lt hF)
  have HW := hide hW
  have HWL := hide hw
  clear hF hW hw
  obtain ⟨p0, p1, p2⟩ := box3 w (.int .u8 1) (.int .u16 ss) x 55
  have HB0 := hide ((Below.refl w.heap.size w).alloc (Nat.le_refl _) (.cells #[.int .u8 1, .int .u16 ss, x] 55))
  go_enter Tryz.func49, Tryz.ntmps49
  go_wp2_with fail
  have hm0 : Mk ((w.alloc (.cells #[.int .u8 1, .int .u16 ss, x] 55)).alloc (.cells (rowB N fun _ => false) 4)) (w.heap.size + 1) N (chB word ss o 0) := mk_congr (g := fun _ => false) (mk_new _ _ _) (fun j _ => by unfold chB; by_cases q : j ≤ 0 <;> simp [q]; omega)
  have hb0 := HB0.out.alloc (by simp) (.cells (rowB N fun _ => false) 4)
  have hp1 : ((w.alloc (.cells #[.int .u8 1, .int .u16 ss, x] 55)).alloc (.cells (rowB N fun _ => false) 4)).cell? ⟨w.heap.size, 1, none⟩ = some (.int .u16 ss) := by
    rw [← p1]; exact ((Below.refl (w.heap.size + 1) (w.alloc (.cells #[.int .u8 1, .int .u16 ss, x] 55))).alloc (by simp) (.cells (rowB N fun _ => false) 4)).cell (p := ⟨w.heap.size, 1, none⟩) (by simp)
  clear hmk p0 p1 p2 HB0
  generalize (w.alloc (.cells #[.int .u8 1, .int .u16 ss, x] 55)).alloc (.cells (rowB N fun _ => false) 4) = W0 at *
  generalize hB : w.heap.size = B at *
  go_loopw [9] (fun i wr => ∃ k : Nat, k ≤ L ∧ i = .int .i64 k ∧ Mk wr (B + 1) N (chB word ss o k) ∧ Below B w wr ∧ Below (B + 1) W0 wr) (fun i _ => L - (intOf i).toNat)
  case atStart => exact ⟨0, Nat.zero_le _, rfl, hm0, hb0, Below.refl _ _⟩
  case round =>
    obtain ⟨k, hk, rfl, hm, hb, hb2⟩ := hrel
    clear hm0 hb0
    have r1 := (hb2.cell (p := ⟨B, 1, none⟩) (Nat.lt_succ_self _)).trans hp1
    clear hp1
    by_cases hlt : k < L
    · obtain ⟨m0, m1⟩ := mk_cell hm (j := k + 1) (by omega)
      obtain ⟨f0, _⟩ := mk_cell (mk_below HFL.out hb HF.out) (j := k) (by omega)
      obtain ⟨c, hc⟩ : ∃ c, word[k]? = some c := ⟨_, List.getElem?_eq_getElem (by rw [HWL.out]; exact hlt)⟩
      obtain ⟨b, off, rfl, k0⟩ := wd_below (hB ▸ hb) HW.out k c hc
      have HC := hide hc
      have i1 : (0 : Int) ≤ (k : Int) := by omega
      have i2 : (k : Int) < (N : Int) := by omega
      have i3 : (k : Int) < (L : Int) := by omega
      have i4 : (k : Int) + 1 < (N : Int) := by omega
      have HM := hide hm
      clear hm hc
      cases ho : o k
      · rw [ho] at f0
        have HN := hide (chB_no (s := ss) HC.out (show (o k && inS ss c) = false by rw [ho]; rfl))
        clear ho
        go_wp2_with fail
        go_quiet (fail)
        go_wp2
        go_roundw
        case rel => exact ⟨k + 1, by omega, by go_num, mk_congr HM.out (fun j _ => HN.out j), below_drewN hb _, below_drewN hb2 _⟩
        case measure => simp [intOf]; omega
      · rw [ho] at f0
        have HO := hide ho
        clear ho
        by_cases c0 : 0 ≤ c
        · by_cases c1 : c < 16
          · cases hbit : (bits BinOp.and IntKind.u16 ((ss : Int) / 2 ^ c.toNat) 1 == 1)
            · have HN := hide (chB_no (s := ss) (o := o) HC.out (show (o k && inS ss c) = false by rw [← bit_at ss c c0 c1, ← bits_one ss c hs, hbit, Bool.and_false]))
              go_wp2_with fail
              go_quiet (fail)
              go_wp2
              go_roundw
              case rel => exact ⟨k + 1, by omega, by go_num, mk_congr HM.out (fun j _ => HN.out j), below_drewN hb _, below_drewN hb2 _⟩
              case measure => simp [intOf]; omega
            · have HN := hide (chB_yes (s := ss) HC.out HO.out (by rw [← bit_at ss c c0 c1, ← bits_one ss c hs, hbit]))
              go_wp2_with fail
              go_quiet (fail)
              go_wp2
              go_roundw
              case rel => exact ⟨k + 1, by omega, by go_num, mk_congr (mk_set (wr := wr.drewN nq) HM.out (by omega) true) (fun j _ => HN.out j), (below_drewN hb _).setCell (by simp) _, (below_drewN hb2 _).setCell (by simp) _⟩
              case measure => simp [intOf]; omega
          · have HN := hide (chB_no (s := ss) (o := o) HC.out (show (o k && inS ss c) = false by unfold inS; rw [decide_eq_false c1]; simp))
            have d1 : decide (c < 16) = false := decide_eq_false c1
            clear c1
            go_wp2_with fail
            go_quiet (fail)
            go_wp2
            go_roundw
            case rel => exact ⟨k + 1, by omega, by go_num, mk_congr HM.out (fun j _ => HN.out j), below_drewN hb _, below_drewN hb2 _⟩
            case measure => simp [intOf]; omega
        · have HN := hide (chB_no (s := ss) (o := o) HC.out (show (o k && inS ss c) = false by unfold inS; rw [decide_eq_false c0]; simp))
          have d1 : decide (0 ≤ c) = false := decide_eq_false c0
          clear c0
          go_wp2_with fail
          go_quiet (fail)
          go_wp2
          go_roundw
          case rel => exact ⟨k + 1, by omega, by go_num, mk_congr HM.out (fun j _ => HN.out j), below_drewN hb _, below_drewN hb2 _⟩
          case measure => simp [intOf]; omega
    · have e : k = L := by omega
      subst e
      go_wp2
      go_ret
      exact ⟨B + 1, by omega, rfl, hm, by rw [hB]; exact hb⟩
end Go.Proofs.YtbbfjjjnifomgaaGreatDoor.A



/- The document's Ends: kinds with parts, first those one behind the other. -/
namespace Go.Proofs.YtbbfjjjnifomgaaGreatDoor.A
open Go.RowKit

/-- What Ends does for an expression. -/
def EndsOf (word : List Int) (n : Nat) (t : Ex n) : Prop := ∀ (v : Value) (a : Option Addr) (L N cap F : Nat) (o : Nat → Bool) (w : World), word.length = L → (L : Int) + 1 = (N : Int) → L ≤ 1000 → Rx w n t v → shapesE n t = true → Wd w a word → Mk w F N o →
    Calls Tryz.prog 49 #[v, .slice a L cap, .slice (some ⟨F, 0, none⟩) N N] w fun e w' => Gives w N (endsE word n t o) e w'
theorem box_then (w : World) (o1 o2 : Obj) (i : Nat) : ((w.alloc o1).alloc o2).cell? ⟨w.heap.size, i, none⟩ = (w.alloc o1).cell? ⟨w.heap.size, i, none⟩ :=
  ((Below.refl (w.heap.size + 1) (w.alloc o1)).alloc (by simp) o2).cell (p := ⟨w.heap.size, i, none⟩) (by simp)

set_option maxRecDepth 100000 in
set_option maxHeartbeats 3200000 in
theorem ends_k2 (word : List Int) (n : Nat) (ih : ∀ x : Ex n, EndsOf word n x) (ss : Int) (y a : Option Addr) (len ycap : Nat) (l : List (Ex n)) (L N cap F : Nat) (o : Nat → Bool) (w : World) (hw : word.length = L) (hN : (L : Int) + 1 = (N : Int)) (hL : L ≤ 1000)
    (hF : Mk w F N o) (hW : Wd w a word) (hlen : len ≤ maxLen) (hl : l.length = len) (hkids : Kids w n y len l) (hsh : ∀ x ∈ l, shapesE n x = true) :
    Calls Tryz.prog 49 #[.agg #[.int .u8 2, .int .u16 ss, .slice y len ycap], .slice a L cap, .slice (some ⟨F, 0, none⟩) N N] w fun e w' => Gives w N (l.foldl (fun o x => endsE word n x o) o) e w' := by
  have hmk : ∀ w, (Instr.makeSlice 70 (.int .i64 (N : Int)) (.int .i64 (N : Int))).run Tryz.prog w = .ok (.slice (some ⟨w.heap.size, 0, none⟩) N N) (w.alloc (.cells (rowB N fun _ => false) 4)) := make39 N (by omega)
  unfold maxLen at hlen
  have HF := hide hF
  have HFL := hide (mk_lt hF)
  have HW := hide hW
  have HWL := hide hw
  have HK := hide hkids
  have HS := hide hsh
  have HLL := hide hl
  clear hF hW hw hkids hsh hl
  obtain ⟨p0, p1, p2⟩ := box3 w (.int .u8 2) (.int .u16 ss) (.slice y len ycap) 55
  have HB0 := hide ((Below.refl w.heap.size w).alloc (Nat.le_refl _) (.cells #[.int .u8 2, .int .u16 ss, .slice y len ycap] 55))
  go_enter Tryz.func49, Tryz.ntmps49
  go_wp2_with fail
  have hm0 : Mk ((w.alloc (.cells #[.int .u8 2, .int .u16 ss, .slice y len ycap] 55)).alloc (.cells (rowB N fun _ => false) 4)) (w.heap.size + 1) N (fun j => decide (j < 0) && o j) := mk_congr (g := fun _ => false) (mk_new _ _ _) (by simp)
  have hb0 := HB0.out.alloc (by simp) (.cells (rowB N fun _ => false) 4)
  have hp2 := (box_then w (.cells #[.int .u8 2, .int .u16 ss, .slice y len ycap] 55) (.cells (rowB N fun _ => false) 4) 2).trans p2
  clear hmk p0 p1 p2 HB0
  generalize (w.alloc (.cells #[.int .u8 2, .int .u16 ss, .slice y len ycap] 55)).alloc (.cells (rowB N fun _ => false) 4) = W0 at *
  generalize hB : w.heap.size = B at *
  go_loopw [10] (fun i wr => ∃ k : Nat, k ≤ N ∧ i = .int .i64 k ∧ Mk wr (B + 1) N (fun j => decide (j < k) && o j) ∧ Below B w wr ∧ Below (B + 1) W0 wr) (fun i _ => N - (intOf i).toNat)
  case atStart => exact ⟨0, Nat.zero_le _, rfl, hm0, hb0, Below.refl _ _⟩
  case round =>
    obtain ⟨k, hk, rfl, hm, hb, hb2⟩ := hrel
    clear hm0 hb0
    by_cases hlt : k < N
    · obtain ⟨m0, m1⟩ := mk_cell hm hlt
      obtain ⟨f0, _⟩ := mk_cell (mk_below HFL.out hb HF.out) hlt
      have i1 : (0 : Int) ≤ (k : Int) := by omega
      have i2 : (k : Int) < (N : Int) := by omega
      have HM := hide hm
      clear hm
      go_wp2
      go_roundw
      case rel => exact ⟨k + 1, by omega, by go_num, mk_congr (mk_set HM.out hlt (o k)) (fun j _ => copy_set o k j), hb.setCell (by simp) _, hb2.setCell (by simp) _⟩
      case measure => simp [intOf]; omega
    · have e : k = N := by omega
      subst e
      have hm1 : Mk wr (B + 1) k o := mk_congr hm (fun j hj => by simp [hj])
      clear hm
      go_wp2_with fail
      have hp3 := (hb2.cell (p := ⟨B, 2, none⟩) (Nat.lt_succ_self _)).trans hp2
      clear hp2 hb2
      go_loopw [7, 11] (fun u i wr' => ∃ (j C : Nat), j ≤ len ∧ i = .int .i64 j ∧ u = .slice (some ⟨C, 0, none⟩) k k ∧ B + 1 ≤ C ∧ Mk wr' C k ((l.take j).foldl (fun o x => endsE word n x o) o) ∧ Below B w wr' ∧ Below (B + 1) wr wr') (fun _ i _ => len - (intOf i).toNat)
      case atStart => exact ⟨0, B + 1, Nat.zero_le _, rfl, rfl, Nat.le_refl _, hm1, hb, Below.refl _ _⟩
      case round =>
        obtain ⟨j, C, hj, rfl, rfl, hC, hm, hb', hb2⟩ := hrel
        clear hm1 hb
        have r2 := (hb2.cell (p := ⟨B, 2, none⟩) (Nat.lt_succ_self _)).trans hp3
        clear hp3
        by_cases hlt2 : j < len
        · obtain ⟨x, b, off, c0, c1, c2, rfl, hx, k0, k1, k2, k3⟩ := HK.out wr (hB ▸ hb') j hlt2
          have HX := hide (HS.out x (List.mem_of_getElem? hx))
          have HT := hide (show (l.take (j + 1)).foldl (fun o x => endsE word n x o) o = endsE word n x ((l.take j).foldl (fun o x => endsE word n x o) o) from by rw [take_at hx, List.foldl_append]; rfl)
          have HK3 := hide k3
          have HM := hide hm
          have HB1 := hide hb'
          have HB2 := hide hb2
          have HWd := hide (wd_below (hB ▸ hb') HW.out)
          have i3 : (0 : Int) ≤ (j : Int) := by omega
          have i4 : (j : Int) < (len : Int) := by omega
          have HSZ := hide (show B + 1 ≤ wr.heap.size by have := mk_lt hm; omega)
          clear hx k3 hm hb' hb2
          go_wp2_with fail
          refine (ih x _ a L k cap C _ wr HWL.out hN hL HK3.out HX.out HWd.out HM.out).mono ?_
          rintro e w2 ⟨C2, hC2, rfl, hm2, hb3⟩
          have HM2 := hide hm2
          have HB3 := hide (HB1.out.trans (hb3.mono (by have := HSZ.out; omega)))
          have HB4 := hide (HB2.out.trans (hb3.mono HSZ.out))
          have hC3 : B + 1 ≤ C2 := by have := HSZ.out; omega
          clear hm2 hb3
          go_wp2
          go_roundw
          case rel => exact ⟨j + 1, C2, by omega, by go_num, rfl, hC3, by rw [HT.out]; exact HM2.out, HB3.out, HB4.out⟩
          case measure => simp [intOf]; omega
        · have e : j = len := by omega
          subst e
          have HM := hide (show Mk wr C k (l.foldl (fun o x => endsE word n x o) o) from by rw [List.take_of_length_le (by rw [HLL.out]; exact Nat.le_refl _)] at hm; exact hm)
          clear hm
          go_wp2
          go_ret
          exact ⟨C, by omega, rfl, HM.out, by rw [hB]; exact hb'⟩
end Go.Proofs.YtbbfjjjnifomgaaGreatDoor.A



/- The document's Ends: one of several. -/
namespace Go.Proofs.YtbbfjjjnifomgaaGreatDoor.A
open Go.RowKit

theorem mk_other {wr : World} {C n : Nat} {g : Nat → Bool} (d : Mk wr C n g) {B : Nat} (h : C ≠ B) (p : Nat) (v : Value) : Mk (wr.setCell ⟨B, p, none⟩ v) C n g := by
  unfold Mk at *
  rw [Go.Deep.blk_setCell_other _ _ _ _ h]; exact d
/-- Marks joined as far as a place. -/
def orB (A X : Nat → Bool) (k j : Nat) : Bool := A j || (decide (j < k) && X j)
theorem orB_set (A X : Nat → Bool) (k j : Nat) : (if j = k then (A k || X k) else orB A X k j) = orB A X (k + 1) j := by
  by_cases e : j = k
  · subst e; simp [orB]
  · rw [if_neg e]
    unfold orB
    rw [show decide (j < k + 1) = decide (j < k) from by by_cases q : j < k <;> simp [q] <;> omega]
theorem orB_here (A X : Nat → Bool) (k : Nat) : orB A X k k = A k := by simp [orB]
theorem orB_all (A X : Nat → Bool) {N j : Nat} (h : j < N) : orB A X N j = (A j || X j) := by simp [orB, h]
/-- What the first parts tell. -/
def anyB (word : List Int) (n : Nat) (l : List (Ex n)) (o : Nat → Bool) (p : Nat) : Bool := l.any (fun x => endsE word n x o p)

set_option maxRecDepth 100000 in
set_option maxHeartbeats 3200000 in
theorem ends_k3 (word : List Int) (n : Nat) (ih : ∀ x : Ex n, EndsOf word n x) (ss : Int) (y a : Option Addr) (len ycap : Nat) (l : List (Ex n)) (L N cap F : Nat) (o : Nat → Bool) (w : World) (hw : word.length = L) (hN : (L : Int) + 1 = (N : Int)) (hL : L ≤ 1000)
    (hF : Mk w F N o) (hW : Wd w a word) (hlen : len ≤ maxLen) (hl : l.length = len) (hkids : Kids w n y len l) (hsh : ∀ x ∈ l, shapesE n x = true) :
    Calls Tryz.prog 49 #[.agg #[.int .u8 3, .int .u16 ss, .slice y len ycap], .slice a L cap, .slice (some ⟨F, 0, none⟩) N N] w fun e w' => Gives w N (anyB word n l o) e w' := by
  have hmk : ∀ w, (Instr.makeSlice 70 (.int .i64 (N : Int)) (.int .i64 (N : Int))).run Tryz.prog w = .ok (.slice (some ⟨w.heap.size, 0, none⟩) N N) (w.alloc (.cells (rowB N fun _ => false) 4)) := make39 N (by omega)
  unfold maxLen at hlen
  have HF := hide hF
  have HFL := hide (mk_lt hF)
  have HW := hide hW
  have HWL := hide hw
  have HK := hide hkids
  have HS := hide hsh
  have HLL := hide hl
  clear hF hW hw hkids hsh hl
  obtain ⟨p0, p1, p2⟩ := box3 w (.int .u8 3) (.int .u16 ss) (.slice y len ycap) 55
  have HB0 := hide ((Below.refl w.heap.size w).alloc (Nat.le_refl _) (.cells #[.int .u8 3, .int .u16 ss, .slice y len ycap] 55))
  go_enter Tryz.func49, Tryz.ntmps49
  go_wp2_with fail
  have hm0 : Mk ((w.alloc (.cells #[.int .u8 3, .int .u16 ss, .slice y len ycap] 55)).alloc (.cells (rowB N fun _ => false) 4)) (w.heap.size + 1) N (anyB word n (l.take 0) o) := mk_congr (g := fun _ => false) (mk_new _ _ _) (by simp [anyB])
  have hb0 := HB0.out.alloc (by simp) (.cells (rowB N fun _ => false) 4)
  have hp2 := (box_then w (.cells #[.int .u8 3, .int .u16 ss, .slice y len ycap] 55) (.cells (rowB N fun _ => false) 4) 2).trans p2
  clear hmk p0 p1 p2 HB0
  generalize (w.alloc (.cells #[.int .u8 3, .int .u16 ss, .slice y len ycap] 55)).alloc (.cells (rowB N fun _ => false) 4) = W0 at *
  generalize hB : w.heap.size = B at *
  go_loopw [12] (fun i wr => ∃ j : Nat, j ≤ len ∧ i = .int .i64 j ∧ Mk wr (B + 1) N (anyB word n (l.take j) o) ∧ Below B w wr ∧ Below (B + 1) W0 wr) (fun i _ => len - (intOf i).toNat)
  case atStart => exact ⟨0, Nat.zero_le _, rfl, hm0, hb0, Below.refl _ _⟩
  case round =>
    obtain ⟨j, hj, rfl, hm, hb, hb2⟩ := hrel
    clear hm0 hb0
    have r2 := (hb2.cell (p := ⟨B, 2, none⟩) (Nat.lt_succ_self _)).trans hp2
    clear hp2
    by_cases hlt2 : j < len
    · obtain ⟨x, b, off, c0, c1, c2, rfl, hx, k0, k1, k2, k3⟩ := HK.out wr (hB ▸ hb) j hlt2
      have HX := hide (HS.out x (List.mem_of_getElem? hx))
      have HT := hide (show ∀ p, (anyB word n (l.take j) o p || endsE word n x o p) = anyB word n (l.take (j + 1)) o p from fun p => by unfold anyB; rw [take_at hx, List.any_append]; simp)
      have HK3 := hide k3
      have HM := hide hm
      have HB1 := hide hb
      have HB2 := hide hb2
      have HWd := hide (wd_below (hB ▸ hb) HW.out)
      have HFd := hide (mk_below HFL.out hb HF.out)
      have i3 : (0 : Int) ≤ (j : Int) := by omega
      have i4 : (j : Int) < (len : Int) := by omega
      have HSZ := hide (show B + 1 < wr.heap.size from mk_lt hm)
      clear hx k3 hm hb hb2
      go_wp2_with fail
      refine (ih x _ a L N cap F _ wr HWL.out hN hL HK3.out HX.out HWd.out HFd.out).mono ?_
      rintro e w2 ⟨C2, hC2, rfl, hm2, hb3⟩
      have hC3 : C2 ≠ B + 1 := by have := HSZ.out; omega
      have HA := hide (mk_below HSZ.out hb3 HM.out)
      have HM2 := hide hm2
      have HB3 := hide (HB1.out.trans (hb3.mono (by have := HSZ.out; omega)))
      have HB4 := hide (HB2.out.trans (hb3.mono (by have := HSZ.out; omega)))
      clear hm2 hb3 k0 k1 k2 r2 HM HB1 HB2 HWd HFd HK3 hC2 HSZ
      generalize anyB word n (l.take j) o = A at *
      generalize endsE word n x o = X at *
      go_wp2_with fail
      go_loopw [14] (fun u wi => ∃ p : Nat, p ≤ N ∧ u = .int .i64 p ∧ Mk wi (B + 1) N (orB A X p) ∧ Mk wi C2 N X ∧ Below B w wi ∧ Below (B + 1) W0 wi) (fun u _ => N - (intOf u).toNat)
      case atStart => exact ⟨0, Nat.zero_le _, rfl, mk_congr HA.out (fun q _ => by simp [orB]), HM2.out, HB3.out, HB4.out⟩
      case round =>
        obtain ⟨p, hp, rfl, hm, hmx, hb, hb2⟩ := hrel
        clear HA HM2 HB3 HB4
        by_cases hlt : p < N
        · obtain ⟨m0, m1⟩ := mk_cell hm hlt
          obtain ⟨f0, _⟩ := mk_cell hmx hlt
          rw [orB_here] at m0
          have HO := hide (orB_set A X p)
          have HM := hide hm
          have HMX := hide hmx
          have i1 : (0 : Int) ≤ (p : Int) := by omega
          have i2 : (p : Int) < (N : Int) := by omega
          clear hm hmx
          cases hA : A p
          · rw [hA] at m0
            rw [hA, Bool.false_or] at HO
            clear hA
            go_wp2
            go_roundw
            case rel => exact ⟨p + 1, by omega, by go_num, mk_congr (mk_set HM.out hlt (X p)) (fun q _ => HO.out q), mk_other HMX.out hC3 _ _, hb.setCell (by simp) _, hb2.setCell (by simp) _⟩
            case measure => simp [intOf]; omega
          · rw [hA] at m0
            rw [hA, Bool.true_or] at HO
            clear hA
            go_wp2
            go_roundw
            case rel => exact ⟨p + 1, by omega, by go_num, mk_congr (mk_set HM.out hlt true) (fun q _ => HO.out q), mk_other HMX.out hC3 _ _, hb.setCell (by simp) _, hb2.setCell (by simp) _⟩
            case measure => simp [intOf]; omega
        · have e : p = N := by omega
          subst e
          go_wp2
          go_roundw
          case rel => exact ⟨j + 1, by omega, by go_num, mk_congr hm (fun q hq => by rw [orB_all A X hq]; exact HT.out q), hb, hb2⟩
          case measure => simp [intOf]; omega
    · have e : j = len := by omega
      subst e
      have HM := hide (show Mk wr (B + 1) N (anyB word n l o) from by rw [List.take_of_length_le (by rw [HLL.out]; exact Nat.le_refl _)] at hm; exact hm)
      clear hm
      go_wp2
      go_ret
      exact ⟨B + 1, by omega, rfl, HM.out, by rw [hB]; exact hb⟩
end Go.Proofs.YtbbfjjjnifomgaaGreatDoor.A


