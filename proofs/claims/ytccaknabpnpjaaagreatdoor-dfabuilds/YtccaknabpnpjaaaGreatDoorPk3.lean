/- The document's Right, Same. -/
import Derived.Test.YtccaknabpnpjaaaGreatDoorPk2
import Derived.Deep.RegionHeld3
import Derived.OpenShut
import Derived.Deep.Slices
import Derived.Deep.Strs
import Derived.Deep.OwnRows
import Derived.Deep.WholeRow
namespace Go.Proofs.YtccaknabpnpjaaaGreatDoor.A
open Go.RowKit

theorem rx_form {w : World} {n : Nat} {t : Ex n} {v : Value} (h : Rx w n t v) : ∃ c0 c1 c2, v = .agg #[c0, c1, c2] := by
  cases n with
  | zero => exact h.elim
  | succ n => obtain ⟨a, len, cap, e, _⟩ := h; exact ⟨_, _, _, e⟩

set_option maxHeartbeats 800000 in
theorem rright_any (n : Nat) (t : Ex n) (v : Value) (w : World) (hn : n ≤ 1000) (h : Rx w n t v) :
    Calls Tryz.prog 17 #[v] w fun e w' => e = .returned (.bool (rightE n t)) ∧ Below w.heap.size w w' := by
  obtain ⟨c0, c1, c2, rfl⟩ := rx_form h
  have HX := hide h
  have HB0 := hide ((Below.refl w.heap.size w).alloc (Nat.le_refl _) (.cells #[c0, c1, c2] 38))
  have HP := hide (box3 w c0 c1 c2 38)
  have HE := hide (show rightE n t = (decide (deepE n t 12 ≤ 12) && (decide (nodesE n t ≤ 100) && shapesE n t)) from rfl)
  have hd0 := deep_le n t 12
  have hn0 := nodes_le n t
  clear h
  go_enter Tryz.func17, Tryz.ntmps17
  obtain ⟨p0, p1, p2⟩ := HP.out
  go_wp2_with fail
  refine (rdeep_any n t _ 12 _ (by omega) (rx_below HB0.out n t _ HX.out)).mono ?_
  rintro e w1 ⟨rfl, hb1⟩
  have HB1 := hide (HB0.out.trans (hb1.mono HB0.out.size))
  have r0 := (hb1.cell (p := ⟨w.heap.size, 0, none⟩) (cell_lt p0)).trans p0
  have r1 := (hb1.cell (p := ⟨w.heap.size, 1, none⟩) (cell_lt p1)).trans p1
  have r2 := (hb1.cell (p := ⟨w.heap.size, 2, none⟩) (cell_lt p2)).trans p2
  clear p0 p1 p2 hb1 HP
  generalize deepE n t 12 = dd at *
  by_cases hd : dd ≤ 12
  · have hd' : decide ((dd : Int) ≤ 12) = true := by simp; omega
    go_wp2_with fail
    refine (rnodes_any n t _ _ hn (rx_below HB1.out n t _ HX.out)).mono ?_
    rintro e w2 ⟨rfl, hb2⟩
    have HB2 := hide (HB1.out.trans (hb2.mono HB1.out.size))
    have s0 := (hb2.cell (p := ⟨w.heap.size, 0, none⟩) (cell_lt r0)).trans r0
    have s1 := (hb2.cell (p := ⟨w.heap.size, 1, none⟩) (cell_lt r1)).trans r1
    have s2 := (hb2.cell (p := ⟨w.heap.size, 2, none⟩) (cell_lt r2)).trans r2
    clear r0 r1 r2 hb2
    generalize nodesE n t = nn at *
    by_cases hnn : nn ≤ 100
    · have hnn' : decide ((nn : Int) ≤ 100) = true := by simp; omega
      go_wp2_with fail
      refine (rshapes_any n t _ _ (rx_below HB2.out n t _ HX.out)).mono ?_
      rintro e w3 ⟨rfl, hb3⟩
      have HB3 := hide (HB2.out.trans (hb3.mono HB2.out.size))
      clear hb3
      go_wp2
      go_ret
      exact ⟨ret_bool (by rw [HE.out]; simp [hd, hnn]), HB3.out⟩
    · have hnn' : decide ((nn : Int) ≤ 100) = false := by simp; omega
      go_wp2
      go_ret
      exact ⟨ret_bool (by rw [HE.out]; simp [hd, hnn]), HB2.out⟩
  · have hd' : decide ((dd : Int) ≤ 12) = false := by simp; omega
    go_wp2
    go_ret
    exact ⟨ret_bool (by rw [HE.out]; simp [hd]), HB1.out⟩
end Go.Proofs.YtccaknabpnpjaaaGreatDoor.A

/- An expression that came in. -/
namespace Go.Proofs.YtccaknabpnpjaaaGreatDoor.A
open Go.RowKit Go.ChangeShapes Go.WideShapes Go.Deep

def exI : (n : Nat) → Ex n | 0 => () | _ + 1 => (0, 0, [])
/-- The same, with room for a level more. -/
def liftE : (n : Nat) → Ex n → Ex (n + 1)
  | 0, _ => (0, 0, [])
  | n + 1, t => (kd t, st t, (ks t).map (fun x => liftE n x))
theorem rx_lift {w : World} : ∀ (n : Nat) (t : Ex n) (v : Value), Rx w n t v → Rx w (n + 1) (liftE n t) v
  | 0, _, _, h => h.elim
  | n + 1, t, _, ⟨a, len, cap, h1, h2, h3, h4, h5, h6, h7⟩ => by
    refine ⟨a, len, cap, h1, h2, h3, h4, h5, ?_, ?_⟩
    · show ((ks t).map (fun x => liftE n x)).length = len
      rw [List.length_map]; exact h6
    · rcases h7 with h7 | ⟨b, off, e, h7⟩
      · exact .inl h7
      · refine .inr ⟨b, off, e, fun i y hy => ?_⟩
        have hy' : ((ks t).map (fun x => liftE n x))[i]? = some y := hy
        rw [List.getElem?_map] at hy'
        obtain ⟨x, hx, rfl⟩ := Option.map_eq_some_iff.1 hy'
        obtain ⟨c0, c1, c2, p0, p1, p2, p3⟩ := h7 i x hx
        exact ⟨c0, c1, c2, p0, p1, p2, rx_lift n x _ p3⟩
theorem cells38 : Tryz.prog.cellsOf 38 = 3 := by kernel_rfl
theorem cells5 : Tryz.prog.cellsOf 5 = 1 := by kernel_rfl
theorem cells36 : Tryz.prog.cellsOf 36 = 1 := by kernel_rfl
theorem cells22 : Tryz.prog.cellsOf 22 = 1 := by kernel_rfl
set_option maxRecDepth 100000 in
theorem open_ex {H : Type} {enc : TypeId × Value → H} {W : World} {sp : Nat → Bool} : ∀ (fuel : Nat) (cs : List Value) (x : DataW H × List MemPlace), DataW.trod enc Tryz.prog W 0 sp true fuel 38 cs = some x →
    ∃ c0 c1 c2, cs = [c0, c1, c2] ∧ ∃ t : Ex fuel, Rx W fuel t (.agg #[c0, c1, c2]) := by
  intro fuel
  induction fuel using Nat.strongRecOn with
  | _ fuel ih =>
    intro cs x h
    obtain ⟨xs, n, hfuel, _, hlen, hxs, hf⟩ := DataW.trod_struct Tryz.underlying38 h
    rw [cells38] at hlen
    match cs, hlen with
    | [c0, c1, c2], _ =>
      refine ⟨c0, c1, c2, rfl, ?_⟩
      have u0 : DataW.trod enc Tryz.prog W 0 sp true n 5 [c0] = xs[0]? := by
        have this : DataW.trod enc Tryz.prog W 0 sp true n 5 (List.take (Tryz.prog.cellsOf 5) (List.drop 0 [c0, c1, c2])) = xs[0]? := hf 0 _ rfl
        rw [cells5] at this
        exact this
      have u1 : DataW.trod enc Tryz.prog W 0 sp true n 36 [c1] = xs[1]? := by
        have this : DataW.trod enc Tryz.prog W 0 sp true n 36 (List.take (Tryz.prog.cellsOf 36) (List.drop 1 [c0, c1, c2])) = xs[1]? := hf 1 _ rfl
        rw [cells36] at this
        exact this
      have u2 : DataW.trod enc Tryz.prog W 0 sp true n 22 [c2] = xs[2]? := by
        have this : DataW.trod enc Tryz.prog W 0 sp true n 22 (List.take (Tryz.prog.cellsOf 22) (List.drop 2 [c0, c1, c2])) = xs[2]? := hf 2 _ rfl
        rw [cells22] at this
        exact this
      have hxs3 : xs.length = 3 := hxs
      match xs, hxs3 with
      | [y0, y1, y2], _ =>
        simp only [List.getElem?_cons_zero, List.getElem?_cons_succ] at u0 u1 u2
        obtain ⟨s0, e0, _, w0⟩ := DataW.trod_int Tryz.underlying5 u0
        obtain ⟨s1, e1, _, w1⟩ := DataW.trod_int Tryz.underlying36 u1
        simp only [List.cons.injEq, and_true] at e0 e1
        subst e0; subst e1; subst hfuel
        have b0 := bounds_u8 w0
        have b1 := bounds_u16 w1
        obtain ⟨k0, rfl⟩ : ∃ k : Nat, s0 = (k : Int) := ⟨s0.toNat, by omega⟩
        obtain ⟨k1, rfl⟩ : ∃ k : Nat, s1 = (k : Int) := ⟨s1.toNat, by omega⟩
        rcases DataW.trod_slice Tryz.underlying22 u2 with ⟨hcs, _⟩ | ⟨a, len, cap, elems, rest, f, rfl, hcs, _, _, hl, hm, hel, hx, _⟩
        · simp only [List.cons.injEq, and_true] at hcs
          subst hcs
          exact ⟨(k0, k1, []), none, 0, 0, rfl, by show k0 < 256; omega, by show k1 < 65536; omega, Nat.le_refl _, by unfold maxLen; omega, rfl, .inl rfl⟩
        · simp only [List.cons.injEq, and_true] at hcs
          subst hcs
          have each : ∀ i, i < len → ∃ y : Ex f, ∃ d0 d1 d2, W.cell? (a.add (i * 3)) = some d0 ∧ W.cell? (a.add (i * 3 + 1)) = some d1 ∧ W.cell? (a.add (i * 3 + 2)) = some d2 ∧ Rx W f y (.agg #[d0, d1, d2]) := by
            intro i hi
            have hxi := hx i hi
            rw [cells38, List.getElem?_eq_getElem (by omega)] at hxi
            obtain ⟨cs', h1, h2⟩ := Option.bind_eq_some_iff.1 hxi
            obtain ⟨d0, d1, d2, rfl, y, hy⟩ := ih f (by omega) cs' _ h2
            obtain ⟨_, _, hcell⟩ := World.cells?_some h1
            have q0 := hcell 0 (by omega)
            have q1 := hcell 1 (by omega)
            have q2 := hcell 2 (by omega)
            rw [add_add] at q0 q1 q2
            exact ⟨y, d0, d1, d2, by simpa using q0, by simpa using q1, by simpa using q2, hy⟩
          obtain ⟨g, hg⟩ := @choose_lt (Ex f) ⟨exI f⟩ len _ each
          refine ⟨(k0, k1, (List.range len).map fun i => liftE f (g i)), some a, len, cap, rfl, by show k0 < 256; omega, by show k1 < 65536; omega, hl, hm, ?_, ?_⟩
          · show ((List.range len).map _).length = len
            simp
          · by_cases h0 : len = 0
            · exact .inl h0
            · obtain ⟨b, off, spot⟩ := a
              obtain ⟨_, _, _, z0, _⟩ := hg 0 (by omega)
              have hspot : spot = none := by simpa [Addr.add] using World.cell?_spot z0
              subst hspot
              refine .inr ⟨b, off, rfl, fun i y hy => ?_⟩
              have hy' : ((List.range len).map fun i => liftE f (g i))[i]? = some y := hy
              have hi : i < len := by have := (List.getElem?_eq_some_iff.1 hy').1; simpa using this
              simp only [List.getElem?_map, List.getElem?_range hi, Option.map_some, Option.some.injEq] at hy'
              subst hy'
              obtain ⟨d0, d1, d2, q0, q1, q2, hy⟩ := hg i hi
              have ha : ∀ j, (⟨b, off, none⟩ : Addr).add j = ⟨b, off + j, none⟩ := fun j => by
                simp only [Addr.add]
                split
                · rename_i h; rw [h]; rfl
                · rfl
              rw [ha] at q0 q1 q2
              exact ⟨d0, d1, d2, q0, by rw [Nat.add_assoc]; exact q1, by rw [Nat.add_assoc]; exact q2, rx_lift f _ _ hy⟩
end Go.Proofs.YtccaknabpnpjaaaGreatDoor.A

/- The document's Ends: rows of marks; the kinds without parts. -/
namespace Go.Proofs.YtccaknabpnpjaaaGreatDoor.A
open Go.RowKit

/-- Marks as cells. -/
def rowB (n : Nat) (g : Nat → Bool) : Array Value := ((List.range n).map fun (j : Nat) => Value.bool (g j)).toArray
theorem rowB_size (n : Nat) (g : Nat → Bool) : (rowB n g).size = n := by simp [rowB]
theorem rowB_at {n : Nat} (g : Nat → Bool) {j : Nat} (h : j < n) : (rowB n g)[j]? = some (.bool (g j)) := by simp [rowB, h]
theorem rowB_congr {n : Nat} {g h : Nat → Bool} (e : ∀ j, j < n → g j = h j) : rowB n g = rowB n h := by
  unfold rowB
  congr 1
  refine List.map_congr_left fun j hj => ?_
  rw [e j (by simpa using hj)]
theorem rowB_set {n : Nat} (g : Nat → Bool) {j : Nat} (v : Bool) (h : j < n) : (rowB n g).setIfInBounds j (.bool v) = rowB n (fun i => if i = j then v else g i) := by
  apply Array.ext_getElem?
  intro i
  by_cases hi : i < n
  · rw [rowB_at _ hi]
    by_cases e : i = j
    · subst e; simp [rowB_size, h]
    · rw [Array.getElem?_setIfInBounds, if_neg (fun q => e q.symm), rowB_at _ hi, if_neg e]
  · rw [Array.getElem?_eq_none (by simp [rowB_size]; omega), Array.getElem?_eq_none (by simp [rowB_size]; omega)]
theorem rowB_zero (n : Nat) : madeCells #[.bool false] n = rowB n (fun _ => false) := by
  apply Array.ext_getElem?
  intro i
  by_cases hi : i < n
  · rw [rowB_at _ hi]; simp [madeCells, hi, Nat.mod_one]
  · rw [Array.getElem?_eq_none (by simp [madeCells]; omega), Array.getElem?_eq_none (by simp [rowB_size]; omega)]
theorem info4 : (Tryz.prog.info? 4).map (fun i => (i.zero, i.size, i.bytes)) = some (some (.bool false), 1, 1) := by kernel_rfl
theorem make39 (n : Nat) (hn : n ≤ 10000) (w : World) : (Instr.makeSlice 68 (.int .i64 (n : Int)) (.int .i64 (n : Int))).run Tryz.prog w = .ok (.slice (some ⟨w.heap.size, 0, none⟩) n n) (w.alloc (.cells (rowB n fun _ => false) 4)) := by
  have := run_make_row' (P := Tryz.prog) 68 4 (.bool false) 1 Tryz.underlying68 info4 rfl .i64 .i64 n (by omega) (by omega) w
  rw [rowB_zero] at this
  exact this
/-- A row of marks. -/
def Mk (wr : World) (B n : Nat) (g : Nat → Bool) : Prop := wr.heap[B]? = some (.cells (rowB n g) 4 (0, 0))
theorem mk_congr {wr : World} {B n : Nat} {g h : Nat → Bool} (d : Mk wr B n g) (e : ∀ j, j < n → g j = h j) : Mk wr B n h := by unfold Mk; rw [← rowB_congr e]; exact d
theorem mk_cell {wr : World} {B n : Nat} {g : Nat → Bool} (d : Mk wr B n g) {j : Nat} (hj : j < n) : wr.cell? ⟨B, j, none⟩ = some (.bool (g j)) ∧ wr.frozen? ⟨B, j, none⟩ = false := by
  unfold Mk at d
  constructor
  · rw [cell_of_row _ _ j _ _ _ d, rowB_at _ hj]
  · simp [World.frozen?, d]
theorem mk_set {wr : World} {B n : Nat} {g : Nat → Bool} (d : Mk wr B n g) {j : Nat} (hj : j < n) (v : Bool) : Mk (wr.setCell ⟨B, j, none⟩ (.bool v)) B n (fun i => if i = j then v else g i) := by
  unfold Mk at *
  rw [setCell_eq_setRow _ _ _ _ _ _ _ d, setRow_heap _ _ _ _ _ _ d, rowB_set _ _ hj]
theorem mk_lt {wr : World} {B n : Nat} {g : Nat → Bool} (d : Mk wr B n g) : B < wr.heap.size := (Array.getElem?_eq_some_iff.1 d).1
theorem mk_new (w : World) (o1 : Obj) (N : Nat) : Mk ((w.alloc o1).alloc (.cells (rowB N fun _ => false) 4)) (w.heap.size + 1) N (fun _ => false) := by
  have := heap_alloc_last (w.alloc o1) (.cells (rowB N fun _ => false) 4)
  rw [show (w.alloc o1).heap.size = w.heap.size + 1 by simp] at this
  exact this
theorem mk_below {w w' : World} {B F n : Nat} {g : Nat → Bool} (hF : F < B) (hb : Below B w w') (d : Mk w F n g) : Mk w' F n g := by
  unfold Mk at *
  rw [hb.block F hF]; exact d
/-- A word at a slice. -/
def Wd (w : World) (a : Option Addr) (word : List Int) : Prop := ∀ i c, word[i]? = some c → ∃ b off, a = some ⟨b, off, none⟩ ∧ w.cell? ⟨b, off + i, none⟩ = some (.int .i64 c)
theorem wd_below {w w' : World} {a : Option Addr} {word : List Int} (hb : Below w.heap.size w w') (h : Wd w a word) : Wd w' a word := fun i c hc => by
  obtain ⟨b, off, e, k⟩ := h i c hc
  exact ⟨b, off, e, (hb.cell (p := ⟨b, off + i, none⟩) (cell_lt k)).trans k⟩
theorem copy_set (o : Nat → Bool) (k j : Nat) : (if j = k then o k else (decide (j < k) && o j)) = (decide (j < k + 1) && o j) := by
  by_cases e : j = k
  · subst e; simp
  · have : decide (j < k + 1) = decide (j < k) := by by_cases q : j < k <;> simp [q] <;> omega
    rw [if_neg e, this]
/-- What Ends is to hand back. -/
def Gives (w : World) (N : Nat) (g : Nat → Bool) (e : Ending) (w' : World) : Prop := ∃ B, w.heap.size ≤ B ∧ e = .returned (.slice (some ⟨B, 0, none⟩) N N) ∧ Mk w' B N g ∧ Below w.heap.size w w'

set_option maxRecDepth 100000 in
set_option maxHeartbeats 3200000 in
theorem ends_k0 (ss : Int) (x : Value) (a : Option Addr) (L N cap F : Nat) (o : Nat → Bool) (w : World) (hN : (L : Int) + 1 = (N : Int)) (hL : L ≤ 1000) (hF : Mk w F N o) :
    Calls Tryz.prog 30 #[.agg #[.int .u8 0, .int .u16 ss, x], .slice a L cap, .slice (some ⟨F, 0, none⟩) N N] w fun e w' => Gives w N o e w' := by
  have hmk : ∀ w, (Instr.makeSlice 68 (.int .i64 (N : Int)) (.int .i64 (N : Int))).run Tryz.prog w = .ok (.slice (some ⟨w.heap.size, 0, none⟩) N N) (w.alloc (.cells (rowB N fun _ => false) 4)) := make39 N (by omega)
  have HF := hide hF
  have HFL := hide (mk_lt hF)
  clear hF
  obtain ⟨p0, p1, p2⟩ := box3 w (.int .u8 0) (.int .u16 ss) x 38
  have HB0 := hide ((Below.refl w.heap.size w).alloc (Nat.le_refl _) (.cells #[.int .u8 0, .int .u16 ss, x] 38))
  go_enter Tryz.func30, Tryz.ntmps30
  go_wp2_with fail
  have hm0 : Mk ((w.alloc (.cells #[.int .u8 0, .int .u16 ss, x] 38)).alloc (.cells (rowB N fun _ => false) 4)) (w.heap.size + 1) N (fun j => decide (j < 0) && o j) := mk_congr (g := fun _ => false) (mk_new _ _ _) (by simp)
  have hb0 := HB0.out.alloc (by simp) (.cells (rowB N fun _ => false) 4)
  clear hmk p0 p1 p2 HB0
  generalize (w.alloc (.cells #[.int .u8 0, .int .u16 ss, x] 38)).alloc (.cells (rowB N fun _ => false) 4) = W0 at *
  generalize hB : w.heap.size = B at *
  go_loopw [8] (fun i wr => ∃ k : Nat, k ≤ N ∧ i = .int .i64 k ∧ Mk wr (B + 1) N (fun j => decide (j < k) && o j) ∧ Below B w wr) (fun i _ => N - (intOf i).toNat)
  case atStart => exact ⟨0, Nat.zero_le _, rfl, hm0, hb0⟩
  case round =>
    obtain ⟨k, hk, rfl, hm, hb⟩ := hrel
    clear hm0 hb0
    by_cases hlt : k < N
    · obtain ⟨m0, m1⟩ := mk_cell hm hlt
      obtain ⟨f0, _⟩ := mk_cell (mk_below HFL.out hb HF.out) hlt
      have i1 : (0 : Int) ≤ (k : Int) := by omega
      have i2 : (k : Int) < (N : Int) := by omega
      have HM := hide hm
      clear hm
      go_wp2
      go_roundw
      case rel => exact ⟨k + 1, by omega, by go_num, mk_congr (mk_set HM.out hlt (o k)) (fun j _ => copy_set o k j), hb.setCell (by simp) _⟩
      case measure => simp [intOf]; omega
    · have e : k = N := by omega
      subst e
      go_wp2
      go_ret
      exact ⟨B + 1, by omega, rfl, mk_congr hm (fun j hj => by simp [hj]), by rw [hB]; exact hb⟩

set_option maxRecDepth 100000 in
set_option maxHeartbeats 3200000 in
theorem ends_k6 (kk : Nat) (ss : Int) (x : Value) (a : Option Addr) (L N cap : Nat) (f : Value) (w : World) (hN : (L : Int) + 1 = (N : Int)) (hL : L ≤ 1000) (hk : 5 < kk) :
    Calls Tryz.prog 30 #[.agg #[.int .u8 kk, .int .u16 ss, x], .slice a L cap, f] w fun e w' => Gives w N (fun _ => false) e w' := by
  have hmk : ∀ w, (Instr.makeSlice 68 (.int .i64 (N : Int)) (.int .i64 (N : Int))).run Tryz.prog w = .ok (.slice (some ⟨w.heap.size, 0, none⟩) N N) (w.alloc (.cells (rowB N fun _ => false) 4)) := make39 N (by omega)
  have y0 : ((kk : Int) == 0) = false := by simp; omega
  have y1 : ((kk : Int) == 1) = false := by simp; omega
  have y2 : ((kk : Int) == 2) = false := by simp; omega
  have y3 : ((kk : Int) == 3) = false := by simp; omega
  have y4 : ((kk : Int) == 4) = false := by simp; omega
  have y5 : ((kk : Int) == 5) = false := by simp; omega
  obtain ⟨p0, p1, p2⟩ := box3 w (.int .u8 kk) (.int .u16 ss) x 38
  have HB0 := hide ((Below.refl w.heap.size w).alloc (Nat.le_refl _) (.cells #[.int .u8 kk, .int .u16 ss, x] 38))
  go_enter Tryz.func30, Tryz.ntmps30
  go_wp2
  go_ret
  exact ⟨w.heap.size + 1, by omega, rfl, mk_new _ _ _, HB0.out.alloc (by simp) (.cells (rowB N fun _ => false) 4)⟩

/-- What a set's bit is, by a shift. -/
theorem bit_at (s : Nat) (c : Int) (h0 : 0 ≤ c) (h1 : c < 16) : ((s : Int) / 2 ^ c.toNat % 2 == 1) = inS s c := by
  unfold inS
  rw [decide_eq_true h0, decide_eq_true h1, Bool.true_and, Bool.true_and, Bool.eq_iff_iff]
  simp only [beq_iff_eq]
  have e : (2 : Int) ^ c.toNat = ((2 ^ c.toNat : Nat) : Int) := by simp
  rw [e]
  generalize 2 ^ c.toNat = d
  omega
theorem bits_one (s : Nat) (c : Int) (hs : s < 65536) : (bits BinOp.and IntKind.u16 ((s : Int) / 2 ^ c.toNat) 1 == 1) = ((s : Int) / 2 ^ c.toNat % 2 == 1) := by
  have e : (2 : Int) ^ c.toNat = ((2 ^ c.toNat : Nat) : Int) := by simp
  have hd : (s : Int) / 2 ^ c.toNat = ((s / 2 ^ c.toNat : Nat) : Int) := by rw [e]; simp
  have hle : s / 2 ^ c.toNat ≤ s := Nat.div_le_self _ _
  rw [hd]
  generalize s / 2 ^ c.toNat = d at *
  have h := bits_mask .u16 16 (by decide) (fun n h0 h1 => by rw [IntKind.wrap_u16]; omega) 1 (by decide) (d : Int) (by omega) (by omega)
  rw [show ((2 : Int) ^ 1 - 1) = 1 from by decide, show ((2 : Int) ^ 1) = 2 from by decide] at h
  rw [h]
/-- What is marked behind so many places of a letter's loop. -/
def chB (word : List Int) (s : Nat) (o : Nat → Bool) (k j : Nat) : Bool := decide (j ≤ k) && (decide (0 < j) && (o (j - 1) && (match word[j - 1]? with | some c => inS s c | none => false)))
theorem chB_yes {word : List Int} {s : Nat} {o : Nat → Bool} {k : Nat} {c : Int} (hc : word[k]? = some c) (ho : o k = true) (hs : inS s c = true) (j : Nat) : (if j = k + 1 then true else chB word s o k j) = chB word s o (k + 1) j := by
  by_cases e : j = k + 1
  · subst e; simp [chB, ho, hc, hs]
  · rw [if_neg e]
    unfold chB
    rw [show decide (j ≤ k + 1) = decide (j ≤ k) from by by_cases q : j ≤ k <;> simp [q] <;> omega]
theorem chB_no {word : List Int} {s : Nat} {o : Nat → Bool} {k : Nat} {c : Int} (hc : word[k]? = some c) (h : (o k && inS s c) = false) (j : Nat) : chB word s o k j = chB word s o (k + 1) j := by
  by_cases e : j = k + 1
  · subst e; simp [chB, hc, h]
  · unfold chB
    rw [show decide (j ≤ k + 1) = decide (j ≤ k) from by by_cases q : j ≤ k <;> simp [q] <;> omega]

set_option maxRecDepth 100000 in
set_option maxHeartbeats 3200000 in
theorem ends_k1 (ss : Nat) (x : Value) (a : Option Addr) (word : List Int) (L N cap F : Nat) (o : Nat → Bool) (w : World) (hN : (L : Int) + 1 = (N : Int)) (hL : L ≤ 1000) (hw : word.length = L) (hs : ss < 65536) (hF : Mk w F N o) (hW : Wd w a word) :
    Calls Tryz.prog 30 #[.agg #[.int .u8 1, .int .u16 ss, x], .slice a L cap, .slice (some ⟨F, 0, none⟩) N N] w fun e w' => Gives w N (chB word ss o L) e w' := by
  have hmk : ∀ w, (Instr.makeSlice 68 (.int .i64 (N : Int)) (.int .i64 (N : Int))).run Tryz.prog w = .ok (.slice (some ⟨w.heap.size, 0, none⟩) N N) (w.alloc (.cells (rowB N fun _ => false) 4)) := make39 N (by omega)
  have HF := hide hF
  have HFL := hide (mk_lt hF)
  have HW := hide hW
  have HWL := hide hw
  clear hF hW hw
  obtain ⟨p0, p1, p2⟩ := box3 w (.int .u8 1) (.int .u16 ss) x 38
  have HB0 := hide ((Below.refl w.heap.size w).alloc (Nat.le_refl _) (.cells #[.int .u8 1, .int .u16 ss, x] 38))
  go_enter Tryz.func30, Tryz.ntmps30
  go_wp2_with fail
  have hm0 : Mk ((w.alloc (.cells #[.int .u8 1, .int .u16 ss, x] 38)).alloc (.cells (rowB N fun _ => false) 4)) (w.heap.size + 1) N (chB word ss o 0) := mk_congr (g := fun _ => false) (mk_new _ _ _) (fun j _ => by unfold chB; by_cases q : j ≤ 0 <;> simp [q]; omega)
  have hb0 := HB0.out.alloc (by simp) (.cells (rowB N fun _ => false) 4)
  have hp1 : ((w.alloc (.cells #[.int .u8 1, .int .u16 ss, x] 38)).alloc (.cells (rowB N fun _ => false) 4)).cell? ⟨w.heap.size, 1, none⟩ = some (.int .u16 ss) := by
    rw [← p1]; exact ((Below.refl (w.heap.size + 1) (w.alloc (.cells #[.int .u8 1, .int .u16 ss, x] 38))).alloc (by simp) (.cells (rowB N fun _ => false) 4)).cell (p := ⟨w.heap.size, 1, none⟩) (by simp)
  clear hmk p0 p1 p2 HB0
  generalize (w.alloc (.cells #[.int .u8 1, .int .u16 ss, x] 38)).alloc (.cells (rowB N fun _ => false) 4) = W0 at *
  generalize hB : w.heap.size = B at *
  go_loopw [9] (fun i wr => ∃ k : Nat, k ≤ L ∧ i = .int .i64 k ∧ Mk wr (B + 1) N (chB word ss o k) ∧ Below B w wr ∧ Below (B + 1) W0 wr) (fun i _ => L - (intOf i).toNat)
  case atStart => exact ⟨0, Nat.zero_le _, rfl, hm0, hb0, Below.refl _ _⟩
  case round =>
    obtain ⟨k, hk, rfl, hm, hb, hb2⟩ := hrel
    clear hm0 hb0
    have r1 := (hb2.cell (p := ⟨B, 1, none⟩) (Nat.lt_succ_self _)).trans hp1
    clear hp1
    by_cases hlt : k < L
    · obtain ⟨m0, m1⟩ := mk_cell hm (j := k + 1) (by omega)
      obtain ⟨f0, _⟩ := mk_cell (mk_below HFL.out hb HF.out) (j := k) (by omega)
      obtain ⟨c, hc⟩ : ∃ c, word[k]? = some c := ⟨_, List.getElem?_eq_getElem (by rw [HWL.out]; exact hlt)⟩
      obtain ⟨b, off, rfl, k0⟩ := wd_below (hB ▸ hb) HW.out k c hc
      have HC := hide hc
      have i1 : (0 : Int) ≤ (k : Int) := by omega
      have i2 : (k : Int) < (N : Int) := by omega
      have i3 : (k : Int) < (L : Int) := by omega
      have i4 : (k : Int) + 1 < (N : Int) := by omega
      have HM := hide hm
      clear hm hc
      cases ho : o k
      · rw [ho] at f0
        have HN := hide (chB_no (s := ss) HC.out (show (o k && inS ss c) = false by rw [ho]; rfl))
        clear ho
        go_wp2_with fail
        go_quiet (fail)
        go_wp2
        go_roundw
        case rel => exact ⟨k + 1, by omega, by go_num, mk_congr HM.out (fun j _ => HN.out j), below_drewN hb _, below_drewN hb2 _⟩
        case measure => simp [intOf]; omega
      · rw [ho] at f0
        have HO := hide ho
        clear ho
        by_cases c0 : 0 ≤ c
        · by_cases c1 : c < 16
          · cases hbit : (bits BinOp.and IntKind.u16 ((ss : Int) / 2 ^ c.toNat) 1 == 1)
            · have HN := hide (chB_no (s := ss) (o := o) HC.out (show (o k && inS ss c) = false by rw [← bit_at ss c c0 c1, ← bits_one ss c hs, hbit, Bool.and_false]))
              go_wp2_with fail
              go_quiet (fail)
              go_wp2
              go_roundw
              case rel => exact ⟨k + 1, by omega, by go_num, mk_congr HM.out (fun j _ => HN.out j), below_drewN hb _, below_drewN hb2 _⟩
              case measure => simp [intOf]; omega
            · have HN := hide (chB_yes (s := ss) HC.out HO.out (by rw [← bit_at ss c c0 c1, ← bits_one ss c hs, hbit]))
              go_wp2_with fail
              go_quiet (fail)
              go_wp2
              go_roundw
              case rel => exact ⟨k + 1, by omega, by go_num, mk_congr (mk_set (wr := wr.drewN nq) HM.out (by omega) true) (fun j _ => HN.out j), (below_drewN hb _).setCell (by simp) _, (below_drewN hb2 _).setCell (by simp) _⟩
              case measure => simp [intOf]; omega
          · have HN := hide (chB_no (s := ss) (o := o) HC.out (show (o k && inS ss c) = false by unfold inS; rw [decide_eq_false c1]; simp))
            have d1 : decide (c < 16) = false := decide_eq_false c1
            clear c1
            go_wp2_with fail
            go_quiet (fail)
            go_wp2
            go_roundw
            case rel => exact ⟨k + 1, by omega, by go_num, mk_congr HM.out (fun j _ => HN.out j), below_drewN hb _, below_drewN hb2 _⟩
            case measure => simp [intOf]; omega
        · have HN := hide (chB_no (s := ss) (o := o) HC.out (show (o k && inS ss c) = false by unfold inS; rw [decide_eq_false c0]; simp))
          have d1 : decide (0 ≤ c) = false := decide_eq_false c0
          clear c0
          go_wp2_with fail
          go_quiet (fail)
          go_wp2
          go_roundw
          case rel => exact ⟨k + 1, by omega, by go_num, mk_congr HM.out (fun j _ => HN.out j), below_drewN hb _, below_drewN hb2 _⟩
          case measure => simp [intOf]; omega
    · have e : k = L := by omega
      subst e
      go_wp2
      go_ret
      exact ⟨B + 1, by omega, rfl, hm, by rw [hB]; exact hb⟩
end Go.Proofs.YtccaknabpnpjaaaGreatDoor.A
