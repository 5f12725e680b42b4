/- The document's Ends: rows of marks; the kinds without parts. -/
import Derived.Test.YtldeofdjhpfdaaaF
import Derived.Test.YtldeofdjhpfdaaaP
import Derived.Deep.OwnRows
import Derived.Deep.WholeRow
namespace Go.Proofs.Ytldeofdjhpfdaaa.A
open Go.RowKit

/-- Marks as cells. -/
def rowB (n : Nat) (g : Nat → Bool) : Array Value := ((List.range n).map fun (j : Nat) => Value.bool (g j)).toArray
theorem rowB_size (n : Nat) (g : Nat → Bool) : (rowB n g).size = n := by simp [rowB]
theorem rowB_at {n : Nat} (g : Nat → Bool) {j : Nat} (h : j < n) : (rowB n g)[j]? = some (.bool (g j)) := by simp [rowB, h]
theorem rowB_congr {n : Nat} {g h : Nat → Bool} (e : ∀ j, j < n → g j = h j) : rowB n g = rowB n h := by
  unfold rowB
  congr 1
  refine List.map_congr_left fun j hj => ?_
  rw [e j (by simpa using hj)]
theorem rowB_set {n : Nat} (g : Nat → Bool) {j : Nat} (v : Bool) (h : j < n) : (rowB n g).setIfInBounds j (.bool v) = rowB n (fun i => if i = j then v else g i) := by
  apply Array.ext_getElem?
  intro i
  by_cases hi : i < n
  · rw [rowB_at _ hi]
    by_cases e : i = j
    · subst e; simp [rowB_size, h]
    · rw [Array.getElem?_setIfInBounds, if_neg (fun q => e q.symm), rowB_at _ hi, if_neg e]
  · rw [Array.getElem?_eq_none (by simp [rowB_size]; omega), Array.getElem?_eq_none (by simp [rowB_size]; omega)]
theorem rowB_zero (n : Nat) : madeCells #[.bool false] n = rowB n (fun _ => false) := by
  apply Array.ext_getElem?
  intro i
  by_cases hi : i < n
  · rw [rowB_at _ hi]; simp [madeCells, hi, Nat.mod_one]
  · rw [Array.getElem?_eq_none (by simp [madeCells]; omega), Array.getElem?_eq_none (by simp [rowB_size]; omega)]
theorem info4 : (Try.prog.info? 4).map (fun i => (i.zero, i.size, i.bytes)) = some (some (.bool false), 1, 1) := by kernel_rfl
theorem make39 (n : Nat) (hn : n ≤ 10000) (w : World) : (Instr.makeSlice 42 (.int .i64 (n : Int)) (.int .i64 (n : Int))).run Try.prog w = .ok (.slice (some ⟨w.heap.size, 0, none⟩) n n) (w.alloc (.cells (rowB n fun _ => false) 4)) := by
  have := run_make_row' (P := Try.prog) 42 4 (.bool false) 1 Try.underlying42 info4 rfl .i64 .i64 n (by omega) (by omega) w
  rw [rowB_zero] at this
  exact this
/-- A row of marks. -/
def Mk (wr : World) (B n : Nat) (g : Nat → Bool) : Prop := wr.heap[B]? = some (.cells (rowB n g) 4 (0, 0))
theorem mk_congr {wr : World} {B n : Nat} {g h : Nat → Bool} (d : Mk wr B n g) (e : ∀ j, j < n → g j = h j) : Mk wr B n h := by unfold Mk; rw [← rowB_congr e]; exact d
theorem mk_cell {wr : World} {B n : Nat} {g : Nat → Bool} (d : Mk wr B n g) {j : Nat} (hj : j < n) : wr.cell? ⟨B, j, none⟩ = some (.bool (g j)) ∧ wr.frozen? ⟨B, j, none⟩ = false := by
  unfold Mk at d
  constructor
  · rw [cell_of_row _ _ j _ _ _ d, rowB_at _ hj]
  · simp [World.frozen?, d]
theorem mk_set {wr : World} {B n : Nat} {g : Nat → Bool} (d : Mk wr B n g) {j : Nat} (hj : j < n) (v : Bool) : Mk (wr.setCell ⟨B, j, none⟩ (.bool v)) B n (fun i => if i = j then v else g i) := by
  unfold Mk at *
  rw [setCell_eq_setRow _ _ _ _ _ _ _ d, setRow_heap _ _ _ _ _ _ d, rowB_set _ _ hj]
theorem mk_lt {wr : World} {B n : Nat} {g : Nat → Bool} (d : Mk wr B n g) : B < wr.heap.size := (Array.getElem?_eq_some_iff.1 d).1
theorem mk_new (w : World) (o1 : Obj) (N : Nat) : Mk ((w.alloc o1).alloc (.cells (rowB N fun _ => false) 4)) (w.heap.size + 1) N (fun _ => false) := by
  have := heap_alloc_last (w.alloc o1) (.cells (rowB N fun _ => false) 4)
  rw [show (w.alloc o1).heap.size = w.heap.size + 1 by simp] at this
  exact this
theorem mk_below {w w' : World} {B F n : Nat} {g : Nat → Bool} (hF : F < B) (hb : Below B w w') (d : Mk w F n g) : Mk w' F n g := by
  unfold Mk at *
  rw [hb.block F hF]; exact d
/-- A word at a slice. -/
def Wd (w : World) (a : Option Addr) (word : List Int) : Prop := ∀ i c, word[i]? = some c → ∃ b off, a = some ⟨b, off, none⟩ ∧ w.cell? ⟨b, off + i, none⟩ = some (.int .i64 c)
theorem wd_below {w w' : World} {a : Option Addr} {word : List Int} (hb : Below w.heap.size w w') (h : Wd w a word) : Wd w' a word := fun i c hc => by
  obtain ⟨b, off, e, k⟩ := h i c hc
  exact ⟨b, off, e, (hb.cell (p := ⟨b, off + i, none⟩) (cell_lt k)).trans k⟩
theorem copy_set (o : Nat → Bool) (k j : Nat) : (if j = k then o k else (decide (j < k) && o j)) = (decide (j < k + 1) && o j) := by
  by_cases e : j = k
  · subst e; simp
  · have : decide (j < k + 1) = decide (j < k) := by by_cases q : j < k <;> simp [q] <;> omega
    rw [if_neg e, this]
/-- What Ends is to hand back. -/
def Gives (w : World) (N : Nat) (g : Nat → Bool) (e : Ending) (w' : World) : Prop := ∃ B, w.heap.size ≤ B ∧ e = .returned (.slice (some ⟨B, 0, none⟩) N N) ∧ Mk w' B N g ∧ Below w.heap.size w w'

set_option maxRecDepth 100000 in
set_option maxHeartbeats 3200000 in
theorem ends_k0 (ss : Int) (x : Value) (a : Option Addr) (L N cap F : Nat) (o : Nat → Bool) (w : World) (hN : (L : Int) + 1 = (N : Int)) (hL : L ≤ 1000) (hF : Mk w F N o) :
    Calls Try.prog 41 #[.agg #[.int .u8 0, .int .u16 ss, x], .slice a L cap, .slice (some ⟨F, 0, none⟩) N N] w fun e w' => Gives w N o e w' := by
  have hmk : ∀ w, (Instr.makeSlice 42 (.int .i64 (N : Int)) (.int .i64 (N : Int))).run Try.prog w = .ok (.slice (some ⟨w.heap.size, 0, none⟩) N N) (w.alloc (.cells (rowB N fun _ => false) 4)) := make39 N (by omega)
  have HF := hide hF
  have HFL := hide (mk_lt hF)
  clear hF
  obtain ⟨p0, p1, p2⟩ := box3 w (.int .u8 0) (.int .u16 ss) x 51
  have HB0 := hide ((Below.refl w.heap.size w).alloc (Nat.le_refl _) (.cells #[.int .u8 0, .int .u16 ss, x] 51))
  go_enter Try.func41, Try.ntmps41
  go_wp2_with fail
  have hm0 : Mk ((w.alloc (.cells #[.int .u8 0, .int .u16 ss, x] 51)).alloc (.cells (rowB N fun _ => false) 4)) (w.heap.size + 1) N (fun j => decide (j < 0) && o j) := mk_congr (g := fun _ => false) (mk_new _ _ _) (by simp)
  have hb0 := HB0.out.alloc (by simp) (.cells (rowB N fun _ => false) 4)
  clear hmk p0 p1 p2 HB0
  generalize (w.alloc (.cells #[.int .u8 0, .int .u16 ss, x] 51)).alloc (.cells (rowB N fun _ => false) 4) = W0 at *
  generalize hB : w.heap.size = B at *
  go_loopw [8] (fun i wr => ∃ k : Nat, k ≤ N ∧ i = .int .i64 k ∧ Mk wr (B + 1) N (fun j => decide (j < k) && o j) ∧ Below B w wr) (fun i _ => N - (intOf i).toNat)
  case atStart => exact ⟨0, Nat.zero_le _, rfl, hm0, hb0⟩
  case round =>
    obtain ⟨k, hk, rfl, hm, hb⟩ := hrel
    clear hm0 hb0
    by_cases hlt : k < N
    · obtain ⟨m0, m1⟩ := mk_cell hm hlt
      obtain ⟨f0, _⟩ := mk_cell (mk_below HFL.out hb HF.out) hlt
      have i1 : (0 : Int) ≤ (k : Int) := by omega
      have i2 : (k : Int) < (N : Int) := by omega
      have HM := hide hm
      clear hm
      go_wp2
      go_roundw
      case rel => exact ⟨k + 1, by omega, by go_num, mk_congr (mk_set HM.out hlt (o k)) (fun j _ => copy_set o k j), hb.setCell (by simp) _⟩
      case measure => simp [intOf]; omega
    · have e : k = N := by omega
      subst e
      go_wp2
      go_ret
      exact ⟨B + 1, by omega, rfl, mk_congr hm (fun j hj => by simp [hj]), by rw [hB]; exact hb⟩

set_option maxRecDepth 100000 in
set_option maxHeartbeats 3200000 in
theorem ends_k6 (kk : Nat) (ss : Int) (x : Value) (a : Option Addr) (L N cap : Nat) (f : Value) (w : World) (hN : (L : Int) + 1 = (N : Int)) (hL : L ≤ 1000) (hk : 5 < kk) :
    Calls Try.prog 41 #[.agg #[.int .u8 kk, .int .u16 ss, x], .slice a L cap, f] w fun e w' => Gives w N (fun _ => false) e w' := by
  have hmk : ∀ w, (Instr.makeSlice 42 (.int .i64 (N : Int)) (.int .i64 (N : Int))).run Try.prog w = .ok (.slice (some ⟨w.heap.size, 0, none⟩) N N) (w.alloc (.cells (rowB N fun _ => false) 4)) := make39 N (by omega)
  have y0 : ((kk : Int) == 0) = false := by simp; omega
  have y1 : ((kk : Int) == 1) = false := by simp; omega
  have y2 : ((kk : Int) == 2) = false := by simp; omega
  have y3 : ((kk : Int) == 3) = false := by simp; omega
  have y4 : ((kk : Int) == 4) = false := by simp; omega
  have y5 : ((kk : Int) == 5) = false := by simp; omega
  obtain ⟨p0, p1, p2⟩ := box3 w (.int .u8 kk) (.int .u16 ss) x 51
  have HB0 := hide ((Below.refl w.heap.size w).alloc (Nat.le_refl _) (.cells #[.int .u8 kk, .int .u16 ss, x] 51))
  go_enter Try.func41, Try.ntmps41
  go_wp2
  go_ret
  exact ⟨w.heap.size + 1, by omega, rfl, mk_new _ _ _, HB0.out.alloc (by simp) (.cells (rowB N fun _ => false) 4)⟩

/-- What a set's bit is, by a shift. -/
theorem bit_at (s : Nat) (c : Int) (h0 : 0 ≤ c) (h1 : c < 16) : ((s : Int) / 2 ^ c.toNat % 2 == 1) = inS s c := by
  unfold inS
  rw [decide_eq_true h0, decide_eq_true h1, Bool.true_and, Bool.true_and, Bool.eq_iff_iff]
  simp only [beq_iff_eq]
  have e : (2 : Int) ^ c.toNat = ((2 ^ c.toNat : Nat) : Int) := by simp
  rw [e]
  generalize 2 ^ c.toNat = d
  omega
theorem bits_one (s : Nat) (c : Int) (hs : s < 65536) : (bits BinOp.and IntKind.u16 ((s : Int) / 2 ^ c.toNat) 1 == 1) = ((s : Int) / 2 ^ c.toNat % 2 == 1) := by
  have e : (2 : Int) ^ c.toNat = ((2 ^ c.toNat : Nat) : Int) := by simp
  have hd : (s : Int) / 2 ^ c.toNat = ((s / 2 ^ c.toNat : Nat) : Int) := by rw [e]; simp
  have hle : s / 2 ^ c.toNat ≤ s := Nat.div_le_self _ _
  rw [hd]
  generalize s / 2 ^ c.toNat = d at *
  have h := bits_mask .u16 16 (by decide) (fun n h0 h1 => by rw [IntKind.wrap_u16]; omega) 1 (by decide) (d : Int) (by omega) (by omega)
  rw [show ((2 : Int) ^ 1 - 1) = 1 from by decide, show ((2 : Int) ^ 1) = 2 from by decide] at h
  rw [h]
/-- What is marked behind so many places of a letter's loop. -/
def chB (word : List Int) (s : Nat) (o : Nat → Bool) (k j : Nat) : Bool := decide (j ≤ k) && (decide (0 < j) && (o (j - 1) && (match word[j - 1]? with | some c => inS s c | none => false)))
theorem chB_yes {word : List Int} {s : Nat} {o : Nat → Bool} {k : Nat} {c : Int} (hc : word[k]? = some c) (ho : o k = true) (hs : inS s c = true) (j : Nat) : (if j = k + 1 then true else chB word s o k j) = chB word s o (k + 1) j := by
  by_cases e : j = k + 1
  · subst e; simp [chB, ho, hc, hs]
  · rw [if_neg e]
    unfold chB
    rw [show decide (j ≤ k + 1) = decide (j ≤ k) from by by_cases q : j ≤ k <;> simp [q] <;> omega]
theorem chB_no {word : List Int} {s : Nat} {o : Nat → Bool} {k : Nat} {c : Int} (hc : word[k]? = some c) (h : (o k && inS s c) = false) (j : Nat) : chB word s o k j = chB word s o (k + 1) j := by
  by_cases e : j = k + 1
  · subst e; simp [chB, hc, h]
  · unfold chB
    rw [show decide (j ≤ k + 1) = decide (j ≤ k) from by by_cases q : j ≤ k <;> simp [q] <;> omega]

set_option maxRecDepth 100000 in
set_option maxHeartbeats 3200000 in
theorem ends_k1 (ss : Nat) (x : Value) (a : Option Addr) (word : List Int) (L N cap F : Nat) (o : Nat → Bool) (w : World) (hN : (L : Int) + 1 = (N : Int)) (hL : L ≤ 1000) (hw : word.length = L) (hs : ss < 65536) (hF : Mk w F N o) (hW : Wd w a word) :
    Calls Try.prog 41 #[.agg #[.int .u8 1, .int .u16 ss, x], .slice a L cap, .slice (some ⟨F, 0, none⟩) N N] w fun e w' => Gives w N (chB word ss o L) e w' := by
  have hmk : ∀ w, (Instr.makeSlice 42 (.int .i64 (N : Int)) (.int .i64 (N : Int))).run Try.prog w = .ok (.slice (some ⟨w.heap.size, 0, none⟩) N N) (w.alloc (.cells (rowB N fun _ => false) 4)) := make39 N (by omega)
  have HF := hide hF
  have HFL := hide (mk_lt hF)
  have HW := hide hW
  have HWL := hide hw
  clear hF hW hw
  obtain ⟨p0, p1, p2⟩ := box3 w (.int .u8 1) (.int .u16 ss) x 51
  have HB0 := hide ((Below.refl w.heap.size w).alloc (Nat.le_refl _) (.cells #[.int .u8 1, .int .u16 ss, x] 51))
  go_enter Try.func41, Try.ntmps41
  go_wp2_with fail
  have hm0 : Mk ((w.alloc (.cells #[.int .u8 1, .int .u16 ss, x] 51)).alloc (.cells (rowB N fun _ => false) 4)) (w.heap.size + 1) N (chB word ss o 0) := mk_congr (g := fun _ => false) (mk_new _ _ _) (fun j _ => by unfold chB; by_cases q : j ≤ 0 <;> simp [q]; omega)
  have hb0 := HB0.out.alloc (by simp) (.cells (rowB N fun _ => false) 4)
  have hp1 : ((w.alloc (.cells #[.int .u8 1, .int .u16 ss, x] 51)).alloc (.cells (rowB N fun _ => false) 4)).cell? ⟨w.heap.size, 1, none⟩ = some (.int .u16 ss) := by
    rw [← p1]; exact ((Below.refl (w.heap.size + 1) (w.alloc (.cells #[.int .u8 1, .int .u16 ss, x] 51))).alloc (by simp) (.cells (rowB N fun _ => false) 4)).cell (p := ⟨w.heap.size, 1, none⟩) (by simp)
  clear hmk p0 p1 p2 HB0
  generalize (w.alloc (.cells #[.int .u8 1, .int .u16 ss, x] 51)).alloc (.cells (rowB N fun _ => false) 4) = W0 at *
  generalize hB : w.heap.size = B at *
  go_loopw [9] (fun i wr => ∃ k : Nat, k ≤ L ∧ i = .int .i64 k ∧ Mk wr (B + 1) N (chB word ss o k) ∧ Below B w wr ∧ Below (B + 1) W0 wr) (fun i _ => L - (intOf i).toNat)
  case atStart => exact ⟨0, Nat.zero_le _, rfl, hm0, hb0, Below.refl _ _⟩
  case round =>
    obtain ⟨k, hk, rfl, hm, hb, hb2⟩ := hrel
    clear hm0 hb0
    have r1 := (hb2.cell (p := ⟨B, 1, none⟩) (Nat.lt_succ_self _)).trans hp1
    clear hp1
    by_cases hlt : k < L
    · obtain ⟨m0, m1⟩ := mk_cell hm (j := k + 1) (by omega)
      obtain ⟨f0, _⟩ := mk_cell (mk_below HFL.out hb HF.out) (j := k) (by omega)
      obtain ⟨c, hc⟩ : ∃ c, word[k]? = some c := ⟨_, List.getElem?_eq_getElem (by rw [HWL.out]; exact hlt)⟩
      obtain ⟨b, off, rfl, k0⟩ := wd_below (hB ▸ hb) HW.out k c hc
      have HC := hide hc
      have i1 : (0 : Int) ≤ (k : Int) := by omega
      have i2 : (k : Int) < (N : Int) := by omega
      have i3 : (k : Int) < (L : Int) := by omega
      have i4 : (k : Int) + 1 < (N : Int) := by omega
      have HM := hide hm
      clear hm hc
      cases ho : o k
      · rw [ho] at f0
        have HN := hide (chB_no (s := ss) HC.out (show (o k && inS ss c) = false by rw [ho]; rfl))
        clear ho
        go_wp2_with fail
        go_quiet (fail)
        go_wp2
        go_roundw
        case rel => exact ⟨k + 1, by omega, by go_num, mk_congr HM.out (fun j _ => HN.out j), below_drewN hb _, below_drewN hb2 _⟩
        case measure => simp [intOf]; omega
      · rw [ho] at f0
        have HO := hide ho
        clear ho
        by_cases c0 : 0 ≤ c
        · by_cases c1 : c < 16
          · cases hbit : (bits BinOp.and IntKind.u16 ((ss : Int) / 2 ^ c.toNat) 1 == 1)
            · have HN := hide (chB_no (s := ss) (o := o) HC.out (show (o k && inS ss c) = false by rw [← bit_at ss c c0 c1, ← bits_one ss c hs, hbit, Bool.and_false]))
              go_wp2_with fail
              go_quiet (fail)
              go_wp2
              go_roundw
              case rel => exact ⟨k + 1, by omega, by go_num, mk_congr HM.out (fun j _ => HN.out j), below_drewN hb _, below_drewN hb2 _⟩
              case measure => simp [intOf]; omega
            · have HN := hide (chB_yes (s := ss) HC.out HO.out (by rw [← bit_at ss c c0 c1, ← bits_one ss c hs, hbit]))
              go_wp2_with fail
              go_quiet (fail)
              go_wp2
              go_roundw
              case rel => exact ⟨k + 1, by omega, by go_num, mk_congr (mk_set (wr := wr.drewN nq) HM.out (by omega) true) (fun j _ => HN.out j), (below_drewN hb _).setCell (by simp) _, (below_drewN hb2 _).setCell (by simp) _⟩
              case measure => simp [intOf]; omega
          · have HN := hide (chB_no (s := ss) (o := o) HC.out (show (o k && inS ss c) = false by unfold inS; rw [decide_eq_false c1]; simp))
            have d1 : decide (c < 16) = false := decide_eq_false c1
            clear c1
            go_wp2_with fail
            go_quiet (fail)
            go_wp2
            go_roundw
            case rel => exact ⟨k + 1, by omega, by go_num, mk_congr HM.out (fun j _ => HN.out j), below_drewN hb _, below_drewN hb2 _⟩
            case measure => simp [intOf]; omega
        · have HN := hide (chB_no (s := ss) (o := o) HC.out (show (o k && inS ss c) = false by unfold inS; rw [decide_eq_false c0]; simp))
          have d1 : decide (0 ≤ c) = false := decide_eq_false c0
          clear c0
          go_wp2_with fail
          go_quiet (fail)
          go_wp2
          go_roundw
          case rel => exact ⟨k + 1, by omega, by go_num, mk_congr HM.out (fun j _ => HN.out j), below_drewN hb _, below_drewN hb2 _⟩
          case measure => simp [intOf]; omega
    · have e : k = L := by omega
      subst e
      go_wp2
      go_ret
      exact ⟨B + 1, by omega, rfl, hm, by rw [hB]; exact hb⟩
end Go.Proofs.Ytldeofdjhpfdaaa.A
