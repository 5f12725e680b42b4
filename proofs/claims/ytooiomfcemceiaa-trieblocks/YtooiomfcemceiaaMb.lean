/- Contract: the document's Edges. -/
import Derived.Test.YtooiomfcemceiaaMa
namespace Go.Proofs.Ytooiomfcemceiaa.A
open Go.RowKit Go.Maps

/-- Marks as cells. -/
def rowB (n : Nat) (g : Nat → Bool) : Array Value := ((List.range n).map fun (j : Nat) => Value.bool (g j)).toArray
theorem rowB_size (n : Nat) (g : Nat → Bool) : (rowB n g).size = n := by simp [rowB]
theorem rowB_at {n : Nat} (g : Nat → Bool) {j : Nat} (h : j < n) : (rowB n g)[j]? = some (.bool (g j)) := by simp [rowB, h]
theorem rowB_congr {n : Nat} {g h : Nat → Bool} (e : ∀ j, j < n → g j = h j) : rowB n g = rowB n h := by
  unfold rowB
  congr 1
  refine List.map_congr_left fun j hj => ?_
  rw [e j (by simpa using hj)]
theorem rowB_set {n : Nat} (g : Nat → Bool) {j : Nat} (v : Bool) (h : j < n) : (rowB n g).setIfInBounds j (.bool v) = rowB n (fun i => if i = j then v else g i) := by
  apply Array.ext_getElem?
  intro i
  by_cases hi : i < n
  · rw [rowB_at _ hi]
    by_cases e : i = j
    · subst e; simp [rowB_size, h]
    · rw [Array.getElem?_setIfInBounds, if_neg (fun q => e q.symm), rowB_at _ hi, if_neg e]
  · rw [Array.getElem?_eq_none (by simp [rowB_size]; omega), Array.getElem?_eq_none (by simp [rowB_size]; omega)]
theorem rowB_zero (n : Nat) : madeCells #[.bool false] n = rowB n (fun _ => false) := by
  apply Array.ext_getElem?
  intro i
  by_cases hi : i < n
  · rw [rowB_at _ hi]; simp [madeCells, hi, Nat.mod_one]
  · rw [Array.getElem?_eq_none (by simp [madeCells]; omega), Array.getElem?_eq_none (by simp [rowB_size]; omega)]
theorem info4 : (Try.prog.info? 4).map (fun i => (i.zero, i.size, i.bytes)) = some (some (.bool false), 1, 1) := by kernel_rfl
theorem make67 (n : Nat) (hn : n ≤ 10000) (w : World) : (Instr.makeSlice 67 (.int .i64 (n : Int)) (.int .i64 (n : Int))).run Try.prog w = .ok (.slice (some ⟨w.heap.size, 0, none⟩) n n) (w.alloc (.cells (rowB n fun _ => false) 4)) := by
  have := run_make_row' (P := Try.prog) 67 4 (.bool false) 1 Try.underlying67 info4 rfl .i64 .i64 n (by omega) (by omega) w
  rw [rowB_zero] at this
  exact this
/-- A row of marks. -/
def Mk (wr : World) (B n : Nat) (g : Nat → Bool) : Prop := wr.heap[B]? = some (.cells (rowB n g) 4 (0, 0))
theorem mk_congr {wr : World} {B n : Nat} {g h : Nat → Bool} (d : Mk wr B n g) (e : ∀ j, j < n → g j = h j) : Mk wr B n h := by unfold Mk; rw [← rowB_congr e]; exact d
theorem mk_cell {wr : World} {B n : Nat} {g : Nat → Bool} (d : Mk wr B n g) {j : Nat} (hj : j < n) : wr.cell? ⟨B, j, none⟩ = some (.bool (g j)) ∧ wr.frozen? ⟨B, j, none⟩ = false := by
  unfold Mk at d
  constructor
  · rw [cell_of_row _ _ j _ _ _ d, rowB_at _ hj]
  · simp [World.frozen?, d]
theorem mk_set {wr : World} {B n : Nat} {g : Nat → Bool} (d : Mk wr B n g) {j : Nat} (hj : j < n) (v : Bool) : Mk (wr.setCell ⟨B, j, none⟩ (.bool v)) B n (fun i => if i = j then v else g i) := by
  unfold Mk at *
  rw [setCell_eq_setRow _ _ _ _ _ _ _ d, setRow_heap _ _ _ _ _ _ d, rowB_set _ _ hj]
theorem mk_lt {wr : World} {B n : Nat} {g : Nat → Bool} (d : Mk wr B n g) : B < wr.heap.size := (Array.getElem?_eq_some_iff.1 d).1
/-- What is marked while a range is gone through. -/
def midS (zs : List Rg) (k F T p b : Nat) : Bool := seenB zs b k || (decide (b < p) && (decide (b = F) || decide (b = T)))
theorem midS_start {zs : List Rg} {k F T : Nat} (h : F ≤ T) (b : Nat) : seenB zs b k = midS zs k F T F b := by
  unfold midS
  by_cases e : b < F
  · have h1 : ¬ b = F := by omega
    have h2 : ¬ b = T := by omega
    simp [h1, h2]
  · simp [e]
theorem midS_set {zs : List Rg} {k F T p : Nat} (h : p = F ∨ p = T) (b : Nat) : (if b = p then true else midS zs k F T p b) = midS zs k F T (p + 1) b := by
  by_cases e : b = p
  · rw [if_pos e]
    subst e
    unfold midS
    rcases h with h | h <;> subst h <;> simp
  · rw [if_neg e]
    unfold midS
    have : decide (b < p + 1) = decide (b < p) := by by_cases q : b < p <;> simp [q] <;> omega
    rw [this]
theorem midS_skip {zs : List Rg} {k F T p : Nat} (h : ¬ p = F) (h' : ¬ p = T) (b : Nat) : midS zs k F T p b = midS zs k F T (p + 1) b := by
  unfold midS
  by_cases e : b = p
  · subst e; simp [h, h']
  · have : decide (b < p + 1) = decide (b < p) := by by_cases q : b < p <;> simp [q] <;> omega
    rw [this]
theorem midS_end {zs : List Rg} {k F T : Nat} (hF : (at' zs k).f / 128 = (F : Int)) (hT : (at' zs k).t / 128 = (T : Int)) (h : F ≤ T) (b : Nat) : midS zs k F T (T + 1) b = seenB zs b (k + 1) := by
  show _ = (seenB zs b k || decide ((at' zs k).f / 128 = (b : Int)) || decide ((at' zs k).t / 128 = (b : Int)))
  rw [hF, hT]
  unfold midS
  by_cases e1 : b = F
  · subst e1
    simp
    omega
  · have h1 : ¬ ((F : Int) = (b : Int)) := by omega
    by_cases e2 : b = T
    · subst e2; simp
    · have h2 : ¬ ((T : Int) = (b : Int)) := by omega
      simp [e1, e2, h1, h2]
theorem edge_set (zs : List Rg) (k j : Nat) : (if j = 432 then true else seenB zs j k) = edgeB zs k j := by
  unfold edgeB
  by_cases e : j = 432
  · rw [if_pos e]; simp [e]
  · rw [if_neg e]; simp [e]
theorem info3 : (Try.prog.info? 3).map (fun i => (i.zero, i.size, i.bytes)) = some (some (.int .i64 0), 1, 8) := by kernel_rfl
def intsN (l : List Nat) : List Value := l.map fun (b : Nat) => Value.int .i64 (b : Int)

set_option maxRecDepth 100000 in
set_option maxHeartbeats 3200000 in
theorem edges_any (x : Option Addr) (len cap : Nat) (zs : List Rg) (w : World) (hl : len ≤ 60) (hs : SegR w x len zs) (hr : Rt 255 zs len) :
    Calls Try.prog 27 #[.slice x len cap] w fun e w' => ∃ v, e = .returned v ∧ w'.ownsRow w.heap.size 3 1 v (edges zs len 8704).length (intsN (edges zs len 8704)) ∧ Below w.heap.size w w' := by
  have hmk : ∀ w, (Instr.makeSlice 67 (.int .i64 8704) (.int .i64 8704)).run Try.prog w = .ok (.slice (some ⟨w.heap.size, 0, none⟩) 8704 8704) (w.alloc (.cells (rowB 8704 fun _ => false) 4)) := make67 8704 (by omega)
  have HR := hide hr
  have HS := hide hs
  clear hr hs
  go_enter Try.func27, Try.ntmps27
  go_wp2_with fail
  have hm0 : Mk (w.alloc (.cells (rowB 8704 fun _ => false) 4)) w.heap.size 8704 (fun b => seenB zs b 0) := heap_alloc_last w _
  have hb0 := (Below.refl w.heap.size w).alloc (Nat.le_refl _) (.cells (rowB 8704 fun _ => false) 4)
  clear hmk
  generalize w.alloc (.cells (rowB 8704 fun _ => false) 4) = W0 at *
  generalize hB : w.heap.size = B at *
  go_loopw [4] (fun i wr => ∃ k : Nat, k ≤ len ∧ i = .int .i64 k ∧ Mk wr B 8704 (fun b => seenB zs b k) ∧ Below B w wr) (fun i _ => len - (intOf i).toNat)
  case atStart => exact ⟨0, Nat.zero_le _, rfl, hm0, hb0⟩
  case round =>
    obtain ⟨k, hk, rfl, hm, hb⟩ := hrel
    clear hm0 hb0
    by_cases hlt : k < len
    · obtain ⟨b, off, rfl, hc⟩ := HS.out.leads (by omega)
      have CW := hide (hc k hlt)
      clear hc
      obtain ⟨o1, o2, o3, o4, o5⟩ := HR.out.1 k hlt
      obtain ⟨F, hF⟩ : ∃ F : Nat, (at' zs k).f / 128 = (F : Int) := ⟨((at' zs k).f / 128).toNat, by omega⟩
      obtain ⟨T, hT⟩ : ∃ T : Nat, (at' zs k).t / 128 = (T : Int) := ⟨((at' zs k).t / 128).toNat, by omega⟩
      have hFT : F ≤ T := by omega
      have hT2 : T < 8704 := by omega
      have HE := hide (midS_end hF hT hFT)
      have hq1 : (at' zs k).f.tdiv 128 = (F : Int) := by rw [Int.tdiv_eq_ediv_of_nonneg o1]; exact hF
      have hq2 : (at' zs k).t.tdiv 128 = (T : Int) := by rw [Int.tdiv_eq_ediv_of_nonneg (by omega)]; exact hT
      obtain ⟨c0, c1, c2⟩ := seg_below (hB ▸ hb) CW.out
      have i1 : (0 : Int) ≤ (k : Int) := by omega
      have i2 : (k : Int) < (len : Int) := by omega
      clear hF hT
      generalize (at' zs k).f = f at *
      generalize (at' zs k).t = t at *
      have HM := hide hm
      clear hm
      go_wp2_with fail
      go_loopw [5] (fun u wi => ∃ p : Nat, u = .int .i64 p ∧ F ≤ p ∧ p ≤ T + 1 ∧ Mk wi B 8704 (midS zs k F T p) ∧ Below B w wi) (fun u _ => T + 1 - (intOf u).toNat)
      case atStart => exact ⟨F, rfl, Nat.le_refl _, by omega, mk_congr HM.out (fun j _ => midS_start hFT j), hb⟩
      case round =>
        obtain ⟨p, rfl, hp1, hp2, hm, hb⟩ := hrel
        clear c0 c1 c2 HM
        obtain ⟨c0, c1, c2⟩ := seg_below (hB ▸ hb) CW.out
        by_cases hgo : p ≤ T
        · have hp3 : p < 8704 := by omega
          obtain ⟨m0, m1⟩ := mk_cell hm hp3
          have HM := hide hm
          clear hm
          have hgo' : (p : Int) ≤ (T : Int) := by omega
          by_cases hpF : p = F
          · subst hpF
            go_wp2
            go_roundw
            case rel => exact ⟨p + 1, by go_num, by omega, by omega, mk_congr (mk_set HM.out hp3 true) (fun j _ => midS_set (.inl rfl) j), hb.setCell (by simp) _⟩
            case measure => simp [intOf]; omega
          · have hpF' : ((p : Int) == (F : Int)) = false := by simp; omega
            by_cases hpT : p = T
            · subst hpT
              go_wp2
              go_roundw
              case rel => exact ⟨p + 1, by go_num, by omega, by omega, mk_congr (mk_set HM.out hp3 true) (fun j _ => midS_set (.inr rfl) j), hb.setCell (by simp) _⟩
              case measure => simp [intOf]
            · have hpT' : ((p : Int) == (T : Int)) = false := by simp; omega
              go_wp2
              go_roundw
              case rel => exact ⟨p + 1, by go_num, by omega, by omega, mk_congr HM.out (fun j _ => midS_skip hpF hpT j), hb⟩
              case measure => simp [intOf]; omega
        · have e : p = T + 1 := by omega
          subst e
          have HM := hide hm
          clear hm
          go_wp2
          go_roundw
          case rel => exact ⟨k + 1, by omega, by go_num, mk_congr HM.out (fun j _ => HE.out j), hb⟩
          case measure => simp [intOf]; omega
    · have e : k = len := by omega
      subst e
      obtain ⟨m0, m1⟩ := mk_cell hm (show 432 < 8704 by omega)
      have HM := hide (mk_congr (mk_set hm (show 432 < 8704 by omega) true) (h := edgeB zs k) (fun j _ => edge_set zs k j))
      have HB := hide (hb.setCell (p := ⟨B, 432, none⟩) (Nat.le_refl _) (.bool true))
      have HLT := hide (mk_lt hm)
      obtain ⟨i0, hi, hz0, hz1, hz2⟩ := info_parts info3
      clear hm hb
      go_wp2_with fail
      have hm2 := HM.out
      have hb2 := HB.out
      have hsz2 : B + 1 ≤ (wr.setCell ⟨B, 432, none⟩ (.bool true)).heap.size := by have := HLT.out; simp; omega
      clear HM HB HLT m0 m1
      generalize wr.setCell ⟨B, 432, none⟩ (.bool true) = W1 at *
      go_loopw [6, 7] (fun v u wr => ∃ n c : Nat, n ≤ 8704 ∧ u = .int .i64 n ∧ c = (edges zs k n).length ∧ c ≤ n ∧ wr.ownsRow (B + 1) 3 1 v c (intsN (edges zs k n)) ∧ Mk wr B 8704 (edgeB zs k) ∧ Below B w wr ∧ B + 1 ≤ wr.heap.size) (fun _ u _ => 8704 - (intOf u).toNat)
      case atStart => exact ⟨0, 0, by omega, rfl, rfl, by omega, World.ownsRow_nil _ _ _ _, hm2, hb2, hsz2⟩
      case round =>
        obtain ⟨n, c, hn, rfl, hc, hcn, hown, hm, hb, hsz⟩ := hrel
        clear hm2 hb2 hsz2
        have HC := hide hc
        clear hc
        by_cases hlt2 : n < 8704
        · obtain ⟨m0, m1⟩ := mk_cell hm hlt2
          have i1 : (0 : Int) ≤ (n : Int) := by omega
          have i2 : (n : Int) < 8704 := by omega
          have HM := hide hm
          have HB := hide hb
          clear hm hb
          cases he : edgeB zs k n
          · rw [he] at m0
            have HE := hide (edges_no he)
            clear he
            go_wp2
            go_roundw
            case rel => exact ⟨n + 1, c, by omega, by go_num, by rw [HE.out]; exact HC.out, by omega, by rw [HE.out]; exact hown, HM.out, HB.out, hsz⟩
            case measure => simp [intOf]; omega
          · rw [he] at m0
            have HE := hide (edges_yes he)
            clear he
            go_wp2_with (at_builtin; refine wpList_append_own _ rfl _ _ 65 rfl (B + 1) 3 i0 (.int .i64 0) 1 8 Try.underlying65 hi hz0 hz1 hz2 rfl (by decide) _ _ _ rfl (hown.alloc _) ⟨wr.heap.size, 0, none⟩ 1 1 [.int .i64 n] rfl rfl (cell_one_new _ _ _) (ints_oneCell .i64 [(n : Int)]) (by unfold maxLen; omega) (by omega) (by simp; omega) ?_; intro v' w3 hown' hgrow _)
            have hlo := fun g e => (hown.lt g e).1
            have HM3 : Hid (Mk w3 B 8704 (edgeB zs k)) := heap_grown (heap_alloc_old _ _ HM.out) hgrow (fun e => by have := hlo _ e.symm; omega)
            have HB3 := hide ((HB.out.alloc (by omega) (.cells #[.int .i64 n] 3)).grown hgrow (by simp; omega) (fun g e => by have := hlo g e; omega))
            have HS3 := hide (show B + 1 ≤ w3.heap.size by have := hgrow.size; simp at this; omega)
            clear hgrow hown
            go_wp2
            go_roundw
            case rel => exact ⟨n + 1, c + 1, by omega, by go_num, by rw [HE.out, List.length_append, ← HC.out]; rfl, by omega, by rw [HE.out]; simpa [intsN] using hown', HM3.out, HB3.out, HS3.out⟩
            case measure => simp [intOf]; omega
        · have e : n = 8704 := by omega
          subst e
          go_wp2
          go_ret
          exact ⟨_, rfl, by rw [hB, ← HC.out]; exact own_mono hown (by omega), by rw [hB]; exact hb⟩
end Go.Proofs.Ytooiomfcemceiaa.A
