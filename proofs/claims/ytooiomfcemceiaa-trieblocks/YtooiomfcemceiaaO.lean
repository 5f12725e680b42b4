/- Contract: what a block has. -/
import Derived.Test.YtooiomfcemceiaaN
import Derived.Deep.WholeRow
namespace Go.Proofs.Ytooiomfcemceiaa.A
open Go.RowKit

/-- 128 numbers as cells. -/
def rowU (g : Nat → Int) : Array Value := ((List.range 128).map fun (j : Nat) => Value.int .u8 (g j)).toArray
theorem rowU_size (g : Nat → Int) : (rowU g).size = 128 := by simp [rowU]
theorem rowU_at (g : Nat → Int) (j : Nat) (h : j < 128) : (rowU g)[j]? = some (.int .u8 (g j)) := by simp [rowU, h]
theorem rowU_congr {g h : Nat → Int} (e : ∀ j, j < 128 → g j = h j) : rowU g = rowU h := by
  unfold rowU
  congr 1
  refine List.map_congr_left fun j hj => ?_
  rw [e j (by simpa using hj)]
theorem rowU_set (g : Nat → Int) (j : Nat) (v : Int) (h : j < 128) : (rowU g).setIfInBounds j (.int .u8 v) = rowU (fun i => if i = j then v else g i) := by
  apply Array.ext_getElem?
  intro i
  by_cases hi : i < 128
  · rw [rowU_at _ _ hi]
    by_cases e : i = j
    · subst e; simp [rowU_size, h]
    · rw [Array.getElem?_setIfInBounds, if_neg (fun q => e q.symm), rowU_at _ _ hi, if_neg e]
  · rw [Array.getElem?_eq_none (by simp [rowU_size]; omega), Array.getElem?_eq_none (by simp [rowU_size]; omega)]
theorem zero62 : (Try.prog.info? 62).map (fun i => (i.zero, i.size)) = some (some (.agg (Array.replicate 128 (.int .u8 0))), 128) := by kernel_rfl
theorem rowU_zero : Array.replicate 128 (.int .u8 0) = rowU (fun _ => 0) := by
  apply Array.ext_getElem?
  intro i
  by_cases hi : i < 128
  · rw [rowU_at _ _ hi]; simp [hi]
  · rw [Array.getElem?_eq_none (by simp; omega), Array.getElem?_eq_none (by simp [rowU_size]; omega)]
theorem rowU_one (g : Nat → Int) : (rowU g).all (·.oneCell') = true := by
  rw [Array.all_eq_true_iff_forall_mem]
  intro v hv
  simp only [rowU, List.mem_toArray, List.mem_map] at hv
  obtain ⟨j, _, rfl⟩ := hv
  rfl

/-- The two arrays of a block that is filled. -/
def Fl (B : Nat) (wr : World) (g : Nat → Int) : Prop := wr.heap[B]? = some (.cells (rowU fun _ => 0) 62 (0, 0)) ∧ wr.heap[B + 1]? = some (.cells (rowU g) 62 (0, 0))
theorem heap_alloc_old (w : World) (o : Obj) {i : Nat} {q : Obj} (h : w.heap[i]? = some q) : (w.alloc o).heap[i]? = some q := by
  have : i < w.heap.size := (Array.getElem?_eq_some_iff.1 h).1
  rw [Below.heap_alloc w o i this]; exact h
theorem fl_alloc {B : Nat} {wr : World} {g : Nat → Int} (h : Fl B wr g) (o : Obj) : Fl B (wr.alloc o) g := ⟨heap_alloc_old _ _ h.1, heap_alloc_old _ _ h.2⟩
theorem fl_start (w : World) : Fl w.heap.size ((w.alloc (.cells (rowU fun _ => 0) 62)).alloc (.cells (rowU fun _ => 0) 62)) (fun _ => 0) := by
  have e : (w.alloc (.cells (rowU fun _ => 0) 62)).heap.size = w.heap.size + 1 := by simp
  refine ⟨heap_alloc_old _ _ (heap_alloc_last w _), ?_⟩
  rw [← e]; exact heap_alloc_last _ _
theorem fl_congr {B : Nat} {wr : World} {g h : Nat → Int} (hf : Fl B wr g) (e : ∀ j, j < 128 → g j = h j) : Fl B wr h := ⟨hf.1, by rw [← rowU_congr e]; exact hf.2⟩
theorem fl_cell {B : Nat} {wr : World} {g : Nat → Int} (h : Fl B wr g) {j : Nat} (hj : j < 128) : wr.cell? ⟨B + 1, j, none⟩ = some (.int .u8 (g j)) ∧ wr.frozen? ⟨B + 1, j, none⟩ = false := by
  constructor
  · rw [cell_of_row _ _ j _ _ _ h.2, rowU_at _ _ hj]
  · simp [World.frozen?, h.2]
theorem fl_set {B : Nat} {wr : World} {g : Nat → Int} (h : Fl B wr g) {j : Nat} (hj : j < 128) (v : Int) : Fl B (wr.setCell ⟨B + 1, j, none⟩ (.int .u8 v)) (fun i => if i = j then v else g i) := by
  constructor
  · rw [Below.heap_setCell _ _ _ _ (by simp)]; exact h.1
  · rw [setCell_eq_setRow _ _ _ _ _ _ _ h.2, setRow_heap _ _ _ _ _ _ h.2, rowU_set _ _ _ hj]

theorem hv_bad {l : List Rg} {k : Nat} {c : Int} (h : validB c = false) : hv l k c = 0 := by unfold hv; rw [h]; rfl

/-- What stands in the array while a range is laid. -/
def mid (zs : List Rg) (k : Nat) (fr f v : Int) (j i : Nat) : Int := if f ≤ fr + i ∧ i < j then (if validB (fr + i) then v else 0) else hv zs k (fr + i)
theorem mid_start {zs : List Rg} {k : Nat} {fr f v : Int} {j : Nat} (h : ∀ i : Nat, i < j → f ≤ fr + i → False) (i : Nat) : hv zs k (fr + i) = mid zs k fr f v j i := by
  unfold mid; rw [if_neg (fun q => h i q.2 q.1)]
theorem mid_yes {zs : List Rg} {k : Nat} {fr f v : Int} {j : Nat} (hf : f ≤ fr + j) (hv : validB (fr + j) = true) (i : Nat) : (if i = j then v else mid zs k fr f v j i) = mid zs k fr f v (j + 1) i := by
  unfold mid
  by_cases e : i = j
  · subst e; rw [if_pos rfl, if_pos ⟨hf, by omega⟩, if_pos hv]
  · rw [if_neg e]
    by_cases q : f ≤ fr + i ∧ i < j
    · rw [if_pos q, if_pos (show f ≤ fr + i ∧ i < j + 1 from ⟨q.1, by omega⟩)]
    · rw [if_neg q, if_neg (show ¬ (f ≤ fr + i ∧ i < j + 1) from fun p => q ⟨p.1, by omega⟩)]
theorem mid_no {zs : List Rg} {k : Nat} {fr f v : Int} {j : Nat} (hn : validB (fr + j) = false) (i : Nat) : mid zs k fr f v j i = mid zs k fr f v (j + 1) i := by
  unfold mid
  by_cases e : i = j
  · subst e
    rw [if_neg (by omega), hv_bad hn]
    split
    · rw [hn]; rfl
    · rfl
  · by_cases q : f ≤ fr + i ∧ i < j
    · rw [if_pos q, if_pos (show f ≤ fr + i ∧ i < j + 1 from ⟨q.1, by omega⟩)]
    · rw [if_neg q, if_neg (show ¬ (f ≤ fr + i ∧ i < j + 1) from fun p => q ⟨p.1, by omega⟩)]
theorem mid_end {zs : List Rg} {k : Nat} {fr f t v : Int} {j : Nat} (hin : ∀ c : Int, f ≤ c → c ≤ t → hv zs (k + 1) c = if validB c then v else 0) (hout : ∀ c : Int, ¬ (f ≤ c ∧ c ≤ t) → hv zs (k + 1) c = hv zs k c)
    (h1 : ∀ i : Nat, i < j → f ≤ fr + i → fr + i ≤ t) (h2 : ¬ (fr + j ≤ t ∧ fr + j ≤ fr + 127)) (i : Nat) (hi : i < 128) : mid zs k fr f v j i = hv zs (k + 1) (fr + i) := by
  unfold mid
  by_cases q : f ≤ fr + i ∧ i < j
  · rw [if_pos q, hin _ q.1 (h1 i q.2 q.1)]
  · rw [if_neg q, hout _ (fun p => q ⟨p.1, by omega⟩)]

theorem below_setRow {B g : Nat} {a w : World} (h : Below B a w) (hg : B ≤ g) (cs : Array Value) : Below B a (w.setRow g cs) :=
  ⟨h.os, h.tape, h.output, by rw [size_setRow]; exact h.size, fun k hk => (setRow_other w g k cs (by omega)).trans (h.block k hk)⟩
theorem fill_end {B : Nat} {w wr : World} {g h : Nat → Int} (tmps : Array Value) (hp : tmps.getD 4 undef = .pointer (some ⟨B, 0, none⟩)) (hfl : Fl B wr g) (hbel : Below B w wr) (e : ∀ j, j < 128 → g j = h j) (hB : w.heap.size = B) :
    bodyPost Try.prog Try.f35 (fun e w' => e = .returned (.agg (rowU h)) ∧ Below w.heap.size w w') Exit.ret { tmps := tmps, defers := [] } (wr.setRow B (rowU g)) := by
  obtain ⟨_, hi62⟩ := zero_of_info zero62
  refine bodyPost_ret (results_cell_row rfl _ _ B 62 (rowU g) (0, 0) _ hp (setRow_heap _ _ _ _ _ _ hfl.1) Try.underlying62 rfl (by rw [rowU_size]; exact hi62)) rfl ⟨by rw [rowU_congr e], by rw [hB]; exact below_setRow hbel (Nat.le_refl _) _⟩

set_option maxRecDepth 100000 in
set_option maxHeartbeats 3200000 in
theorem fill_any (x : Option Addr) (len cap : Nat) (fr : Int) (zs : List Rg) (w : World) (hl : len ≤ 5000) (hs : SegR w x len zs) (hr : Rt 255 zs len) (h0 : 0 ≤ fr) (h1 : fr ≤ 1113984) :
    Calls Try.prog 35 #[.slice x len cap, .int .i32 fr] w fun e w' => e = .returned (.agg (rowU fun j => hv zs len (fr + j))) ∧ Below w.heap.size w w' := by
  obtain ⟨hv62, hi62⟩ := zero_of_info zero62
  rw [rowU_zero] at hv62
  go_enter Try.func35, Try.ntmps35
  go_wp2
  have hst := fl_congr (fl_start w) (h := fun j => hv zs 0 (fr + j)) (fun j _ => (hv_zero _ _).symm)
  have hbs := (((Below.refl w.heap.size w).alloc (Nat.le_refl _) (.cells (rowU fun _ => 0) 62)).alloc (by simp) (.cells (rowU fun _ => 0) 62))
  have hss : w.heap.size + 2 ≤ ((w.alloc (.cells (rowU fun _ => 0) 62)).alloc (.cells (rowU fun _ => 0) 62)).heap.size := by simp
  generalize ((w.alloc (.cells (rowU fun _ => 0) 62)).alloc (.cells (rowU fun _ => 0) 62)) = W0 at *
  generalize hB : w.heap.size = B at *
  go_loopw [15] (fun i wr => ∃ k : Nat, k ≤ len ∧ i = .int .i64 k ∧ Fl B wr (fun j => hv zs k (fr + j)) ∧ Below B w wr ∧ B + 2 ≤ wr.heap.size) (fun i _ => len - (intOf i).toNat)
  case atStart => exact ⟨0, Nat.zero_le _, rfl, hst, hbs, hss⟩
  case round =>
    obtain ⟨k, hk, rfl, hfl, hbel, hsz⟩ := hrel
    by_cases hlt : k < len
    · obtain ⟨b, off, rfl, hc⟩ := hs.leads (by omega)
      obtain ⟨c0, c1, c2⟩ := seg_below (hB ▸ hbel) (hc k hlt)
      have HP := hide (fun c => @hv_past 255 zs k len c hr (by omega))
      have HQ := hide (fun i (h : k < i) (h2 : i < len) => And.intro (hr.2 k i h h2) (hr.1 k hlt).2.1)
      have hok := hr.1 k hlt
      have HV := hide (fun c => @hv_in 255 zs k c (rt_le hr (by omega)))
      clear hc hs hr hst hbs hss
      have HO := hide (fun c => @hv_out zs k c)
      obtain ⟨o1, o2, o3, o4, o5⟩ := hok
      have hfl1 := hide (fl_alloc hfl (.cells #[.int .i32 (at' zs k).f, .int .i32 (at' zs k).t, .int .i64 (at' zs k).v] 32))
      have hbel1 := hide (hbel.alloc (by omega) (.cells #[.int .i32 (at' zs k).f, .int .i32 (at' zs k).t, .int .i64 (at' zs k).v] 32))
      by_cases hbr : fr + 128 - 1 < (at' zs k).f
      · have HE := hide (show ∀ j : Nat, j < 128 → hv zs k (fr + j) = hv zs len (fr + j) from fun j hj => (HP.out _ (fun i h1 h2 => by
          by_cases e : k = i
          · subst e; omega
          · have := HQ.out i (by omega) h2; omega)).symm)
        generalize (at' zs k).f = f at *
        generalize (at' zs k).t = t at *
        generalize (at' zs k).v = v at *
        go_wp2_with (first
          | refine wpList_load_row rfl 62 _ rfl (B + 1) rfl 62 _ (0, 0) _ hfl1.out.2 Try.underlying62 rfl (by rw [rowU_size]; exact hi62) ?_
          | refine wpList_store_row rfl 62 _ _ rfl B _ rfl rfl 62 _ hfl1.out.1 (by rw [rowU_size]; exact hi62) (by rw [rowU_size, rowU_size]) (rowU_one _) ?_)
        exact fill_end _ rfl hfl1.out hbel1.out HE.out hB
      · have hq : (wr.alloc (.cells #[.int .i32 (at' zs k).f, .int .i32 (at' zs k).t, .int .i64 (at' zs k).v] 32)).heap.size = wr.heap.size + 1 := by simp
        obtain ⟨q0, q1, q2⟩ := box3 wr (.int .i32 (at' zs k).f) (.int .i32 (at' zs k).t) (.int .i64 (at' zs k).v) 32
        have HJ := hide (show ∃ j : Nat, (if (at' zs k).f < fr then fr else (at' zs k).f) = fr + j ∧ j ≤ 128 ∧ (at' zs k).f ≤ fr + j ∧ (∀ i : Nat, i < j → (at' zs k).f ≤ fr + i → False) from by
          by_cases hm : (at' zs k).f < fr
          · exact ⟨0, by rw [if_pos hm]; omega, by omega, by omega, fun i hi => by omega⟩
          · exact ⟨((at' zs k).f - fr).toNat, by rw [if_neg hm]; omega, by omega, by omega, fun i hi => by omega⟩)
        have HQ2 := hide (And.intro q0 (And.intro q1 q2))
        have HB3 := hide (And.intro hq (And.intro hsz hB))
        have HHB := hide hB
        clear q0 q1 q2 hq hB
        generalize (at' zs k).f = f at *
        generalize (at' zs k).t = t at *
        generalize (at' zs k).v = v at *
        have hbr' : f ≤ fr + 128 - 1 := by omega
        by_cases hm : f < fr <;> by_cases ht : fr + 128 - 1 < t
        all_goals
          go_wp2
          have q3 := HQ2.out
          have hbl := hbel1.out
          have hfl2 := hfl1.out
          have hq := HB3.out.1
          generalize (wr.alloc (.cells #[.int .i32 f, .int .i32 t, .int .i64 v] 32)) = W1 at *
          generalize wr.heap.size = q at *
          clear HQ2 hbel1 hfl1 HB3
          go_loopw [9] (fun c wi => ∃ j : Nat, c = .int .i32 (fr + j) ∧ j ≤ 128 ∧ f ≤ fr + j ∧ (∀ i : Nat, i < j → f ≤ fr + i → fr + i ≤ t) ∧ Fl B wi (mid zs k fr f v j) ∧ Below B w wi ∧
              (wi.cell? ⟨q, 0, none⟩ = some (.int .i32 f) ∧ wi.cell? ⟨q, 1, none⟩ = some (.int .i32 t) ∧ wi.cell? ⟨q, 2, none⟩ = some (.int .i64 v)) ∧ q + 1 ≤ wi.heap.size) (fun c _ => (fr + 129 - intOf c).toNat)
          case atStart =>
            obtain ⟨j, hj, hj1, hj2, hj3⟩ := HJ.out
            refine ⟨j, ?_, hj1, hj2, fun i h1 h2 => (hj3 i h1 h2).elim, fl_congr hfl2 (fun i _ => mid_start hj3 i), hbl, q3, by omega⟩
            show Value.int .i32 _ = _
            congr 1
            split at hj <;> omega
          case round =>
            obtain ⟨j, rfl, hj1, hj2, hj3, hfi, hbi, ⟨p0, p1, p2⟩, hqi⟩ := hrel
            clear q3 hbl hfl2 HJ hfl hbel
            have HF := hide hfi
            have HJ3 := hide hj3
            clear hfi hj3
            by_cases hgo : fr + (j : Int) ≤ t ∧ fr + (j : Int) ≤ fr + 127
            · obtain ⟨g1, g2⟩ := hgo
              have hj4 : j < 128 := by omega
              obtain ⟨e0, e1⟩ := fl_cell HF.out hj4
              have hix : fr + (j : Int) - fr = j := by omega
              have hj5 : (j : Int) < 128 := by omega
              cases hvb : validB (fr + j)
              · go_wp2_with (go_at_call 18; refine (valid_any _ _).mono ?_; rintro e w1 ⟨rfl, rfl⟩)
                go_roundw
                case rel => exact ⟨j + 1, by go_num, by omega, by omega, fun i h1 h2 => by by_cases e : i = j; (subst e; exact g1); exact HJ3.out i (by omega) h2, fl_congr HF.out (fun i _ => mid_no hvb i), hbi, ⟨p0, p1, p2⟩, hqi⟩
                case measure => simp [intOf]; omega
              · go_wp2_with (go_at_call 18; refine (valid_any _ _).mono ?_; rintro e w1 ⟨rfl, rfl⟩)
                go_roundw
                case rel =>
                  have n0 : ∀ o, (⟨B + 1, j, none⟩ : Addr) ≠ ⟨q, o, none⟩ := fun o e => by have := congrArg Addr.block e; simp at this; omega
                  exact ⟨j + 1, by go_num, by omega, by omega, fun i h1 h2 => by by_cases e : i = j; (subst e; exact g1); exact HJ3.out i (by omega) h2, fl_congr (fl_set HF.out hj4 v) (fun i _ => mid_yes hj2 hvb i), hbi.setCell (by simp) _,
                    ⟨(World.cell?_setCell_other _ _ _ _ (n0 0)).trans p0, (World.cell?_setCell_other _ _ _ _ (n0 1)).trans p1, (World.cell?_setCell_other _ _ _ _ (n0 2)).trans p2⟩, by simpa using hqi⟩
                case measure => simp [intOf]; omega
            · have hgo1 : ¬ (fr + (j : Int) ≤ t ∧ fr + (j : Int) ≤ fr + 127) := hgo
              have HG := hide hgo1
              clear hgo hgo1
              have hx : t < fr + j ∨ fr + 127 < fr + j := by have := HG.out; omega
              go_wp2
              refine ⟨⟨k + 1, by omega, by go_num, fl_congr HF.out (mid_end HV.out HO.out HJ3.out HG.out), hbi, by omega⟩, ?_⟩
              simp [intOf]; omega
    · have e : k = len := by omega
      subst e
      have HFL := hide hfl
      clear hst hbs hss hfl hs hr
      go_wp2_with (first
        | refine wpList_load_row rfl 62 _ rfl (B + 1) rfl 62 _ (0, 0) _ HFL.out.2 Try.underlying62 rfl (by rw [rowU_size]; exact hi62) ?_
        | refine wpList_store_row rfl 62 _ _ rfl B _ rfl rfl 62 _ HFL.out.1 (by rw [rowU_size]; exact hi62) (by rw [rowU_size, rowU_size]) (rowU_one _) ?_)
      exact fill_end _ rfl HFL.out hbel (fun _ _ => rfl) hB
end Go.Proofs.Ytooiomfcemceiaa.A
