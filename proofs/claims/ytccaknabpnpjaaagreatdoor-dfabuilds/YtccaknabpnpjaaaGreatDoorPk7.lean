/- The document's Ends: kinds with parts, first those one behind the other. -/
import Derived.Test.YtccaknabpnpjaaaGreatDoorPk3
import Derived.Deep.Heap
namespace Go.Proofs.YtccaknabpnpjaaaGreatDoor.A
open Go.RowKit

/-- What Ends does for an expression. -/
def EndsOf (word : List Int) (n : Nat) (t : Ex n) : Prop := ∀ (v : Value) (a : Option Addr) (L N cap F : Nat) (o : Nat → Bool) (w : World), word.length = L → (L : Int) + 1 = (N : Int) → L ≤ 1000 → Rx w n t v → shapesE n t = true → Wd w a word → Mk w F N o →
    Calls Tryz.prog 30 #[v, .slice a L cap, .slice (some ⟨F, 0, none⟩) N N] w fun e w' => Gives w N (endsE word n t o) e w'
theorem box_then (w : World) (o1 o2 : Obj) (i : Nat) : ((w.alloc o1).alloc o2).cell? ⟨w.heap.size, i, none⟩ = (w.alloc o1).cell? ⟨w.heap.size, i, none⟩ :=
  ((Below.refl (w.heap.size + 1) (w.alloc o1)).alloc (by simp) o2).cell (p := ⟨w.heap.size, i, none⟩) (by simp)

set_option maxRecDepth 100000 in
set_option maxHeartbeats 3200000 in
theorem ends_k2 (word : List Int) (n : Nat) (ih : ∀ x : Ex n, EndsOf word n x) (ss : Int) (y a : Option Addr) (len ycap : Nat) (l : List (Ex n)) (L N cap F : Nat) (o : Nat → Bool) (w : World) (hw : word.length = L) (hN : (L : Int) + 1 = (N : Int)) (hL : L ≤ 1000)
    (hF : Mk w F N o) (hW : Wd w a word) (hlen : len ≤ maxLen) (hl : l.length = len) (hkids : Kids w n y len l) (hsh : ∀ x ∈ l, shapesE n x = true) :
    Calls Tryz.prog 30 #[.agg #[.int .u8 2, .int .u16 ss, .slice y len ycap], .slice a L cap, .slice (some ⟨F, 0, none⟩) N N] w fun e w' => Gives w N (l.foldl (fun o x => endsE word n x o) o) e w' := by
  have hmk : ∀ w, (Instr.makeSlice 68 (.int .i64 (N : Int)) (.int .i64 (N : Int))).run Tryz.prog w = .ok (.slice (some ⟨w.heap.size, 0, none⟩) N N) (w.alloc (.cells (rowB N fun _ => false) 4)) := make39 N (by omega)
  unfold maxLen at hlen
  have HF := hide hF
  have HFL := hide (mk_lt hF)
  have HW := hide hW
  have HWL := hide hw
  have HK := hide hkids
  have HS := hide hsh
  have HLL := hide hl
  clear hF hW hw hkids hsh hl
  obtain ⟨p0, p1, p2⟩ := box3 w (.int .u8 2) (.int .u16 ss) (.slice y len ycap) 38
  have HB0 := hide ((Below.refl w.heap.size w).alloc (Nat.le_refl _) (.cells #[.int .u8 2, .int .u16 ss, .slice y len ycap] 38))
  go_enter Tryz.func30, Tryz.ntmps30
  go_wp2_with fail
  have hm0 : Mk ((w.alloc (.cells #[.int .u8 2, .int .u16 ss, .slice y len ycap] 38)).alloc (.cells (rowB N fun _ => false) 4)) (w.heap.size + 1) N (fun j => decide (j < 0) && o j) := mk_congr (g := fun _ => false) (mk_new _ _ _) (by simp)
  have hb0 := HB0.out.alloc (by simp) (.cells (rowB N fun _ => false) 4)
  have hp2 := (box_then w (.cells #[.int .u8 2, .int .u16 ss, .slice y len ycap] 38) (.cells (rowB N fun _ => false) 4) 2).trans p2
  clear hmk p0 p1 p2 HB0
  generalize (w.alloc (.cells #[.int .u8 2, .int .u16 ss, .slice y len ycap] 38)).alloc (.cells (rowB N fun _ => false) 4) = W0 at *
  generalize hB : w.heap.size = B at *
  go_loopw [10] (fun i wr => ∃ k : Nat, k ≤ N ∧ i = .int .i64 k ∧ Mk wr (B + 1) N (fun j => decide (j < k) && o j) ∧ Below B w wr ∧ Below (B + 1) W0 wr) (fun i _ => N - (intOf i).toNat)
  case atStart => exact ⟨0, Nat.zero_le _, rfl, hm0, hb0, Below.refl _ _⟩
  case round =>
    obtain ⟨k, hk, rfl, hm, hb, hb2⟩ := hrel
    clear hm0 hb0
    by_cases hlt : k < N
    · obtain ⟨m0, m1⟩ := mk_cell hm hlt
      obtain ⟨f0, _⟩ := mk_cell (mk_below HFL.out hb HF.out) hlt
      have i1 : (0 : Int) ≤ (k : Int) := by omega
      have i2 : (k : Int) < (N : Int) := by omega
      have HM := hide hm
      clear hm
      go_wp2
      go_roundw
      case rel => exact ⟨k + 1, by omega, by go_num, mk_congr (mk_set HM.out hlt (o k)) (fun j _ => copy_set o k j), hb.setCell (by simp) _, hb2.setCell (by simp) _⟩
      case measure => simp [intOf]; omega
    · have e : k = N := by omega
      subst e
      have hm1 : Mk wr (B + 1) k o := mk_congr hm (fun j hj => by simp [hj])
      clear hm
      go_wp2_with fail
      have hp3 := (hb2.cell (p := ⟨B, 2, none⟩) (Nat.lt_succ_self _)).trans hp2
      clear hp2 hb2
      go_loopw [7, 11] (fun u i wr' => ∃ (j C : Nat), j ≤ len ∧ i = .int .i64 j ∧ u = .slice (some ⟨C, 0, none⟩) k k ∧ B + 1 ≤ C ∧ Mk wr' C k ((l.take j).foldl (fun o x => endsE word n x o) o) ∧ Below B w wr' ∧ Below (B + 1) wr wr') (fun _ i _ => len - (intOf i).toNat)
      case atStart => exact ⟨0, B + 1, Nat.zero_le _, rfl, rfl, Nat.le_refl _, hm1, hb, Below.refl _ _⟩
      case round =>
        obtain ⟨j, C, hj, rfl, rfl, hC, hm, hb', hb2⟩ := hrel
        clear hm1 hb
        have r2 := (hb2.cell (p := ⟨B, 2, none⟩) (Nat.lt_succ_self _)).trans hp3
        clear hp3
        by_cases hlt2 : j < len
        · obtain ⟨x, b, off, c0, c1, c2, rfl, hx, k0, k1, k2, k3⟩ := HK.out wr (hB ▸ hb') j hlt2
          have HX := hide (HS.out x (List.mem_of_getElem? hx))
          have HT := hide (show (l.take (j + 1)).foldl (fun o x => endsE word n x o) o = endsE word n x ((l.take j).foldl (fun o x => endsE word n x o) o) from by rw [take_at hx, List.foldl_append]; rfl)
          have HK3 := hide k3
          have HM := hide hm
          have HB1 := hide hb'
          have HB2 := hide hb2
          have HWd := hide (wd_below (hB ▸ hb') HW.out)
          have i3 : (0 : Int) ≤ (j : Int) := by omega
          have i4 : (j : Int) < (len : Int) := by omega
          have HSZ := hide (show B + 1 ≤ wr.heap.size by have := mk_lt hm; omega)
          clear hx k3 hm hb' hb2
          go_wp2_with fail
          refine (ih x _ a L k cap C _ wr HWL.out hN hL HK3.out HX.out HWd.out HM.out).mono ?_
          rintro e w2 ⟨C2, hC2, rfl, hm2, hb3⟩
          have HM2 := hide hm2
          have HB3 := hide (HB1.out.trans (hb3.mono (by have := HSZ.out; omega)))
          have HB4 := hide (HB2.out.trans (hb3.mono HSZ.out))
          have hC3 : B + 1 ≤ C2 := by have := HSZ.out; omega
          clear hm2 hb3
          go_wp2
          go_roundw
          case rel => exact ⟨j + 1, C2, by omega, by go_num, rfl, hC3, by rw [HT.out]; exact HM2.out, HB3.out, HB4.out⟩
          case measure => simp [intOf]; omega
        · have e : j = len := by omega
          subst e
          have HM := hide (show Mk wr C k (l.foldl (fun o x => endsE word n x o) o) from by rw [List.take_of_length_le (by rw [HLL.out]; exact Nat.le_refl _)] at hm; exact hm)
          clear hm
          go_wp2
          go_ret
          exact ⟨C, by omega, rfl, HM.out, by rw [hB]; exact hb'⟩
end Go.Proofs.YtccaknabpnpjaaaGreatDoor.A

/- The document's Ends: one of several. -/
namespace Go.Proofs.YtccaknabpnpjaaaGreatDoor.A
open Go.RowKit

theorem mk_other {wr : World} {C n : Nat} {g : Nat → Bool} (d : Mk wr C n g) {B : Nat} (h : C ≠ B) (p : Nat) (v : Value) : Mk (wr.setCell ⟨B, p, none⟩ v) C n g := by
  unfold Mk at *
  rw [Go.Deep.blk_setCell_other _ _ _ _ h]; exact d
/-- Marks joined as far as a place. -/
def orB (A X : Nat → Bool) (k j : Nat) : Bool := A j || (decide (j < k) && X j)
theorem orB_set (A X : Nat → Bool) (k j : Nat) : (if j = k then (A k || X k) else orB A X k j) = orB A X (k + 1) j := by
  by_cases e : j = k
  · subst e; simp [orB]
  · rw [if_neg e]
    unfold orB
    rw [show decide (j < k + 1) = decide (j < k) from by by_cases q : j < k <;> simp [q] <;> omega]
theorem orB_here (A X : Nat → Bool) (k : Nat) : orB A X k k = A k := by simp [orB]
theorem orB_all (A X : Nat → Bool) {N j : Nat} (h : j < N) : orB A X N j = (A j || X j) := by simp [orB, h]
/-- What the first parts tell. -/
def anyB (word : List Int) (n : Nat) (l : List (Ex n)) (o : Nat → Bool) (p : Nat) : Bool := l.any (fun x => endsE word n x o p)

set_option maxRecDepth 100000 in
set_option maxHeartbeats 3200000 in
theorem ends_k3 (word : List Int) (n : Nat) (ih : ∀ x : Ex n, EndsOf word n x) (ss : Int) (y a : Option Addr) (len ycap : Nat) (l : List (Ex n)) (L N cap F : Nat) (o : Nat → Bool) (w : World) (hw : word.length = L) (hN : (L : Int) + 1 = (N : Int)) (hL : L ≤ 1000)
    (hF : Mk w F N o) (hW : Wd w a word) (hlen : len ≤ maxLen) (hl : l.length = len) (hkids : Kids w n y len l) (hsh : ∀ x ∈ l, shapesE n x = true) :
    Calls Tryz.prog 30 #[.agg #[.int .u8 3, .int .u16 ss, .slice y len ycap], .slice a L cap, .slice (some ⟨F, 0, none⟩) N N] w fun e w' => Gives w N (anyB word n l o) e w' := by
  have hmk : ∀ w, (Instr.makeSlice 68 (.int .i64 (N : Int)) (.int .i64 (N : Int))).run Tryz.prog w = .ok (.slice (some ⟨w.heap.size, 0, none⟩) N N) (w.alloc (.cells (rowB N fun _ => false) 4)) := make39 N (by omega)
  unfold maxLen at hlen
  have HF := hide hF
  have HFL := hide (mk_lt hF)
  have HW := hide hW
  have HWL := hide hw
  have HK := hide hkids
  have HS := hide hsh
  have HLL := hide hl
  clear hF hW hw hkids hsh hl
  obtain ⟨p0, p1, p2⟩ := box3 w (.int .u8 3) (.int .u16 ss) (.slice y len ycap) 38
  have HB0 := hide ((Below.refl w.heap.size w).alloc (Nat.le_refl _) (.cells #[.int .u8 3, .int .u16 ss, .slice y len ycap] 38))
  go_enter Tryz.func30, Tryz.ntmps30
  go_wp2_with fail
  have hm0 : Mk ((w.alloc (.cells #[.int .u8 3, .int .u16 ss, .slice y len ycap] 38)).alloc (.cells (rowB N fun _ => false) 4)) (w.heap.size + 1) N (anyB word n (l.take 0) o) := mk_congr (g := fun _ => false) (mk_new _ _ _) (by simp [anyB])
  have hb0 := HB0.out.alloc (by simp) (.cells (rowB N fun _ => false) 4)
  have hp2 := (box_then w (.cells #[.int .u8 3, .int .u16 ss, .slice y len ycap] 38) (.cells (rowB N fun _ => false) 4) 2).trans p2
  clear hmk p0 p1 p2 HB0
  generalize (w.alloc (.cells #[.int .u8 3, .int .u16 ss, .slice y len ycap] 38)).alloc (.cells (rowB N fun _ => false) 4) = W0 at *
  generalize hB : w.heap.size = B at *
  go_loopw [12] (fun i wr => ∃ j : Nat, j ≤ len ∧ i = .int .i64 j ∧ Mk wr (B + 1) N (anyB word n (l.take j) o) ∧ Below B w wr ∧ Below (B + 1) W0 wr) (fun i _ => len - (intOf i).toNat)
  case atStart => exact ⟨0, Nat.zero_le _, rfl, hm0, hb0, Below.refl _ _⟩
  case round =>
    obtain ⟨j, hj, rfl, hm, hb, hb2⟩ := hrel
    clear hm0 hb0
    have r2 := (hb2.cell (p := ⟨B, 2, none⟩) (Nat.lt_succ_self _)).trans hp2
    clear hp2
    by_cases hlt2 : j < len
    · obtain ⟨x, b, off, c0, c1, c2, rfl, hx, k0, k1, k2, k3⟩ := HK.out wr (hB ▸ hb) j hlt2
      have HX := hide (HS.out x (List.mem_of_getElem? hx))
      have HT := hide (show ∀ p, (anyB word n (l.take j) o p || endsE word n x o p) = anyB word n (l.take (j + 1)) o p from fun p => by unfold anyB; rw [take_at hx, List.any_append]; simp)
      have HK3 := hide k3
      have HM := hide hm
      have HB1 := hide hb
      have HB2 := hide hb2
      have HWd := hide (wd_below (hB ▸ hb) HW.out)
      have HFd := hide (mk_below HFL.out hb HF.out)
      have i3 : (0 : Int) ≤ (j : Int) := by omega
      have i4 : (j : Int) < (len : Int) := by omega
      have HSZ := hide (show B + 1 < wr.heap.size from mk_lt hm)
      clear hx k3 hm hb hb2
      go_wp2_with fail
      refine (ih x _ a L N cap F _ wr HWL.out hN hL HK3.out HX.out HWd.out HFd.out).mono ?_
      rintro e w2 ⟨C2, hC2, rfl, hm2, hb3⟩
      have hC3 : C2 ≠ B + 1 := by have := HSZ.out; omega
      have HA := hide (mk_below HSZ.out hb3 HM.out)
      have HM2 := hide hm2
      have HB3 := hide (HB1.out.trans (hb3.mono (by have := HSZ.out; omega)))
      have HB4 := hide (HB2.out.trans (hb3.mono (by have := HSZ.out; omega)))
      clear hm2 hb3 k0 k1 k2 r2 HM HB1 HB2 HWd HFd HK3 hC2 HSZ
      generalize anyB word n (l.take j) o = A at *
      generalize endsE word n x o = X at *
      go_wp2_with fail
      go_loopw [14] (fun u wi => ∃ p : Nat, p ≤ N ∧ u = .int .i64 p ∧ Mk wi (B + 1) N (orB A X p) ∧ Mk wi C2 N X ∧ Below B w wi ∧ Below (B + 1) W0 wi) (fun u _ => N - (intOf u).toNat)
      case atStart => exact ⟨0, Nat.zero_le _, rfl, mk_congr HA.out (fun q _ => by simp [orB]), HM2.out, HB3.out, HB4.out⟩
      case round =>
        obtain ⟨p, hp, rfl, hm, hmx, hb, hb2⟩ := hrel
        clear HA HM2 HB3 HB4
        by_cases hlt : p < N
        · obtain ⟨m0, m1⟩ := mk_cell hm hlt
          obtain ⟨f0, _⟩ := mk_cell hmx hlt
          rw [orB_here] at m0
          have HO := hide (orB_set A X p)
          have HM := hide hm
          have HMX := hide hmx
          have i1 : (0 : Int) ≤ (p : Int) := by omega
          have i2 : (p : Int) < (N : Int) := by omega
          clear hm hmx
          cases hA : A p
          · rw [hA] at m0
            rw [hA, Bool.false_or] at HO
            clear hA
            go_wp2
            go_roundw
            case rel => exact ⟨p + 1, by omega, by go_num, mk_congr (mk_set HM.out hlt (X p)) (fun q _ => HO.out q), mk_other HMX.out hC3 _ _, hb.setCell (by simp) _, hb2.setCell (by simp) _⟩
            case measure => simp [intOf]; omega
          · rw [hA] at m0
            rw [hA, Bool.true_or] at HO
            clear hA
            go_wp2
            go_roundw
            case rel => exact ⟨p + 1, by omega, by go_num, mk_congr (mk_set HM.out hlt true) (fun q _ => HO.out q), mk_other HMX.out hC3 _ _, hb.setCell (by simp) _, hb2.setCell (by simp) _⟩
            case measure => simp [intOf]; omega
        · have e : p = N := by omega
          subst e
          go_wp2
          go_roundw
          case rel => exact ⟨j + 1, by omega, by go_num, mk_congr hm (fun q hq => by rw [orB_all A X hq]; exact HT.out q), hb, hb2⟩
          case measure => simp [intOf]; omega
    · have e : j = len := by omega
      subst e
      have HM := hide (show Mk wr (B + 1) N (anyB word n l o) from by rw [List.take_of_length_le (by rw [HLL.out]; exact Nat.le_refl _)] at hm; exact hm)
      clear hm
      go_wp2
      go_ret
      exact ⟨B + 1, by omega, rfl, HM.out, by rw [hB]; exact hb⟩
end Go.Proofs.YtccaknabpnpjaaaGreatDoor.A

/- The document's Ends: any number of times, once or not. -/
namespace Go.Proofs.YtccaknabpnpjaaaGreatDoor.A
open Go.RowKit

theorem iter_succ (f : (Nat → Bool) → Nat → Bool) : ∀ (m : Nat) (o : Nat → Bool), iterE f (m + 1) o = stepE f (iterE f m o)
  | 0, _ => rfl
  | m + 1, o => iter_succ f m (stepE f o)
theorem iter_add (f : (Nat → Bool) → Nat → Bool) : ∀ (m k : Nat) (o : Nat → Bool), iterE f (m + k) o = iterE f k (iterE f m o)
  | 0, k, o => by rw [Nat.zero_add]; rfl
  | m + 1, k, o => by rw [show m + 1 + k = (m + k) + 1 by omega]; exact iter_add f m k (stepE f o)
/-- It looks at no place behind the word. -/
def Looks (N : Nat) (f : (Nat → Bool) → Nat → Bool) : Prop := ∀ o o' : Nat → Bool, (∀ j, j < N → o j = o' j) → ∀ j, j < N → f o j = f o' j
theorem looks_step {N : Nat} {f : (Nat → Bool) → Nat → Bool} (hf : Looks N f) : Looks N (stepE f) := fun o o' h j hj => by unfold stepE; rw [h j hj, hf o o' h j hj]
theorem looks_iter {N : Nat} {f : (Nat → Bool) → Nat → Bool} (hf : Looks N f) : ∀ m, Looks N (iterE f m)
  | 0 => fun _ _ h j hj => h j hj
  | m + 1 => fun o o' h j hj => looks_iter hf m _ _ (looks_step hf o o' h) j hj
theorem looks_fold {α : Type} {N : Nat} (f : α → (Nat → Bool) → Nat → Bool) (hf : ∀ x, Looks N (f x)) : ∀ (l : List α), Looks N (fun o => l.foldl (fun o x => f x o) o)
  | [] => fun _ _ h j hj => h j hj
  | x :: r => fun o o' h j hj => looks_fold f hf r _ _ (hf x o o' h) j hj
theorem ends_looks (word : List Int) (N : Nat) : ∀ (n : Nat) (t : Ex n), Looks N (endsE word n t)
  | 0, _ => fun _ _ _ _ _ => rfl
  | n + 1, t => fun o o' h j hj => by
    unfold endsE
    by_cases k0 : kd t = 0
    · rw [if_pos k0, if_pos k0]; exact h j hj
    · rw [if_neg k0, if_neg k0]
      by_cases k1 : kd t = 1
      · rw [if_pos k1, if_pos k1, h (j - 1) (by omega)]
      · rw [if_neg k1, if_neg k1]
        by_cases k2 : kd t = 2
        · rw [if_pos k2, if_pos k2]; exact looks_fold (fun x => endsE word n x) (fun x => ends_looks word N n x) (ks t) o o' h j hj
        · rw [if_neg k2, if_neg k2]
          by_cases k3 : kd t = 3
          · rw [if_pos k3, if_pos k3]
            have e : (fun x => endsE word n x o j) = (fun x => endsE word n x o' j) := funext fun x => ends_looks word N n x o o' h j hj
            rw [e]
          · rw [if_neg k3, if_neg k3]
            by_cases k4 : kd t = 4
            · rw [if_pos k4, if_pos k4]
              cases (ks t).head? with
              | none => rfl
              | some x => exact looks_iter (ends_looks word N n x) _ o o' h j hj
            · rw [if_neg k4, if_neg k4]
              by_cases k5 : kd t = 5
              · rw [if_pos k5, if_pos k5]
                cases (ks t).head? with
                | none => rfl
                | some x => exact looks_step (ends_looks word N n x) o o' h j hj
              · rw [if_neg k5, if_neg k5]
theorem iter_stop {N : Nat} {f : (Nat → Bool) → Nat → Bool} (hf : Looks N f) {o : Nat → Bool} (h : ∀ j, j < N → stepE f o j = o j) : ∀ (m j : Nat), j < N → iterE f m o j = o j
  | 0, _, _ => rfl
  | m + 1, j, hj => by
    show iterE f m (stepE f o) j = o j
    rw [looks_iter hf m _ _ h j hj]
    exact iter_stop hf h m j hj
/-- Is there more, as far as a place? -/
def moreB (A X : Nat → Bool) : Nat → Bool
  | 0 => false
  | p + 1 => moreB A X p || (X p && !A p)
theorem more_no {A X : Nat → Bool} : ∀ {p : Nat}, moreB A X p = false → ∀ j, j < p → (A j || X j) = A j
  | 0, _, j, hj => by omega
  | p + 1, h, j, hj => by
    have h' : (moreB A X p || (X p && !A p)) = false := h
    rw [Bool.or_eq_false_iff] at h'
    by_cases e : j = p
    · subst e
      have := h'.2
      cases hA : A j <;> cases hX : X j <;> simp [hA, hX] at this ⊢
    · exact more_no h'.1 j (by omega)
theorem ret_more {A X : Nat → Bool} {p : Nat} {m a x : Bool} (hm : moreB A X p = m) (ha : A p = a) (hx : X p = x) : moreB A X (p + 1) = (m || (x && !a)) := by
  show (moreB A X p || (X p && !A p)) = _
  rw [hm, ha, hx]

set_option maxRecDepth 100000 in
set_option maxHeartbeats 6400000 in
theorem ends_k5 (word : List Int) (n : Nat) (x : Ex n) (ih : EndsOf word n x) (ss : Int) (y a : Option Addr) (ycap : Nat) (L N cap F : Nat) (o : Nat → Bool) (w : World) (hw : word.length = L) (hN : (L : Int) + 1 = (N : Int)) (hL : L ≤ 1000)
    (hF : Mk w F N o) (hW : Wd w a word) (hkids : Kids w n y 1 [x]) (hsh : shapesE n x = true) :
    Calls Tryz.prog 30 #[.agg #[.int .u8 5, .int .u16 ss, .slice y 1 ycap], .slice a L cap, .slice (some ⟨F, 0, none⟩) N N] w fun e w' => Gives w N (stepE (fun o => endsE word n x o) o) e w' := by
  have hmk : ∀ w, (Instr.makeSlice 68 (.int .i64 (N : Int)) (.int .i64 (N : Int))).run Tryz.prog w = .ok (.slice (some ⟨w.heap.size, 0, none⟩) N N) (w.alloc (.cells (rowB N fun _ => false) 4)) := make39 N (by omega)
  have HF := hide hF
  have HFL := hide (mk_lt hF)
  have HW := hide hW
  have HWL := hide hw
  have HK := hide hkids
  have HS := hide hsh
  have HLK := hide (ends_looks word N n x)
  clear hF hW hw hkids hsh
  obtain ⟨p0, p1, p2⟩ := box3 w (.int .u8 5) (.int .u16 ss) (.slice y 1 ycap) 38
  have HB0 := hide ((Below.refl w.heap.size w).alloc (Nat.le_refl _) (.cells #[.int .u8 5, .int .u16 ss, .slice y 1 ycap] 38))
  have HIH := hide ih
  clear ih
  unfold EndsOf at HIH
  change Calls _ _ _ _ fun e w' => Gives w N (stepE (endsE word n x) o) e w'
  generalize endsE word n x = f at *
  go_enter Tryz.func30, Tryz.ntmps30
  go_wp2_with fail
  have hm0 : Mk ((w.alloc (.cells #[.int .u8 5, .int .u16 ss, .slice y 1 ycap] 38)).alloc (.cells (rowB N fun _ => false) 4)) (w.heap.size + 1) N (fun j => decide (j < 0) && o j) := mk_congr (g := fun _ => false) (mk_new _ _ _) (by simp)
  have hb0 := HB0.out.alloc (by simp) (.cells (rowB N fun _ => false) 4)
  have hp0 := (box_then w (.cells #[.int .u8 5, .int .u16 ss, .slice y 1 ycap] 38) (.cells (rowB N fun _ => false) 4) 0).trans p0
  have hp2 := (box_then w (.cells #[.int .u8 5, .int .u16 ss, .slice y 1 ycap] 38) (.cells (rowB N fun _ => false) 4) 2).trans p2
  clear hmk p0 p1 p2 HB0
  generalize (w.alloc (.cells #[.int .u8 5, .int .u16 ss, .slice y 1 ycap] 38)).alloc (.cells (rowB N fun _ => false) 4) = W0 at *
  generalize hB : w.heap.size = B at *
  go_loopw [15] (fun i wr => ∃ k : Nat, k ≤ N ∧ i = .int .i64 k ∧ Mk wr (B + 1) N (fun j => decide (j < k) && o j) ∧ Below B w wr ∧ Below (B + 1) W0 wr) (fun i _ => N - (intOf i).toNat)
  case atStart => exact ⟨0, Nat.zero_le _, rfl, hm0, hb0, Below.refl _ _⟩
  case round =>
   obtain ⟨k, hk, rfl, hm, hb, hb2⟩ := hrel
   clear hm0 hb0
   by_cases hlt : k < N
   · obtain ⟨m0, m1⟩ := mk_cell hm hlt
     obtain ⟨f0, _⟩ := mk_cell (mk_below HFL.out hb HF.out) hlt
     have i1 : (0 : Int) ≤ (k : Int) := by omega
     have i2 : (k : Int) < (N : Int) := by omega
     have HM := hide hm
     clear hm
     go_wp2
     go_roundw
     case rel => exact ⟨k + 1, by omega, by go_num, mk_congr (mk_set HM.out hlt (o k)) (fun j _ => copy_set o k j), hb.setCell (by simp) _, hb2.setCell (by simp) _⟩
     case measure => simp [intOf]; omega
   · have e : N = k := by omega
     subst e
     have hm1 : Mk wr (B + 1) N (iterE f 0 o) := mk_congr hm (fun j hj => by simp [hj, iterE])
     clear hm hk hlt
     go_wp2_with fail
     go_loopw [16] (fun i wr => ∃ r : Nat, r = 0 ∧ i = .int .i64 r ∧ Mk wr (B + 1) N (iterE f r o) ∧ Below B w wr ∧ Below (B + 1) W0 wr) (fun i _ => N - (intOf i).toNat)
     case atStart => exact ⟨0, rfl, rfl, hm1, hb, hb2⟩
     case round =>
      obtain ⟨r, hr, rfl, hm, hb, hb2⟩ := hrel
      clear hm1
      have r0 := (hb2.cell (p := ⟨B, 0, none⟩) (Nat.lt_succ_self _)).trans hp0
      have r2 := (hb2.cell (p := ⟨B, 2, none⟩) (Nat.lt_succ_self _)).trans hp2
      subst hr
      by_cases hlt2 : (0 : Nat) < N
      · obtain ⟨x', b, off, c0, c1, c2, rfl, hx, k0, k1, k2, k3⟩ := HK.out wr (hB ▸ hb) 0 (by omega)
        obtain rfl : x = x' := by simpa using hx
        simp only [Nat.zero_mul, Nat.add_zero] at k0 k1 k2
        have HK3 := hide k3
        have HM := hide hm
        have HB1 := hide hb
        have HB2 := hide hb2
        have HWd := hide (wd_below (hB ▸ hb) HW.out)
        have i4 : ((0 : Nat) : Int) < (N : Int) := by omega
        have HSZ := hide (show B + 1 < wr.heap.size from mk_lt hm)
        have HP0 := hide hp0
        clear hx k3 hm hb hb2 hp0 hp2
        go_wp2_with fail
        refine (HIH.out _ a L N cap (B + 1) _ wr HWL.out hN hL HK3.out HS.out HWd.out HM.out).mono ?_
        rintro e w2 ⟨C2, hC2, rfl, hm2, hb3⟩
        have hC3 : C2 ≠ B + 1 := by have := HSZ.out; omega
        have HA := hide (mk_below HSZ.out hb3 HM.out)
        have HM2 := hide hm2
        have HB3 := hide (HB1.out.trans (hb3.mono (by have := HSZ.out; omega)))
        have HB4 := hide (HB2.out.trans (hb3.mono (by have := HSZ.out; omega)))
        clear hm2 hb3 k0 k1 k2 r0 r2 HM HB1 HB2 HWd HK3 hC2 HSZ
        obtain ⟨A, hA⟩ : ∃ A, iterE f 0 o = A := ⟨_, rfl⟩
        rw [hA] at HA HM2
        have HAA := hide hA
        obtain ⟨X, hX⟩ : ∃ X, f A = X := ⟨_, rfl⟩
        rw [hX] at HM2
        have HXX := hide hX
        clear hA hX
        go_wp2_with fail
        go_loopw [18, 19] (fun v u wi => ∃ p : Nat, p ≤ N ∧ u = .int .i64 p ∧ v = .bool (moreB A X p) ∧ Mk wi (B + 1) N (orB A X p) ∧ Mk wi C2 N X ∧ Below B w wi ∧ Below (B + 1) W0 wi) (fun _ u _ => N - (intOf u).toNat)
        case atStart => exact ⟨0, Nat.zero_le _, rfl, rfl, mk_congr HA.out (fun q _ => by simp [orB]), HM2.out, HB3.out, HB4.out⟩
        case round =>
         obtain ⟨p, hp, rfl, rfl, hm, hmx, hb, hb2⟩ := hrel
         clear HA HM2 HB3 HB4
         by_cases hlt : p < N
         · obtain ⟨m0, m1⟩ := mk_cell hm hlt
           obtain ⟨f0, _⟩ := mk_cell hmx hlt
           rw [orB_here] at m0
           have HO := hide (orB_set A X p)
           have HM := hide hm
           have HMX := hide hmx
           have i1 : (0 : Int) ≤ (p : Int) := by omega
           have i2 : (p : Int) < (N : Int) := by omega
           clear hm hmx
           cases hmo : moreB A X p <;> cases hA : A p <;> cases hX : X p
           all_goals
             have HMO := hide (ret_more hmo hA hX)
             rw [hA] at m0
             rw [hX] at f0
             rw [hA, hX] at HO
             clear hmo hA hX
             go_wp2
             go_roundw
             case rel => exact ⟨p + 1, by omega, by go_num, by rw [HMO.out]; rfl, mk_congr (mk_set HM.out hlt _) (fun q _ => HO.out q), mk_other HMX.out hC3 _ _, hb.setCell (by simp) _, hb2.setCell (by simp) _⟩
             case measure => simp [intOf]; omega
         · have e : p = N := by omega
           subst e
           have r0 := (hb2.cell (p := ⟨B, 0, none⟩) (Nat.lt_succ_self _)).trans HP0.out
           have HE := hide (show ∀ q, q < p → orB A X p q = stepE f o q from fun q hq => by
               rw [orB_all A X hq, ← HXX.out, ← HAA.out]; rfl)
           have HM := hide (mk_congr hm HE.out)
           clear hm
           cases hmo : moreB A X p
           all_goals
             go_wp2
             go_ret
             exact ⟨B + 1, by omega, rfl, HM.out, by rw [hB]; exact hb⟩
      · exact absurd (by omega) hlt2

set_option maxRecDepth 100000 in
set_option maxHeartbeats 6400000 in
theorem ends_k4 (word : List Int) (n : Nat) (x : Ex n) (ih : EndsOf word n x) (ss : Int) (y a : Option Addr) (ycap : Nat) (L N cap F : Nat) (o : Nat → Bool) (w : World) (hw : word.length = L) (hN : (L : Int) + 1 = (N : Int)) (hL : L ≤ 1000)
    (hF : Mk w F N o) (hW : Wd w a word) (hkids : Kids w n y 1 [x]) (hsh : shapesE n x = true) :
    Calls Tryz.prog 30 #[.agg #[.int .u8 4, .int .u16 ss, .slice y 1 ycap], .slice a L cap, .slice (some ⟨F, 0, none⟩) N N] w fun e w' => Gives w N (iterE (fun o => endsE word n x o) N o) e w' := by
  have hmk : ∀ w, (Instr.makeSlice 68 (.int .i64 (N : Int)) (.int .i64 (N : Int))).run Tryz.prog w = .ok (.slice (some ⟨w.heap.size, 0, none⟩) N N) (w.alloc (.cells (rowB N fun _ => false) 4)) := make39 N (by omega)
  have HF := hide hF
  have HFL := hide (mk_lt hF)
  have HW := hide hW
  have HWL := hide hw
  have HK := hide hkids
  have HS := hide hsh
  have HLK := hide (ends_looks word N n x)
  clear hF hW hw hkids hsh
  obtain ⟨p0, p1, p2⟩ := box3 w (.int .u8 4) (.int .u16 ss) (.slice y 1 ycap) 38
  have HB0 := hide ((Below.refl w.heap.size w).alloc (Nat.le_refl _) (.cells #[.int .u8 4, .int .u16 ss, .slice y 1 ycap] 38))
  have HIH := hide ih
  clear ih
  unfold EndsOf at HIH
  change Calls _ _ _ _ fun e w' => Gives w N (iterE (endsE word n x) N o) e w'
  generalize endsE word n x = f at *
  go_enter Tryz.func30, Tryz.ntmps30
  go_wp2_with fail
  have hm0 : Mk ((w.alloc (.cells #[.int .u8 4, .int .u16 ss, .slice y 1 ycap] 38)).alloc (.cells (rowB N fun _ => false) 4)) (w.heap.size + 1) N (fun j => decide (j < 0) && o j) := mk_congr (g := fun _ => false) (mk_new _ _ _) (by simp)
  have hb0 := HB0.out.alloc (by simp) (.cells (rowB N fun _ => false) 4)
  have hp0 := (box_then w (.cells #[.int .u8 4, .int .u16 ss, .slice y 1 ycap] 38) (.cells (rowB N fun _ => false) 4) 0).trans p0
  have hp2 := (box_then w (.cells #[.int .u8 4, .int .u16 ss, .slice y 1 ycap] 38) (.cells (rowB N fun _ => false) 4) 2).trans p2
  clear hmk p0 p1 p2 HB0
  generalize (w.alloc (.cells #[.int .u8 4, .int .u16 ss, .slice y 1 ycap] 38)).alloc (.cells (rowB N fun _ => false) 4) = W0 at *
  generalize hB : w.heap.size = B at *
  go_loopw [15] (fun i wr => ∃ k : Nat, k ≤ N ∧ i = .int .i64 k ∧ Mk wr (B + 1) N (fun j => decide (j < k) && o j) ∧ Below B w wr ∧ Below (B + 1) W0 wr) (fun i _ => N - (intOf i).toNat)
  case atStart => exact ⟨0, Nat.zero_le _, rfl, hm0, hb0, Below.refl _ _⟩
  case round =>
   obtain ⟨k, hk, rfl, hm, hb, hb2⟩ := hrel
   clear hm0 hb0
   by_cases hlt : k < N
   · obtain ⟨m0, m1⟩ := mk_cell hm hlt
     obtain ⟨f0, _⟩ := mk_cell (mk_below HFL.out hb HF.out) hlt
     have i1 : (0 : Int) ≤ (k : Int) := by omega
     have i2 : (k : Int) < (N : Int) := by omega
     have HM := hide hm
     clear hm
     go_wp2
     go_roundw
     case rel => exact ⟨k + 1, by omega, by go_num, mk_congr (mk_set HM.out hlt (o k)) (fun j _ => copy_set o k j), hb.setCell (by simp) _, hb2.setCell (by simp) _⟩
     case measure => simp [intOf]; omega
   · have e : N = k := by omega
     subst e
     have hm1 : Mk wr (B + 1) N (iterE f 0 o) := mk_congr hm (fun j hj => by simp [hj, iterE])
     clear hm hk hlt
     go_wp2_with fail
     go_loopw [16] (fun i wr => ∃ r : Nat, r ≤ N ∧ i = .int .i64 r ∧ Mk wr (B + 1) N (iterE f r o) ∧ Below B w wr ∧ Below (B + 1) W0 wr) (fun i _ => N - (intOf i).toNat)
     case atStart => exact ⟨0, Nat.zero_le _, rfl, hm1, hb, hb2⟩
     case round =>
      obtain ⟨r, hr, rfl, hm, hb, hb2⟩ := hrel
      clear hm1
      have r0 := (hb2.cell (p := ⟨B, 0, none⟩) (Nat.lt_succ_self _)).trans hp0
      have r2 := (hb2.cell (p := ⟨B, 2, none⟩) (Nat.lt_succ_self _)).trans hp2
      by_cases hlt2 : r < N
      · obtain ⟨x', b, off, c0, c1, c2, rfl, hx, k0, k1, k2, k3⟩ := HK.out wr (hB ▸ hb) 0 (by omega)
        obtain rfl : x = x' := by simpa using hx
        simp only [Nat.zero_mul, Nat.add_zero] at k0 k1 k2
        have HK3 := hide k3
        have HM := hide hm
        have HB1 := hide hb
        have HB2 := hide hb2
        have HWd := hide (wd_below (hB ▸ hb) HW.out)
        have i4 : ((r : Nat) : Int) < (N : Int) := by omega
        have HSZ := hide (show B + 1 < wr.heap.size from mk_lt hm)
        have HP0 := hide hp0
        clear hx k3 hm hb hb2 hp0 hp2
        go_wp2_with fail
        refine (HIH.out _ a L N cap (B + 1) _ wr HWL.out hN hL HK3.out HS.out HWd.out HM.out).mono ?_
        rintro e w2 ⟨C2, hC2, rfl, hm2, hb3⟩
        have hC3 : C2 ≠ B + 1 := by have := HSZ.out; omega
        have HA := hide (mk_below HSZ.out hb3 HM.out)
        have HM2 := hide hm2
        have HB3 := hide (HB1.out.trans (hb3.mono (by have := HSZ.out; omega)))
        have HB4 := hide (HB2.out.trans (hb3.mono (by have := HSZ.out; omega)))
        clear hm2 hb3 k0 k1 k2 r0 r2 HM HB1 HB2 HWd HK3 hC2 HSZ
        obtain ⟨A, hA⟩ : ∃ A, iterE f r o = A := ⟨_, rfl⟩
        rw [hA] at HA HM2
        have HAA := hide hA
        obtain ⟨X, hX⟩ : ∃ X, f A = X := ⟨_, rfl⟩
        rw [hX] at HM2
        have HXX := hide hX
        clear hA hX
        go_wp2_with fail
        go_loopw [18, 19] (fun v u wi => ∃ p : Nat, p ≤ N ∧ u = .int .i64 p ∧ v = .bool (moreB A X p) ∧ Mk wi (B + 1) N (orB A X p) ∧ Mk wi C2 N X ∧ Below B w wi ∧ Below (B + 1) W0 wi) (fun _ u _ => N - (intOf u).toNat)
        case atStart => exact ⟨0, Nat.zero_le _, rfl, rfl, mk_congr HA.out (fun q _ => by simp [orB]), HM2.out, HB3.out, HB4.out⟩
        case round =>
         obtain ⟨p, hp, rfl, rfl, hm, hmx, hb, hb2⟩ := hrel
         clear HA HM2 HB3 HB4
         by_cases hlt : p < N
         · obtain ⟨m0, m1⟩ := mk_cell hm hlt
           obtain ⟨f0, _⟩ := mk_cell hmx hlt
           rw [orB_here] at m0
           have HO := hide (orB_set A X p)
           have HM := hide hm
           have HMX := hide hmx
           have i1 : (0 : Int) ≤ (p : Int) := by omega
           have i2 : (p : Int) < (N : Int) := by omega
           clear hm hmx
           cases hmo : moreB A X p <;> cases hA : A p <;> cases hX : X p
           all_goals
             have HMO := hide (ret_more hmo hA hX)
             rw [hA] at m0
             rw [hX] at f0
             rw [hA, hX] at HO
             clear hmo hA hX
             go_wp2
             go_roundw
             case rel => exact ⟨p + 1, by omega, by go_num, by rw [HMO.out]; rfl, mk_congr (mk_set HM.out hlt _) (fun q _ => HO.out q), mk_other HMX.out hC3 _ _, hb.setCell (by simp) _, hb2.setCell (by simp) _⟩
             case measure => simp [intOf]; omega
         · have e : p = N := by omega
           subst e
           have r0 := (hb2.cell (p := ⟨B, 0, none⟩) (Nat.lt_succ_self _)).trans HP0.out
           cases hmo : moreB A X p
           · have HE := hide (show ∀ q, q < p → orB A X p q = iterE f p o q from fun q hq => by
               rw [orB_all A X hq, more_no hmo q hq]
               have e1 : ∀ j, j < p → stepE f A j = A j := fun j hj => by
                 have := more_no hmo j hj
                 rw [← HXX.out] at this; exact this
               have e2 : iterE f p o = iterE f (p - r) (iterE f r o) := by rw [← iter_add]; congr 1; omega
               rw [e2, HAA.out]
               exact (iter_stop HLK.out e1 _ _ hq).symm)
             have HM := hide (mk_congr hm HE.out)
             clear hm
             go_wp2
             go_ret
             exact ⟨B + 1, by omega, rfl, HM.out, by rw [hB]; exact hb⟩
           · have HE := hide (show ∀ q, q < p → orB A X p q = iterE f (r + 1) o q from fun q hq => by
               rw [orB_all A X hq, iter_succ, ← HXX.out, ← HAA.out]; rfl)
             have HM := hide (mk_congr hm HE.out)
             clear hm
             go_wp2
             go_roundw
             case rel => exact ⟨r + 1, by omega, by go_num, HM.out, hb, hb2⟩
             case measure => simp [intOf]; omega
      · have e : r = N := by omega
        subst e
        go_wp2
        go_ret
        exact ⟨B + 1, by omega, rfl, hm, by rw [hB]; exact hb⟩
end Go.Proofs.YtccaknabpnpjaaaGreatDoor.A
