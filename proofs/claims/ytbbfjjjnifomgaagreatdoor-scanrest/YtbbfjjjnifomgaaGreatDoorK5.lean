/- The document's Ends: any number of times, once or not. -/
import Derived.WalkKit
import Derived.ProofKit
import Derived.Outline
import Derived.BigQuiet
import Derived.Deep.QuietTactic
import Derived.Below
import Derived.Deep.RegionHeld3
import Derived.OpenShut
import Derived.Deep.Slices
import Derived.Deep.Strs
import Derived.Deep.OwnRows
import Derived.Deep.WholeRow
import Derived.Deep.Heap
import Derived.Test.YtbbfjjjnifomgaaGreatDoorK1
import Derived.Test.YtbbfjjjnifomgaaGreatDoorK2
import Derived.Test.YtbbfjjjnifomgaaGreatDoorK3
import Derived.Test.YtbbfjjjnifomgaaGreatDoorK4
namespace Go.Proofs.YtbbfjjjnifomgaaGreatDoor.A
open Go.RowKit

theorem iter_succ (f : (Nat → Bool) → Nat → Bool) : ∀ (m : Nat) (o : Nat → Bool), iterE f (m + 1) o = stepE f (iterE f m o)
  | 0, _ => rfl
  | m + 1, o => iter_succ f m (stepE f o)
theorem iter_add (f : (Nat → Bool) → Nat → Bool) : ∀ (m k : Nat) (o : Nat → Bool), iterE f (m + k) o = iterE f k (iterE f m o)
  | 0, k, o => by rw [Nat.zero_add]; rfl
  | m + 1, k, o => by rw [show m + 1 + k = (m + k) + 1 by omega]; exact iter_add f m k (stepE f o)
/-- It looks at no place behind the word. -/
def Looks (N : Nat) (f : (Nat → Bool) → Nat → Bool) : Prop := ∀ o o' : Nat → Bool, (∀ j, j < N → o j = o' j) → ∀ j, j < N → f o j = f o' j
theorem looks_step {N : Nat} {f : (Nat → Bool) → Nat → Bool} (hf : Looks N f) : Looks N (stepE f) := fun o o' h j hj => by unfold stepE; rw [h j hj, hf o o' h j hj]
theorem looks_iter {N : Nat} {f : (Nat → Bool) → Nat → Bool} (hf : Looks N f) : ∀ m, Looks N (iterE f m)
  | 0 => fun _ _ h j hj => h j hj
  | m + 1 => fun o o' h j hj => looks_iter hf m _ _ (looks_step hf o o' h) j hj
theorem looks_fold {α : Type} {N : Nat} (f : α → (Nat → Bool) → Nat → Bool) (hf : ∀ x, Looks N (f x)) : ∀ (l : List α), Looks N (fun o => l.foldl (fun o x => f x o) o)
  | [] => fun _ _ h j hj => h j hj
  | x :: r => fun o o' h j hj => looks_fold f hf r _ _ (hf x o o' h) j hj
theorem ends_looks (word : List Int) (N : Nat) : ∀ (n : Nat) (t : Ex n), Looks N (endsE word n t)
  | 0, _ => fun _ _ _ _ _ => rfl
  | n + 1, t => fun o o' h j hj => by
    unfold endsE
    by_cases k0 : kd t = 0
    · rw [if_pos k0, if_pos k0]; exact h j hj
    · rw [if_neg k0, if_neg k0]
      by_cases k1 : kd t = 1
      · rw [if_pos k1, if_pos k1, h (j - 1) (by omega)]
      · rw [if_neg k1, if_neg k1]
        by_cases k2 : kd t = 2
        · rw [if_pos k2, if_pos k2]; exact looks_fold (fun x => endsE word n x) (fun x => ends_looks word N n x) (ks t) o o' h j hj
        · rw [if_neg k2, if_neg k2]
          by_cases k3 : kd t = 3
          · rw [if_pos k3, if_pos k3]
            have e : (fun x => endsE word n x o j) = (fun x => endsE word n x o' j) := funext fun x => ends_looks word N n x o o' h j hj
            rw [e]
          · rw [if_neg k3, if_neg k3]
            by_cases k4 : kd t = 4
            · rw [if_pos k4, if_pos k4]
              cases (ks t).head? with
              | none => rfl
              | some x => exact looks_iter (ends_looks word N n x) _ o o' h j hj
            · rw [if_neg k4, if_neg k4]
              by_cases k5 : kd t = 5
              · rw [if_pos k5, if_pos k5]
                cases (ks t).head? with
                | none => rfl
                | some x => exact looks_step (ends_looks word N n x) o o' h j hj
              · rw [if_neg k5, if_neg k5]
theorem iter_stop {N : Nat} {f : (Nat → Bool) → Nat → Bool} (hf : Looks N f) {o : Nat → Bool} (h : ∀ j, j < N → stepE f o j = o j) : ∀ (m j : Nat), j < N → iterE f m o j = o j
  | 0, _, _ => rfl
  | m + 1, j, hj => by
    show iterE f m (stepE f o) j = o j
    rw [looks_iter hf m _ _ h j hj]
    exact iter_stop hf h m j hj
/-- Is there more, as far as a place? -/
def moreB (A X : Nat → Bool) : Nat → Bool
  | 0 => false
  | p + 1 => moreB A X p || (X p && !A p)
theorem more_no {A X : Nat → Bool} : ∀ {p : Nat}, moreB A X p = false → ∀ j, j < p → (A j || X j) = A j
  | 0, _, j, hj => by omega
  | p + 1, h, j, hj => by
    have h' : (moreB A X p || (X p && !A p)) = false := h
    rw [Bool.or_eq_false_iff] at h'
    by_cases e : j = p
    · subst e
      have := h'.2
      cases hA : A j <;> cases hX : X j <;> simp [hA, hX] at this ⊢
    · exact more_no h'.1 j (by omega)
theorem ret_more {A X : Nat → Bool} {p : Nat} {m a x : Bool} (hm : moreB A X p = m) (ha : A p = a) (hx : X p = x) : moreB A X (p + 1) = (m || (x && !a)) := by
  show (moreB A X p || (X p && !A p)) = _
  rw [hm, ha, hx]

set_option maxRecDepth 100000 in
set_option maxHeartbeats 6400000 in
theorem ends_k5 (word : List Int) (n : Nat) (x : Ex n) (ih : EndsOf word n x) (ss : Int) (y a : Option Addr) (ycap : Nat) (L N cap F : Nat) (o : Nat → Bool) (w : World) (hw : word.length = L) (hN : (L : Int) + 1 = (N : Int)) (hL : L ≤ 1000)
    (hF : Mk w F N o) (hW : Wd w a word) (hkids : Kids w n y 1 [x]) (hsh : shapesE n x = true) :
    Calls Tryz.prog 49 #[.agg #[.int .u8 5, .int .u16 ss, .slice y 1 ycap], .slice a L cap, .slice (some ⟨F, 0, none⟩) N N] w fun e w' => Gives w N (stepE (fun o => endsE word n x o) o) e w' := by
  have hmk : ∀ w, (Instr.makeSlice 70 (.int .i64 (N : Int)) (.int .i64 (N : Int))).run Tryz.prog w = .ok (.slice (some ⟨w.heap.size, 0, none⟩) N N) (w.alloc (.cells (rowB N fun _ => false) 4)) := make39 N (by omega)
  have HF := hide hF
  have HFL := hide (mk_lt hF)
  have HW := hide hW
  have HWL := hide hw
  have HK := hide hkids
  have HS := hide hsh
  have HLK := hide (ends_looks word N n x)
  clear hF hW hw hkids hsh
  obtain ⟨p0, p1, p2⟩ := box3 w (.int .u8 5) (.int .u16 ss) (.slice y 1 ycap) 55
  have HB0 := hide ((Below.refl w.heap.size w).alloc (Nat.le_refl _) (.cells #[.int .u8 5, .int .u16 ss, .slice y 1 ycap] 55))
  have HIH := hide ih
  clear ih
  unfold EndsOf at HIH
  change Calls _ _ _ _ fun e w' => Gives w N (stepE (endsE word n x) o) e w'
  generalize endsE word n x = f at *
  go_enter Tryz.func49, Tryz.ntmps49
  go_wp2_with fail
  have hm0 : Mk ((w.alloc (.cells #[.int .u8 5, .int .u16 ss, .slice y 1 ycap] 55)).alloc (.cells (rowB N fun _ => false) 4)) (w.heap.size + 1) N (fun j => decide (j < 0) && o j) := mk_congr (g := fun _ => false) (mk_new _ _ _) (by simp)
  have hb0 := HB0.out.alloc (by simp) (.cells (rowB N fun _ => false) 4)
  have hp0 := (box_then w (.cells #[.int .u8 5, .int .u16 ss, .slice y 1 ycap] 55) (.cells (rowB N fun _ => false) 4) 0).trans p0
  have hp2 := (box_then w (.cells #[.int .u8 5, .int .u16 ss, .slice y 1 ycap] 55) (.cells (rowB N fun _ => false) 4) 2).trans p2
  clear hmk p0 p1 p2 HB0
  generalize (w.alloc (.cells #[.int .u8 5, .int .u16 ss, .slice y 1 ycap] 55)).alloc (.cells (rowB N fun _ => false) 4) = W0 at *
  generalize hB : w.heap.size = B at *
  go_loopw [15] (fun i wr => ∃ k : Nat, k ≤ N ∧ i = .int .i64 k ∧ Mk wr (B + 1) N (fun j => decide (j < k) && o j) ∧ Below B w wr ∧ Below (B + 1) W0 wr) (fun i _ => N - (intOf i).toNat)
  case atStart => exact ⟨0, Nat.zero_le _, rfl, hm0, hb0, Below.refl _ _⟩
  case round =>
   obtain ⟨k, hk, rfl, hm, hb, hb2⟩ := hrel
   clear hm0 hb0
   by_cases hlt : k < N
   · obtain ⟨m0, m1⟩ := mk_cell hm hlt
     obtain ⟨f0, _⟩ := mk_cell (mk_below HFL.out hb HF.out) hlt
     have i1 : (0 : Int) ≤ (k : Int) := by omega
     have i2 : (k : Int) < (N : Int) := by omega
     have HM := hide hm
     clear hm
     go_wp2
     go_roundw
     case rel => exact ⟨k + 1, by omega, by go_num, mk_congr (mk_set HM.out hlt (o k)) (fun j _ => copy_set o k j), hb.setCell (by simp) _, hb2.setCell (by simp) _⟩
     case measure => simp [intOf]; omega
   · have e : N = k := by omega
     subst e
     have hm1 : Mk wr (B + 1) N (iterE f 0 o) := mk_congr hm (fun j hj => by simp [hj, iterE])
     clear hm hk hlt
     go_wp2_with fail
     go_loopw [16] (fun i wr => ∃ r : Nat, r = 0 ∧ i = .int .i64 r ∧ Mk wr (B + 1) N (iterE f r o) ∧ Below B w wr ∧ Below (B + 1) W0 wr) (fun i _ => N - (intOf i).toNat)
     case atStart => exact ⟨0, rfl, rfl, hm1, hb, hb2⟩
     case round =>
      obtain ⟨r, hr, rfl, hm, hb, hb2⟩ := hrel
      clear hm1
      have r0 := (hb2.cell (p := ⟨B, 0, none⟩) (Nat.lt_succ_self _)).trans hp0
      have r2 := (hb2.cell (p := ⟨B, 2, none⟩) (Nat.lt_succ_self _)).trans hp2
      subst hr
      by_cases hlt2 : (0 : Nat) < N
      · obtain ⟨x', b, off, c0, c1, c2, rfl, hx, k0, k1, k2, k3⟩ := HK.out wr (hB ▸ hb) 0 (by omega)
        obtain rfl : x = x' := by simpa using hx
        simp only [Nat.zero_mul, Nat.add_zero] at k0 k1 k2
        have HK3 := hide k3
        have HM := hide hm
        have HB1 := hide hb
        have HB2 := hide hb2
        have HWd := hide (wd_below (hB ▸ hb) HW.out)
        have i4 : ((0 : Nat) : Int) < (N : Int) := by omega
        have HSZ := hide (show B + 1 < wr.heap.size from mk_lt hm)
        have HP0 := hide hp0
        clear hx k3 hm hb hb2 hp0 hp2
        go_wp2_with fail
        refine (HIH.out _ a L N cap (B + 1) _ wr HWL.out hN hL HK3.out HS.out HWd.out HM.out).mono ?_
        rintro e w2 ⟨C2, hC2, rfl, hm2, hb3⟩
        have hC3 : C2 ≠ B + 1 := by have := HSZ.out; omega
        have HA := hide (mk_below HSZ.out hb3 HM.out)
        have HM2 := hide hm2
        have HB3 := hide (HB1.out.trans (hb3.mono (by have := HSZ.out; omega)))
        have HB4 := hide (HB2.out.trans (hb3.mono (by have := HSZ.out; omega)))
        clear hm2 hb3 k0 k1 k2 r0 r2 HM HB1 HB2 HWd HK3 hC2 HSZ
        obtain ⟨A, hA⟩ : ∃ A, iterE f 0 o = A := ⟨_, rfl⟩
        rw [hA] at HA HM2
        have HAA := hide hA
        obtain ⟨X, hX⟩ : ∃ X, f A = X := ⟨_, rfl⟩
        rw [hX] at HM2
        have HXX := hide hX
        clear hA hX
        go_wp2_with fail
        go_loopw [18, 19] (fun v u wi => ∃ p : Nat, p ≤ N ∧ u = .int .i64 p ∧ v = .bool (moreB A X p) ∧ Mk wi (B + 1) N (orB A X p) ∧ Mk wi C2 N X ∧ Below B w wi ∧ Below (B + 1) W0 wi) (fun _ u _ => N - (intOf u).toNat)
        case atStart => exact ⟨0, Nat.zero_le _, rfl, rfl, mk_congr HA.out (fun q _ => by simp [orB]), HM2.out, HB3.out, HB4.out⟩
        case round =>
         obtain ⟨p, hp, rfl, rfl, hm, hmx, hb, hb2⟩ := hrel
         clear HA HM2 HB3 HB4
         by_cases hlt : p < N
         · obtain ⟨m0, m1⟩ := mk_cell hm hlt
           obtain ⟨f0, _⟩ := mk_cell hmx hlt
           rw [orB_here] at m0
           have HO := hide (orB_set A X p)
           have HM := hide hm
           have HMX := hide hmx
           have i1 : (0 : Int) ≤ (p : Int) := by omega
           have i2 : (p : Int) < (N : Int) := by omega
           clear hm hmx
           cases hmo : moreB A X p <;> cases hA : A p <;> cases hX : X p
           all_goals
             have HMO := hide (ret_more hmo hA hX)
             rw [hA] at m0
             rw [hX] at f0
             rw [hA, hX] at HO
             clear hmo hA hX
             go_wp2
             go_roundw
             case rel => exact ⟨p + 1, by omega, by go_num, by rw [HMO.out]; rfl, mk_congr (mk_set HM.out hlt _) (fun q _ => HO.out q), mk_other HMX.out hC3 _ _, hb.setCell (by simp) _, hb2.setCell (by simp) _⟩
             case measure => simp [intOf]; omega
         · have e : p = N := by omega
           subst e
           have r0 := (hb2.cell (p := ⟨B, 0, none⟩) (Nat.lt_succ_self _)).trans HP0.out
           have HE := hide (show ∀ q, q < p → orB A X p q = stepE f o q from fun q hq => by
               rw [orB_all A X hq, ← HXX.out, ← HAA.out]; rfl)
           have HM := hide (mk_congr hm HE.out)
           clear hm
           cases hmo : moreB A X p
           all_goals
             go_wp2
             go_ret
             exact ⟨B + 1, by omega, rfl, HM.out, by rw [hB]; exact hb⟩
      · exact absurd (by omega) hlt2

set_option maxRecDepth 100000 in
set_option maxHeartbeats 6400000 in
theorem ends_k4 (word : List Int) (n : Nat) (x : Ex n) (ih : EndsOf word n x) (ss : Int) (y a : Option Addr) (ycap : Nat) (L N cap F : Nat) (o : Nat → Bool) (w : World) (hw : word.length = L) (hN : (L : Int) + 1 = (N : Int)) (hL : L ≤ 1000)
    (hF : Mk w F N o) (hW : Wd w a word) (hkids : Kids w n y 1 [x]) (hsh : shapesE n x = true) :
    Calls Tryz.prog 49 #[.agg #[.int .u8 4, .int .u16 ss, .slice y 1 ycap], .slice a L cap, .slice (some ⟨F, 0, none⟩) N N] w fun e w' => Gives w N (iterE (fun o => endsE word n x o) N o) e w' := by
  have hmk : ∀ w, (Instr.makeSlice 70 (.int .i64 (N : Int)) (.int .i64 (N : Int))).run Tryz.prog w = .ok (.slice (some ⟨w.heap.size, 0, none⟩) N N) (w.alloc (.cells (rowB N fun _ => false) 4)) := make39 N (by omega)
  have HF := hide hF
  have HFL := hide (mk_lt hF)
  have HW := hide hW
  have HWL := hide hw
  have HK := hide hkids
  have HS := hide hsh
  have HLK := hide (ends_looks word N n x)
  clear hF hW hw hkids hsh
  obtain ⟨p0, p1, p2⟩ := box3 w (.int .u8 4) (.int .u16 ss) (.slice y 1 ycap) 55
  have HB0 := hide ((Below.refl w.heap.size w).alloc (Nat.le_refl _) (.cells #[.int .u8 4, .int .u16 ss, .slice y 1 ycap] 55))
  have HIH := hide ih
  clear ih
  unfold EndsOf at HIH
  change Calls _ _ _ _ fun e w' => Gives w N (iterE (endsE word n x) N o) e w'
  generalize endsE word n x = f at *
  go_enter Tryz.func49, Tryz.ntmps49
  go_wp2_with fail
  have hm0 : Mk ((w.alloc (.cells #[.int .u8 4, .int .u16 ss, .slice y 1 ycap] 55)).alloc (.cells (rowB N fun _ => false) 4)) (w.heap.size + 1) N (fun j => decide (j < 0) && o j) := mk_congr (g := fun _ => false) (mk_new _ _ _) (by simp)
  have hb0 := HB0.out.alloc (by simp) (.cells (rowB N fun _ => false) 4)
  have hp0 := (box_then w (.cells #[.int .u8 4, .int .u16 ss, .slice y 1 ycap] 55) (.cells (rowB N fun _ => false) 4) 0).trans p0
  have hp2 := (box_then w (.cells #[.int .u8 4, .int .u16 ss, .slice y 1 ycap] 55) (.cells (rowB N fun _ => false) 4) 2).trans p2
  clear hmk p0 p1 p2 HB0
  generalize (w.alloc (.cells #[.int .u8 4, .int .u16 ss, .slice y 1 ycap] 55)).alloc (.cells (rowB N fun _ => false) 4) = W0 at *
  generalize hB : w.heap.size = B at *
  go_loopw [15] (fun i wr => ∃ k : Nat, k ≤ N ∧ i = .int .i64 k ∧ Mk wr (B + 1) N (fun j => decide (j < k) && o j) ∧ Below B w wr ∧ Below (B + 1) W0 wr) (fun i _ => N - (intOf i).toNat)
  case atStart => exact ⟨0, Nat.zero_le _, rfl, hm0, hb0, Below.refl _ _⟩
  case round =>
   obtain ⟨k, hk, rfl, hm, hb, hb2⟩ := hrel
   clear hm0 hb0
   by_cases hlt : k < N
   · obtain ⟨m0, m1⟩ := mk_cell hm hlt
     obtain ⟨f0, _⟩ := mk_cell (mk_below HFL.out hb HF.out) hlt
     have i1 : (0 : Int) ≤ (k : Int) := by omega
     have i2 : (k : Int) < (N : Int) := by omega
     have HM := hide hm
     clear hm
     go_wp2
     go_roundw
     case rel => exact ⟨k + 1, by omega, by go_num, mk_congr (mk_set HM.out hlt (o k)) (fun j _ => copy_set o k j), hb.setCell (by simp) _, hb2.setCell (by simp) _⟩
     case measure => simp [intOf]; omega
   · have e : N = k := by omega
     subst e
     have hm1 : Mk wr (B + 1) N (iterE f 0 o) := mk_congr hm (fun j hj => by simp [hj, iterE])
     clear hm hk hlt
     go_wp2_with fail
     go_loopw [16] (fun i wr => ∃ r : Nat, r ≤ N ∧ i = .int .i64 r ∧ Mk wr (B + 1) N (iterE f r o) ∧ Below B w wr ∧ Below (B + 1) W0 wr) (fun i _ => N - (intOf i).toNat)
     case atStart => exact ⟨0, Nat.zero_le _, rfl, hm1, hb, hb2⟩
     case round =>
      obtain ⟨r, hr, rfl, hm, hb, hb2⟩ := hrel
      clear hm1
      have r0 := (hb2.cell (p := ⟨B, 0, none⟩) (Nat.lt_succ_self _)).trans hp0
      have r2 := (hb2.cell (p := ⟨B, 2, none⟩) (Nat.lt_succ_self _)).trans hp2
      by_cases hlt2 : r < N
      · obtain ⟨x', b, off, c0, c1, c2, rfl, hx, k0, k1, k2, k3⟩ := HK.out wr (hB ▸ hb) 0 (by omega)
        obtain rfl : x = x' := by simpa using hx
        simp only [Nat.zero_mul, Nat.add_zero] at k0 k1 k2
        have HK3 := hide k3
        have HM := hide hm
        have HB1 := hide hb
        have HB2 := hide hb2
        have HWd := hide (wd_below (hB ▸ hb) HW.out)
        have i4 : ((r : Nat) : Int) < (N : Int) := by omega
        have HSZ := hide (show B + 1 < wr.heap.size from mk_lt hm)
        have HP0 := hide hp0
        clear hx k3 hm hb hb2 hp0 hp2
        go_wp2_with fail
        refine (HIH.out _ a L N cap (B + 1) _ wr HWL.out hN hL HK3.out HS.out HWd.out HM.out).mono ?_
        rintro e w2 ⟨C2, hC2, rfl, hm2, hb3⟩
        have hC3 : C2 ≠ B + 1 := by have := HSZ.out; omega
        have HA := hide (mk_below HSZ.out hb3 HM.out)
        have HM2 := hide hm2
        have HB3 := hide (HB1.out.trans (hb3.mono (by have := HSZ.out; omega)))
        have HB4 := hide (HB2.out.trans (hb3.mono (by have := HSZ.out; omega)))
        clear hm2 hb3 k0 k1 k2 r0 r2 HM HB1 HB2 HWd HK3 hC2 HSZ
        obtain ⟨A, hA⟩ : ∃ A, iterE f r o = A := ⟨_, rfl⟩
        rw [hA] at HA HM2
        have HAA := hide hA
        obtain ⟨X, hX⟩ : ∃ X, f A = X := ⟨_, rfl⟩
        rw [hX] at HM2
        have HXX := hide hX
        clear hA hX
        go_wp2_with fail
        go_loopw [18, 19] (fun v u wi => ∃ p : Nat, p ≤ N ∧ u = .int .i64 p ∧ v = .bool (moreB A X p) ∧ Mk wi (B + 1) N (orB A X p) ∧ Mk wi C2 N X ∧ Below B w wi ∧ Below (B + 1) W0 wi) (fun _ u _ => N - (intOf u).toNat)
        case atStart => exact ⟨0, Nat.zero_le _, rfl, rfl, mk_congr HA.out (fun q _ => by simp [orB]), HM2.out, HB3.out, HB4.out⟩
        case round =>
         obtain ⟨p, hp, rfl, rfl, hm, hmx, hb, hb2⟩ := hrel
         clear HA HM2 HB3 HB4
         by_cases hlt : p < N
         · obtain ⟨m0, m1⟩ := mk_cell hm hlt
           obtain ⟨f0, _⟩ := mk_cell hmx hlt
           rw [orB_here] at m0
           have HO := hide (orB_set A X p)
           have HM := hide hm
           have HMX := hide hmx
           have i1 : (0 : Int) ≤ (p : Int) := by omega
           have i2 : (p : Int) < (N : Int) := by omega
           clear hm hmx
           cases hmo : moreB A X p <;> cases hA : A p <;> cases hX : X p
           all_goals
             have HMO := hide (ret_more hmo hA hX)
             rw [hA] at m0
             rw [hX] at f0
             rw [hA, hX] at HO
             clear hmo hA hX
             go_wp2
             go_roundw
             case rel => exact ⟨p + 1, by omega, by go_num, by rw [HMO.out]; rfl, mk_congr (mk_set HM.out hlt _) (fun q _ => HO.out q), mk_other HMX.out hC3 _ _, hb.setCell (by simp) _, hb2.setCell (by simp) _⟩
             case measure => simp [intOf]; omega
         · have e : p = N := by omega
           subst e
           have r0 := (hb2.cell (p := ⟨B, 0, none⟩) (Nat.lt_succ_self _)).trans HP0.out
           cases hmo : moreB A X p
           · have HE := hide (show ∀ q, q < p → orB A X p q = iterE f p o q from fun q hq => by
               rw [orB_all A X hq, more_no hmo q hq]
               have e1 : ∀ j, j < p → stepE f A j = A j := fun j hj => by
                 have := more_no hmo j hj
                 rw [← HXX.out] at this; exact this
               have e2 : iterE f p o = iterE f (p - r) (iterE f r o) := by rw [← iter_add]; congr 1; omega
               rw [e2, HAA.out]
               exact (iter_stop HLK.out e1 _ _ hq).symm)
             have HM := hide (mk_congr hm HE.out)
             clear hm
             go_wp2
             go_ret
             exact ⟨B + 1, by omega, rfl, HM.out, by rw [hB]; exact hb⟩
           · have HE := hide (show ∀ q, q < p → orB A X p q = iterE f (r + 1) o q from fun q hq => by
               rw [orB_all A X hq, iter_succ, ← HXX.out, ← HAA.out]; rfl)
             have HM := hide (mk_congr hm HE.out)
             clear hm
             go_wp2
             go_roundw
             case rel => exact ⟨r + 1, by omega, by go_num, HM.out, hb, hb2⟩
             case measure => simp [intOf]; omega
      · have e : r = N := by omega
        subst e
        go_wp2
        go_ret
        exact ⟨B + 1, by omega, rfl, hm, by rw [hB]; exact hb⟩
end Go.Proofs.YtbbfjjjnifomgaaGreatDoor.A



/- The document's Ends, whole. -/
namespace Go.Proofs.YtbbfjjjnifomgaaGreatDoor.A
open Go.RowKit

theorem gives_congr {w : World} {N : Nat} {g h : Nat → Bool} {e : Ending} {w' : World} (d : Gives w N g e w') (q : ∀ j, j < N → g j = h j) : Gives w N h e w' := by
  obtain ⟨B, h1, h2, h3, h4⟩ := d
  exact ⟨B, h1, h2, mk_congr h3 q, h4⟩
theorem ends_any (word : List Int) : ∀ (n : Nat) (t : Ex n), EndsOf word n t
  | 0, _ => fun _ _ _ _ _ _ _ _ _ _ _ h => h.elim
  | n + 1, t => by
    intro v a L N cap F o w hw hN hL h hsh hW hF
    obtain ⟨y, len, ycap, rfl, hk, hs, hl, h6, hkids⟩ := rx_open h
    have hsh2 : (okE (kd t) (st t) (ks t).length && (ks t).all (fun x => shapesE n x)) = true := hsh
    rw [Bool.and_eq_true, List.all_eq_true] at hsh2
    obtain ⟨hok, hall⟩ := hsh2
    have hkk : kd t = 0 ∨ kd t = 1 ∨ kd t = 2 ∨ kd t = 3 ∨ kd t = 4 ∨ kd t = 5 ∨ 5 < kd t := by omega
    have one : kd t = 4 ∨ kd t = 5 → len = 1 := fun q => by
      rw [h6] at hok
      unfold okE at hok
      simp only [Bool.or_eq_true, Bool.and_eq_true, decide_eq_true_eq] at hok
      omega
    rcases hkk with e | e | e | e | e | e | e
    · rw [e]
      refine (ends_k0 _ _ a L N cap F o w hN hL hF).mono fun e' w' hg => gives_congr hg (fun j hj => ?_)
      unfold endsE; rw [if_pos e]
    · rw [e]
      refine (ends_k1 (st t) _ a word L N cap F o w hN hL hw hs hF hW).mono fun e' w' hg => gives_congr hg (fun j hj => ?_)
      unfold endsE chB; rw [if_neg (by omega), if_pos e, show decide (j ≤ L) = true from decide_eq_true (by omega), Bool.true_and]; cases word[j - 1]? <;> rfl
    · rw [e]
      refine (ends_k2 word n (fun x => ends_any word n x) _ y a len ycap (ks t) L N cap F o w hw hN hL hF hW hl h6 hkids hall).mono fun e' w' hg => gives_congr hg (fun j hj => ?_)
      conv => rhs; unfold endsE
      rw [if_neg (by omega), if_neg (by omega), if_pos e]
    · rw [e]
      refine (ends_k3 word n (fun x => ends_any word n x) _ y a len ycap (ks t) L N cap F o w hw hN hL hF hW hl h6 hkids hall).mono fun e' w' hg => gives_congr hg (fun j hj => ?_)
      conv => rhs; unfold endsE
      rw [if_neg (by omega), if_neg (by omega), if_neg (by omega), if_pos e]; rfl
    · obtain rfl := one (.inl e)
      obtain ⟨x, hx⟩ := List.length_eq_one_iff.1 h6
      rw [hx] at hkids hall
      rw [e]
      refine (ends_k4 word n x (ends_any word n x) _ y a ycap L N cap F o w hw hN hL hF hW hkids (hall x (by simp))).mono fun e' w' hg => gives_congr hg (fun j hj => ?_)
      conv => rhs; unfold endsE
      rw [if_neg (by omega), if_neg (by omega), if_neg (by omega), if_neg (by omega), if_pos e, hx, show word.length + 1 = N by omega]; rfl
    · obtain rfl := one (.inr e)
      obtain ⟨x, hx⟩ := List.length_eq_one_iff.1 h6
      rw [hx] at hkids hall
      rw [e]
      refine (ends_k5 word n x (ends_any word n x) _ y a ycap L N cap F o w hw hN hL hF hW hkids (hall x (by simp))).mono fun e' w' hg => gives_congr hg (fun j hj => ?_)
      conv => rhs; unfold endsE
      rw [if_neg (by omega), if_neg (by omega), if_neg (by omega), if_neg (by omega), if_neg (by omega), if_pos e, hx]; rfl
    · exfalso
      rw [h6] at hok
      unfold okE at hok
      simp only [Bool.or_eq_true, Bool.and_eq_true, decide_eq_true_eq] at hok
      omega
end Go.Proofs.YtbbfjjjnifomgaaGreatDoor.A



/- The program's nodeRight, and what measures an expression. -/
namespace Go.Proofs.YtbbfjjjnifomgaaGreatDoor.A
open Go.RowKit

set_option maxRecDepth 100000 in
set_option maxHeartbeats 3200000 in
theorem node_any (kk ss len : Nat) (a : Option Addr) (cap : Nat) (w : World) (hl : len ≤ maxLen) :
    Calls Tryz.prog 106 #[.agg #[.int .u8 kk, .int .u16 ss, .slice a len cap]] w fun e w' => e = .returned (.bool (okE kk ss len)) ∧ Below w.heap.size w w' := by
  unfold maxLen at hl
  go_enter Tryz.func106, Tryz.ntmps106
  go_wp2
  all_goals
    go_ret
    refine ⟨ret_bool ?_, (Below.refl w.heap.size w).alloc (Nat.le_refl _) _⟩
    simp only [beq_iff_eq, beq_eq_false_iff_ne, ne_eq] at *
    rw [Bool.eq_iff_iff]
    simp [okE]
    try omega

/-- A number in a cell of its own. -/
def Cn (w : World) (q : Nat) (x : Nat) : Prop := w.heap[q]? = some (.cells #[.int .i64 (x : Int)] 3 (0, 0))
theorem cn_cell {w : World} {q x : Nat} (h : Cn w q x) : w.cell? ⟨q, 0, none⟩ = some (.int .i64 x) ∧ w.frozen? ⟨q, 0, none⟩ = false := by
  unfold Cn at h
  simp [World.cell?, World.frozen?, h]
theorem cn_set {w : World} {q x : Nat} (h : Cn w q x) (y : Nat) : Cn (w.setCell ⟨q, 0, none⟩ (.int .i64 y)) q y := by
  unfold Cn at h ⊢
  rw [setCell_eq_setRow _ _ _ _ _ _ _ h, setRow_heap _ _ _ _ _ _ h]
  rfl
theorem cn_other {w : World} {q x p : Nat} (h : Cn w q x) (hp : q ≠ p) (i : Nat) (u : Value) : Cn (w.setCell ⟨p, i, none⟩ u) q x := by
  unfold Cn at h ⊢
  rw [Below.heap_setCell _ _ _ _ hp]
  exact h
theorem cn_lt {w : World} {q x : Nat} (h : Cn w q x) : q < w.heap.size := (Array.getElem?_eq_some_iff.1 h).1
theorem cn_below {w w' : World} {q x B : Nat} (h : Cn w q x) (hb : Below B w w') (hq : q < B) : Cn w' q x := (hb.block q hq).trans h
theorem cn_alloc {w : World} {q x : Nat} (h : Cn w q x) (o : Obj) : Cn (w.alloc o) q x := (Below.heap_alloc _ _ _ (cn_lt h)).trans h

/-- May one go on at a node, that is the so many-eth, so deep? -/
def takeB (kk ss len d N : Nat) : Bool := decide (N + 1 ≤ 100) && (decide (d ≤ 12) && okE kk ss len)

/-- All but two cells stand. -/
def Rest (w w' : World) (p q : Nat) : Prop := ∀ k, k < w.heap.size → k ≠ p → k ≠ q → w'.heap[k]? = w.heap[k]?
theorem rest_below {w w1 w2 : World} {p q : Nat} (h : Rest w w1 p q) (hs : w.heap.size ≤ w1.heap.size) (hb : Below w1.heap.size w1 w2) : Rest w w2 p q := fun k hk h1 h2 => (hb.block k (by omega)).trans (h k hk h1 h2)
theorem take_mem {w : World} {p q N D B : Nat} (hp : Cn w p N) (hq : Cn w q D) (hpq : p ≠ q) (hBp : B ≤ p) (hBq : B ≤ q) (M E : Nat) (o : Obj) :
    Cn (((w.setCell ⟨p, 0, none⟩ (.int .i64 M)).setCell ⟨q, 0, none⟩ (.int .i64 E)).alloc o) p M ∧ Cn (((w.setCell ⟨p, 0, none⟩ (.int .i64 M)).setCell ⟨q, 0, none⟩ (.int .i64 E)).alloc o) q E ∧ Below B w (((w.setCell ⟨p, 0, none⟩ (.int .i64 M)).setCell ⟨q, 0, none⟩ (.int .i64 E)).alloc o) ∧ Rest w (((w.setCell ⟨p, 0, none⟩ (.int .i64 M)).setCell ⟨q, 0, none⟩ (.int .i64 E)).alloc o) p q := by
  have z1 := cn_lt hp
  have h1 := cn_other (cn_set hp M) hpq 0 (.int .i64 E)
  have h2 := cn_set (cn_other hq hpq.symm 0 (.int .i64 M)) E
  refine ⟨cn_alloc h1 o, cn_alloc h2 o, (((Below.refl B w).setCell hBp _).setCell hBq _).alloc (by simp; omega) o, fun k hk k1 k2 => ?_⟩
  rw [Below.heap_alloc _ _ _ (by simpa using hk), Below.heap_setCell _ _ _ _ k2, Below.heap_setCell _ _ _ _ k1]

set_option maxRecDepth 100000 in
set_option maxHeartbeats 3200000 in
theorem take_any (kk ss len : Nat) (a : Option Addr) (cap d N D p q : Nat) (w : World) (B : Nat) (hl : len ≤ maxLen) (hd : d ≤ 100) (hN : N ≤ 1000) (hD : D ≤ 1000) (hp : Cn w p N) (hq : Cn w q D) (hpq : p ≠ q) (hBp : B ≤ p) (hBq : B ≤ q) :
    Calls Tryz.prog 105 #[.agg #[.int .u8 kk, .int .u16 ss, .slice a len cap], .int .i64 d, .pointer (some ⟨p, 0, none⟩), .pointer (some ⟨q, 0, none⟩)] w fun e w' => e = .returned (.bool (takeB kk ss len d N)) ∧ Cn w' p (N + 1) ∧ Cn w' q (max D d) ∧ Below B w w' ∧ Rest w w' p q := by
  have z1 := cn_lt hp
  have z2 := cn_lt hq
  have HM := hide (fun (M E : Nat) (o : Obj) => take_mem hp hq hpq hBp hBq M E o)
  obtain ⟨c1, c2⟩ := cn_cell hp
  obtain ⟨c3, c4⟩ := cn_cell hq
  have n1 : p ≠ w.heap.size := by omega
  have n2 : q ≠ w.heap.size := by omega
  have hqp := hpq.symm
  have hML := hide hl
  have HT := hide (show takeB kk ss len d N = (decide (N + 1 ≤ 100) && (decide (d ≤ 12) && okE kk ss len)) from rfl)
  clear hp hq hl
  obtain ⟨M, hM⟩ : ∃ M, N + 1 = M := ⟨_, rfl⟩
  have hMi : (N : Int) + 1 = (M : Int) := by omega
  rw [hM] at HT ⊢
  have HMM := hide hM
  clear hM
  obtain ⟨E, hE⟩ : ∃ E, max D d = E := ⟨_, rfl⟩
  rw [hE]
  by_cases hm : M ≤ 100
  · by_cases hdd : d ≤ 12
    · have m1 : decide ((M : Int) ≤ 100) = true := by simp; omega
      have m2 : decide ((d : Int) ≤ 12) = true := by simp; omega
      have HR := hide (show takeB kk ss len d N = okE kk ss len from by rw [HT.out]; simp [hm, hdd])
      by_cases hlt : D < d
      · have eE : E = d := by omega
        subst eE
        clear HT hE hm hdd
        go_enter Tryz.func105, Tryz.ntmps105
        go_wp2_with fail
        obtain ⟨g1, g2, g3, g4⟩ := HM.out M E (.cells #[.int .u8 kk, .int .u16 ss, .slice a len cap] 55)
        refine (node_any kk ss len a cap _ hML.out).mono ?_
        rintro e w2 ⟨rfl, hb2⟩
        have HB2 := hide (g3.trans (hb2.mono (by have := g3.size; omega)))
        have HG1 := hide (cn_below g1 hb2 (cn_lt g1))
        have HG2 := hide (cn_below g2 hb2 (cn_lt g2))
        have HR4 := hide (rest_below g4 g3.size hb2)
        clear g1 g2 g3 g4 hb2
        go_wp2
        go_ret
        exact ⟨by rw [HR.out]; rfl, HG1.out, HG2.out, HB2.out, HR4.out⟩
      · have eE : E = D := by omega
        subst eE
        clear HT hE hm hdd
        go_enter Tryz.func105, Tryz.ntmps105
        go_wp2_with fail
        obtain ⟨g1, g2, g3, g4⟩ := HM.out M E (.cells #[.int .u8 kk, .int .u16 ss, .slice a len cap] 55)
        refine (node_any kk ss len a cap _ hML.out).mono ?_
        rintro e w2 ⟨rfl, hb2⟩
        have HB2 := hide (g3.trans (hb2.mono (by have := g3.size; omega)))
        have HG1 := hide (cn_below g1 hb2 (cn_lt g1))
        have HG2 := hide (cn_below g2 hb2 (cn_lt g2))
        have HR4 := hide (rest_below g4 g3.size hb2)
        clear g1 g2 g3 g4 hb2
        go_wp2
        go_ret
        exact ⟨by rw [HR.out]; rfl, HG1.out, HG2.out, HB2.out, HR4.out⟩
    · have m1 : decide ((M : Int) ≤ 100) = true := by simp; omega
      have m2 : decide ((d : Int) ≤ 12) = false := by simp; omega
      have HR := hide (show takeB kk ss len d N = false from by rw [HT.out]; simp [hdd])
      by_cases hlt : D < d
      · have eE : E = d := by omega
        subst eE
        clear HT hE hm hdd
        go_enter Tryz.func105, Tryz.ntmps105
        go_wp2
        go_ret
        exact ⟨by rw [HR.out]; rfl, HM.out M E (.cells #[.int .u8 kk, .int .u16 ss, .slice a len cap] 55)⟩
      · have eE : E = D := by omega
        subst eE
        clear HT hE hm hdd
        go_enter Tryz.func105, Tryz.ntmps105
        go_wp2
        go_ret
        exact ⟨by rw [HR.out]; rfl, HM.out M E (.cells #[.int .u8 kk, .int .u16 ss, .slice a len cap] 55)⟩
  · have m1 : decide ((M : Int) ≤ 100) = false := by simp; omega
    have HR := hide (show takeB kk ss len d N = false from by rw [HT.out]; simp [hm])
    by_cases hlt : D < d
    · have eE : E = d := by omega
      subst eE
      clear HT hE hm
      go_enter Tryz.func105, Tryz.ntmps105
      go_wp2
      go_ret
      exact ⟨by rw [HR.out]; rfl, HM.out M E (.cells #[.int .u8 kk, .int .u16 ss, .slice a len cap] 55)⟩
    · have eE : E = D := by omega
      subst eE
      clear HT hE hm
      go_enter Tryz.func105, Tryz.ntmps105
      go_wp2
      go_ret
      exact ⟨by rw [HR.out]; rfl, HM.out M E (.cells #[.int .u8 kk, .int .u16 ss, .slice a len cap] 55)⟩
end Go.Proofs.YtbbfjjjnifomgaaGreatDoor.A



/- What measures an expression: the walk, and what it comes to. -/
namespace Go.Proofs.YtbbfjjjnifomgaaGreatDoor.A
open Go.RowKit

/-- Node by node: whether none was refused, how many there were, and how deep they stood. -/
def walkE : (n : Nat) → Ex n → Nat → Nat × Nat → Bool × Nat × Nat
  | 0, _, _, s => (false, s)
  | n + 1, t, d, s => if takeB (kd t) (st t) (ks t).length d s.1 = true then (ks t).foldl (fun r x => if r.1 then walkE n x (d + 1) r.2 else r) (true, s.1 + 1, max s.2 d) else (false, s.1 + 1, max s.2 d)
/-- What stands within the bounds. -/
def Fits (r : Bool × Nat × Nat) : Prop := r.1 = true → r.2.1 ≤ 100 ∧ r.2.2 ≤ 12
theorem fold_fits {α : Type} (f : α → Nat × Nat → Bool × Nat × Nat) (hf : ∀ x s, s.1 ≤ 100 → s.2 ≤ 12 → Fits (f x s)) : ∀ (l : List α) (r : Bool × Nat × Nat), Fits r → Fits (l.foldl (fun r x => if r.1 then f x r.2 else r) r)
  | [], _, h => h
  | x :: l, r, h => by
    refine fold_fits f hf l _ ?_
    show Fits (if r.1 = true then f x r.2 else r)
    split
    · rename_i q; exact hf x r.2 (h q).1 (h q).2
    · exact h
theorem walk_fits : ∀ (n : Nat) (t : Ex n) (d : Nat) (s : Nat × Nat), s.1 ≤ 100 → s.2 ≤ 12 → Fits (walkE n t d s)
  | 0, _, _, _, _, _ => fun h => by cases h
  | n + 1, t, d, s, h1, h2 => by
    unfold walkE
    split
    · rename_i q
      refine fold_fits (fun x s => walkE n x (d + 1) s) (fun x s a b => walk_fits n x (d + 1) s a b) _ _ (fun _ => ?_)
      unfold takeB at q
      simp only [Bool.and_eq_true, decide_eq_true_eq] at q
      exact ⟨q.1, by show max s.2 d ≤ 12; omega⟩
    · exact fun h => by cases h
theorem fold_no {α : Type} (f : α → Nat × Nat → Bool × Nat × Nat) : ∀ (l : List α) (r : Bool × Nat × Nat), r.1 = false → l.foldl (fun r x => if r.1 then f x r.2 else r) r = r
  | [], _, _ => rfl
  | x :: l, r, h => by
    show l.foldl _ (if r.1 = true then f x r.2 else r) = r
    rw [if_neg (by rw [h]; simp)]
    exact fold_no f l r h

theorem rx_cells {w : World} {n : Nat} {t : Ex n} {c0 c1 c2 : Value} (h : Rx w n t (.agg #[c0, c1, c2])) : ∃ (k s : Nat) (a : Option Addr) (len cap : Nat), c0 = .int .u8 k ∧ c1 = .int .u16 s ∧ c2 = .slice a len cap := by
  cases n with
  | zero => exact h.elim
  | succ n =>
    obtain ⟨a, len, cap, e, _⟩ := h
    simp only [Value.agg.injEq, Array.mk.injEq, List.cons.injEq, and_true] at e
    exact ⟨_, _, _, _, _, e.1, e.2.1, e.2.2⟩
/-- The world of what comes in, and two numbers that are counted in it. -/
def Go2 (w0 w : World) (p q N D : Nat) : Prop := Below w0.heap.size w0 w ∧ Cn w p N ∧ Cn w q D
set_option maxRecDepth 100000 in
set_option maxHeartbeats 3200000 in
theorem walk_any (w0 : World) (p q : Nat) (hp : w0.heap.size ≤ p) (hq : w0.heap.size ≤ q) (hpq : p ≠ q) : ∀ (n : Nat) (t : Ex n) (v : Value) (d N D : Nat) (w : World), N ≤ 100 → D ≤ 12 → d ≤ 13 → Rx w0 n t v → Go2 w0 w p q N D →
    Calls Tryz.prog 104 #[v, .int .i64 d, .func (.func 105) #[] #[.pointer (some ⟨p, 0, none⟩), .pointer (some ⟨q, 0, none⟩)]] w fun e w' =>
      e = .returned (.bool (walkE n t d (N, D)).1) ∧ Go2 w0 w' p q (walkE n t d (N, D)).2.1 (walkE n t d (N, D)).2.2 := by
  intro n
  induction n with
  | zero => intro t v d N D w _ _ _ h; exact h.elim
  | succ n ih =>
    intro t v d N D w hN hD hd h hg
    obtain ⟨a, len, cap, rfl, hk, hs, hl, h6, hkids⟩ := rx_open h
    have HE := hide (show walkE (n + 1) t d (N, D) = if takeB (kd t) (st t) (ks t).length d N = true then (ks t).foldl (fun r x => if r.1 then walkE n x (d + 1) r.2 else r) (true, N + 1, max D d) else (false, N + 1, max D d) from rfl)
    rw [h6] at HE
    have HTK := hide (show takeB (kd t) (st t) len d N = true → N + 1 ≤ 100 ∧ d ≤ 12 from fun q => by
      unfold takeB at q
      simp only [Bool.and_eq_true, decide_eq_true_eq] at q
      exact ⟨q.1, q.2.1⟩)
    have HML := hide hl
    unfold maxLen at hl
    generalize kd t = kk at *
    generalize st t = ss at *
    generalize ks t = l at *
    have HK := hide hkids
    have HL6 := hide h6
    obtain ⟨g1, g2, g3⟩ := hg
    have z1 := cn_lt g2
    have hb0 := g1.alloc (g1.size) (.cells #[.int .u8 kk, .int .u16 ss, .slice a len cap] 55)
    have hp0 := cn_alloc g2 (.cells #[.int .u8 kk, .int .u16 ss, .slice a len cap] 55)
    have hq0 := cn_alloc g3 (.cells #[.int .u8 kk, .int .u16 ss, .slice a len cap] 55)
    obtain ⟨r0, r1, r2⟩ := box3 w (.int .u8 kk) (.int .u16 ss) (.slice a len cap) 55
    have n1 : w.heap.size ≠ p := by have := cn_lt g2; omega
    have n2 : w.heap.size ≠ q := by have := cn_lt g3; omega
    clear h hkids g1 g2 g3 h6
    obtain ⟨tk, htk⟩ : ∃ b, takeB kk ss len d N = b := ⟨_, rfl⟩
    rw [htk] at HE HTK
    have HTB := hide htk
    clear htk
    have HB0 := hide hb0
    have HP0 := hide hp0
    have HQ0 := hide hq0
    have HR2 := hide r2
    clear hb0 hp0 hq0 r0 r1 r2
    go_enter Tryz.func104, Tryz.ntmps104
    go_wp2_with fail
    refine (take_any kk ss len a cap d N D p q _ w0.heap.size HML.out (by omega) (by omega) (by omega) HP0.out HQ0.out hpq hp hq).mono ?_
    rintro e w1 ⟨rfl, k1, k2, k3, k4⟩
    rw [HTB.out]
    have r2 : w1.cell? ⟨w.heap.size, 2, none⟩ = some (.slice a len cap) := (World.cell?_of_block (k4 w.heap.size (by simp) n1 n2)).trans HR2.out
    have HB1 := hide (HB0.out.trans k3)
    have HP1 := hide k1
    have HQ1 := hide k2
    clear k1 k2 k3 k4 HB0 HP0 HQ0 HR2
    cases tk with
    | false =>
      have HF := hide (show walkE (n + 1) t d (N, D) = (false, N + 1, max D d) from HE.out)
      go_wp2
      go_ret
      exact ⟨by rw [HF.out]; rfl, by rw [HF.out]; exact ⟨HB1.out, HP1.out, HQ1.out⟩⟩
    | true =>
      have HF := hide (show walkE (n + 1) t d (N, D) = l.foldl (fun r x => if r.1 then walkE n x (d + 1) r.2 else r) (true, N + 1, max D d) from HE.out)
      obtain ⟨hN1, hd1⟩ := HTK.out rfl
      have HFT := hide (fun (k : List (Ex n)) => fold_fits (fun x s => walkE n x (d + 1) s) (fun x s a b => walk_fits n x (d + 1) s a b) k (true, N + 1, max D d) (fun _ => ⟨hN1, by show max D d ≤ 12; omega⟩))
      clear HE HTK
      obtain ⟨d1, hd1e⟩ : ∃ d1, d + 1 = d1 := ⟨_, rfl⟩
      have hdi : (d : Int) + 1 = (d1 : Int) := by omega
      rw [hd1e] at HF HFT
      have hd13 : d1 ≤ 13 := by omega
      clear hd1e
      go_wp2_with fail
      go_loopw [8, 17] (fun _ u wr => ∃ (i N' D' : Nat), i ≤ len ∧ u = .int .i64 i ∧ (l.take i).foldl (fun r x => if r.1 then walkE n x d1 r.2 else r) (true, N + 1, max D d) = (true, N', D') ∧ Go2 w0 wr p q N' D') (fun _ u _ => len - (intOf u).toNat)
      case atStart => exact ⟨0, N + 1, max D d, Nat.zero_le _, rfl, rfl, HB1.out, HP1.out, HQ1.out⟩
      case round =>
        obtain ⟨i, N', D', hi, rfl, hf, hg⟩ := hrel
        obtain ⟨hN', hD'⟩ : N' ≤ 100 ∧ D' ≤ 12 := by have := HFT.out (l.take i); rw [hf] at this; exact this rfl
        have HFI := hide hf
        have HGI := hide hg
        clear hf hg HB1 HP1 HQ1 r2
        by_cases hlt : i < len
        · obtain ⟨x, b, off, c0, c1, c2, rfl, hx, m0, m1, m2, m3⟩ := HK.out wr HGI.out.1 i hlt
          obtain ⟨x', b', off', c0', c1', c2', eb, hx', m0', m1', m2', m3'⟩ := HK.out w0 (Below.refl _ _) i hlt
          obtain rfl : x = x' := Option.some.inj (hx.symm.trans hx')
          cases eb
          have e0 : c0' = c0 := Option.some.inj (((HGI.out.1.cell (p := ⟨b, off + i * 3, none⟩) (cell_lt m0')).trans m0').symm.trans m0)
          have e1 : c1' = c1 := Option.some.inj (((HGI.out.1.cell (p := ⟨b, off + i * 3 + 1, none⟩) (cell_lt m1')).trans m1').symm.trans m1)
          have e2 : c2' = c2 := Option.some.inj (((HGI.out.1.cell (p := ⟨b, off + i * 3 + 2, none⟩) (cell_lt m2')).trans m2').symm.trans m2)
          subst e0; subst e1; subst e2
          obtain ⟨kx, sx, ax, lx, cx, rfl, rfl, rfl⟩ := rx_cells m3'
          have HN := hide (show (l.take (i + 1)).foldl (fun r x => if r.1 then walkE n x d1 r.2 else r) (true, N + 1, max D d) = walkE n x d1 (N', D') from by
            rw [take_at hx, List.foldl_append, HFI.out]; rfl)
          have HSTOP := hide (show (walkE n x d1 (N', D')).1 = false → l.foldl (fun r x => if r.1 then walkE n x d1 r.2 else r) (true, N + 1, max D d) = walkE n x d1 (N', D') from fun q => by
            rw [← List.take_append_drop (i + 1) l, List.foldl_append, HN.out]; exact fold_no _ _ _ q)
          have HX3 := hide m3'
          have i3 : (0 : Int) ≤ (i : Int) := by omega
          have i4 : (i : Int) < (len : Int) := by omega
          have HG2 := hide (show Go2 w0 (wr.alloc (.cells #[.int .u8 kx, .int .u16 sx, .slice ax lx cx] 55)) p q N' D' from ⟨HGI.out.1.alloc HGI.out.1.size _, cn_alloc HGI.out.2.1 _, cn_alloc HGI.out.2.2 _⟩)
          clear m0' m1' m2' m3' m3 hx hx' HGI
          go_wp2_with fail
          refine (ih x _ d1 N' D' _ hN' hD' hd13 HX3.out HG2.out).mono ?_
          rintro e w2 ⟨rfl, hg2⟩
          have HG3 := hide hg2
          clear hg2 HG2
          cases hr : (walkE n x d1 (N', D')).1 with
          | true =>
            have HR := hide hr
            clear hr
            go_wp2
            go_roundw
            case rel => exact ⟨i + 1, (walkE n x d1 (N', D')).2.1, (walkE n x d1 (N', D')).2.2, by omega, by go_num, by rw [HN.out]; exact Prod.ext HR.out rfl, HG3.out⟩
            case measure => simp [intOf]; omega
          | false =>
            have HR := hide hr
            clear hr
            go_wp2
            go_ret
            exact ⟨by rw [HF.out, HSTOP.out HR.out, HR.out]; rfl, by rw [HF.out, HSTOP.out HR.out]; exact HG3.out⟩
        · have e : i = len := by omega
          subst e
          have HT := hide (show l.take i = l from List.take_of_length_le (by have := HL6.out; omega))
          go_wp2
          go_ret
          rw [HF.out]
          have := HFI.out
          rw [HT.out] at this
          rw [this]
          exact ⟨rfl, HGI.out⟩
end Go.Proofs.YtbbfjjjnifomgaaGreatDoor.A


