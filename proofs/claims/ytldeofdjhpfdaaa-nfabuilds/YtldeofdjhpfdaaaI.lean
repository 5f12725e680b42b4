/- The document's Ends: one of several. -/
import Derived.Test.YtldeofdjhpfdaaaH
import Derived.Deep.Heap
namespace Go.Proofs.Ytldeofdjhpfdaaa.A
open Go.RowKit

theorem mk_other {wr : World} {C n : Nat} {g : Nat → Bool} (d : Mk wr C n g) {B : Nat} (h : C ≠ B) (p : Nat) (v : Value) : Mk (wr.setCell ⟨B, p, none⟩ v) C n g := by
  unfold Mk at *
  rw [Go.Deep.blk_setCell_other _ _ _ _ h]; exact d
/-- Marks joined as far as a place. -/
def orB (A X : Nat → Bool) (k j : Nat) : Bool := A j || (decide (j < k) && X j)
theorem orB_set (A X : Nat → Bool) (k j : Nat) : (if j = k then (A k || X k) else orB A X k j) = orB A X (k + 1) j := by
  by_cases e : j = k
  · subst e; simp [orB]
  · rw [if_neg e]
    unfold orB
    rw [show decide (j < k + 1) = decide (j < k) from by by_cases q : j < k <;> simp [q] <;> omega]
theorem orB_here (A X : Nat → Bool) (k : Nat) : orB A X k k = A k := by simp [orB]
theorem orB_all (A X : Nat → Bool) {N j : Nat} (h : j < N) : orB A X N j = (A j || X j) := by simp [orB, h]
/-- What the first parts tell. -/
def anyB (word : List Int) (n : Nat) (l : List (Ex n)) (o : Nat → Bool) (p : Nat) : Bool := l.any (fun x => endsE word n x o p)

set_option maxRecDepth 100000 in
set_option maxHeartbeats 3200000 in
theorem ends_k3 (word : List Int) (n : Nat) (ih : ∀ x : Ex n, EndsOf word n x) (ss : Int) (y a : Option Addr) (len ycap : Nat) (l : List (Ex n)) (L N cap F : Nat) (o : Nat → Bool) (w : World) (hw : word.length = L) (hN : (L : Int) + 1 = (N : Int)) (hL : L ≤ 1000)
    (hF : Mk w F N o) (hW : Wd w a word) (hlen : len ≤ maxLen) (hl : l.length = len) (hkids : Kids w n y len l) (hsh : ∀ x ∈ l, shapesE n x = true) :
    Calls Try.prog 41 #[.agg #[.int .u8 3, .int .u16 ss, .slice y len ycap], .slice a L cap, .slice (some ⟨F, 0, none⟩) N N] w fun e w' => Gives w N (anyB word n l o) e w' := by
  have hmk : ∀ w, (Instr.makeSlice 42 (.int .i64 (N : Int)) (.int .i64 (N : Int))).run Try.prog w = .ok (.slice (some ⟨w.heap.size, 0, none⟩) N N) (w.alloc (.cells (rowB N fun _ => false) 4)) := make39 N (by omega)
  unfold maxLen at hlen
  have HF := hide hF
  have HFL := hide (mk_lt hF)
  have HW := hide hW
  have HWL := hide hw
  have HK := hide hkids
  have HS := hide hsh
  have HLL := hide hl
  clear hF hW hw hkids hsh hl
  obtain ⟨p0, p1, p2⟩ := box3 w (.int .u8 3) (.int .u16 ss) (.slice y len ycap) 51
  have HB0 := hide ((Below.refl w.heap.size w).alloc (Nat.le_refl _) (.cells #[.int .u8 3, .int .u16 ss, .slice y len ycap] 51))
  go_enter Try.func41, Try.ntmps41
  go_wp2_with fail
  have hm0 : Mk ((w.alloc (.cells #[.int .u8 3, .int .u16 ss, .slice y len ycap] 51)).alloc (.cells (rowB N fun _ => false) 4)) (w.heap.size + 1) N (anyB word n (l.take 0) o) := mk_congr (g := fun _ => false) (mk_new _ _ _) (by simp [anyB])
  have hb0 := HB0.out.alloc (by simp) (.cells (rowB N fun _ => false) 4)
  have hp2 := (box_then w (.cells #[.int .u8 3, .int .u16 ss, .slice y len ycap] 51) (.cells (rowB N fun _ => false) 4) 2).trans p2
  clear hmk p0 p1 p2 HB0
  generalize (w.alloc (.cells #[.int .u8 3, .int .u16 ss, .slice y len ycap] 51)).alloc (.cells (rowB N fun _ => false) 4) = W0 at *
  generalize hB : w.heap.size = B at *
  go_loopw [12] (fun i wr => ∃ j : Nat, j ≤ len ∧ i = .int .i64 j ∧ Mk wr (B + 1) N (anyB word n (l.take j) o) ∧ Below B w wr ∧ Below (B + 1) W0 wr) (fun i _ => len - (intOf i).toNat)
  case atStart => exact ⟨0, Nat.zero_le _, rfl, hm0, hb0, Below.refl _ _⟩
  case round =>
    obtain ⟨j, hj, rfl, hm, hb, hb2⟩ := hrel
    clear hm0 hb0
    have r2 := (hb2.cell (p := ⟨B, 2, none⟩) (Nat.lt_succ_self _)).trans hp2
    clear hp2
    by_cases hlt2 : j < len
    · obtain ⟨x, b, off, c0, c1, c2, rfl, hx, k0, k1, k2, k3⟩ := HK.out wr (hB ▸ hb) j hlt2
      have HX := hide (HS.out x (List.mem_of_getElem? hx))
      have HT := hide (show ∀ p, (anyB word n (l.take j) o p || endsE word n x o p) = anyB word n (l.take (j + 1)) o p from fun p => by unfold anyB; rw [take_at hx, List.any_append]; simp)
      have HK3 := hide k3
      have HM := hide hm
      have HB1 := hide hb
      have HB2 := hide hb2
      have HWd := hide (wd_below (hB ▸ hb) HW.out)
      have HFd := hide (mk_below HFL.out hb HF.out)
      have i3 : (0 : Int) ≤ (j : Int) := by omega
      have i4 : (j : Int) < (len : Int) := by omega
      have HSZ := hide (show B + 1 < wr.heap.size from mk_lt hm)
      clear hx k3 hm hb hb2
      go_wp2_with fail
      refine (ih x _ a L N cap F _ wr HWL.out hN hL HK3.out HX.out HWd.out HFd.out).mono ?_
      rintro e w2 ⟨C2, hC2, rfl, hm2, hb3⟩
      have hC3 : C2 ≠ B + 1 := by have := HSZ.out; omega
      have HA := hide (mk_below HSZ.out hb3 HM.out)
      have HM2 := hide hm2
      have HB3 := hide (HB1.out.trans (hb3.mono (by have := HSZ.out; omega)))
      have HB4 := hide (HB2.out.trans (hb3.mono (by have := HSZ.out; omega)))
      clear hm2 hb3 k0 k1 k2 r2 HM HB1 HB2 HWd HFd HK3 hC2 HSZ
      generalize anyB word n (l.take j) o = A at *
      generalize endsE word n x o = X at *
      go_wp2_with fail
      go_loopw [14] (fun u wi => ∃ p : Nat, p ≤ N ∧ u = .int .i64 p ∧ Mk wi (B + 1) N (orB A X p) ∧ Mk wi C2 N X ∧ Below B w wi ∧ Below (B + 1) W0 wi) (fun u _ => N - (intOf u).toNat)
      case atStart => exact ⟨0, Nat.zero_le _, rfl, mk_congr HA.out (fun q _ => by simp [orB]), HM2.out, HB3.out, HB4.out⟩
      case round =>
        obtain ⟨p, hp, rfl, hm, hmx, hb, hb2⟩ := hrel
        clear HA HM2 HB3 HB4
        by_cases hlt : p < N
        · obtain ⟨m0, m1⟩ := mk_cell hm hlt
          obtain ⟨f0, _⟩ := mk_cell hmx hlt
          rw [orB_here] at m0
          have HO := hide (orB_set A X p)
          have HM := hide hm
          have HMX := hide hmx
          have i1 : (0 : Int) ≤ (p : Int) := by omega
          have i2 : (p : Int) < (N : Int) := by omega
          clear hm hmx
          cases hA : A p
          · rw [hA] at m0
            rw [hA, Bool.false_or] at HO
            clear hA
            go_wp2
            go_roundw
            case rel => exact ⟨p + 1, by omega, by go_num, mk_congr (mk_set HM.out hlt (X p)) (fun q _ => HO.out q), mk_other HMX.out hC3 _ _, hb.setCell (by simp) _, hb2.setCell (by simp) _⟩
            case measure => simp [intOf]; omega
          · rw [hA] at m0
            rw [hA, Bool.true_or] at HO
            clear hA
            go_wp2
            go_roundw
            case rel => exact ⟨p + 1, by omega, by go_num, mk_congr (mk_set HM.out hlt true) (fun q _ => HO.out q), mk_other HMX.out hC3 _ _, hb.setCell (by simp) _, hb2.setCell (by simp) _⟩
            case measure => simp [intOf]; omega
        · have e : p = N := by omega
          subst e
          go_wp2
          go_roundw
          case rel => exact ⟨j + 1, by omega, by go_num, mk_congr hm (fun q hq => by rw [orB_all A X hq]; exact HT.out q), hb, hb2⟩
          case measure => simp [intOf]; omega
    · have e : j = len := by omega
      subst e
      have HM := hide (show Mk wr (B + 1) N (anyB word n l o) from by rw [List.take_of_length_le (by rw [HLL.out]; exact Nat.le_refl _)] at hm; exact hm)
      clear hm
      go_wp2
      go_ret
      exact ⟨B + 1, by omega, rfl, HM.out, by rw [hB]; exact hb⟩
end Go.Proofs.Ytldeofdjhpfdaaa.A
