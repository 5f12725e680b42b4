/- slices.Reverse. -/
import Derived.Test.YtacfkdjpdgnohaaV
import Derived.Deep.RegionLaw
namespace Go.Proofs.Ytacfkdjpdgnohaa.A
open Go.RowKit

/-- Turned about, as far as so many from both ends. -/
def Half (ys zs : List Nd) (k : Nat) : Prop := zs.length = ys.length ∧ ∀ p, p < ys.length → zs[p]? = if p < k ∨ ys.length ≤ p + k then ys[ys.length - 1 - p]? else ys[p]?
theorem half_start (ys : List Nd) : Half ys ys 0 := ⟨rfl, fun p hp => by rw [if_neg (by omega)]⟩
theorem half_end {ys zs : List Nd} {k : Nat} (h : Half ys zs k) (hk : ys.length ≤ 2 * k + 1) : zs = ys.reverse := by
  apply List.ext_getElem?
  intro p
  by_cases hp : p < ys.length
  · rw [h.2 p hp, List.getElem?_reverse hp]
    by_cases q : p < k ∨ ys.length ≤ p + k
    · rw [if_pos q]
    · rw [if_neg q]; congr 1; omega
  · rw [List.getElem?_eq_none (by have := h.1; omega), List.getElem?_eq_none (by simp; omega)]
theorem half_next {ys zs : List Nd} {k j : Nat} (h : Half ys zs k) (hj : j + k + 1 = ys.length) (hkj : k < j) {x y : Nd} (hx : zs[k]? = some x) (hy : zs[j]? = some y) : Half ys ((zs.set k y).set j x) (k + 1) := by
  refine ⟨by simp [h.1], fun p hp => ?_⟩
  have hl := h.1
  rw [h.2 k (by omega), if_neg (by omega)] at hx
  rw [h.2 j (by omega), if_neg (by omega)] at hy
  by_cases e1 : p = j
  · subst e1
    rw [List.getElem?_set_self (by simp; omega), if_pos (by omega), ← hx]
    congr 1; omega
  · rw [List.getElem?_set_ne (fun q => e1 q.symm)]
    by_cases e2 : p = k
    · subst e2
      rw [List.getElem?_set_self (by omega), if_pos (by omega), ← hy]
      congr 1; omega
    · rw [List.getElem?_set_ne (fun q => e2 q.symm), h.2 p hp]
      by_cases q : p < k ∨ ys.length ≤ p + k
      · rw [if_pos q, if_pos (by omega)]
      · rw [if_neg q, if_neg (by omega)]

theorem grown_trans {a b c : World} {r : Option Nat} (h : a.grownBy b r) (k : b.grownBy c r) : a.grownBy c r := ⟨k.os.trans h.os, k.tape.trans h.tape, k.output.trans h.output, Nat.le_trans h.size k.size, fun i hi hne => (k.block i (Nat.lt_of_lt_of_le hi h.size) hne).trans (h.block i hi hne)⟩
theorem grown_drew {a b : World} {r : Option Nat} (h : a.grownBy b r) : a.grownBy b.drew r := ⟨h.os, h.tape, h.output, h.size, h.block⟩
theorem two_set {zs : List Nd} {k j : Nat} {x y : Nd} (hk : k < zs.length) (hj : j < zs.length) :
    ((((((cellsN zs).set (k * 3) (.int .u8 y.k)).set (k * 3 + 1) (.int .u16 y.s)).set (k * 3 + 2) (.slice y.a y.l y.c)).set (j * 3) (.int .u8 x.k)).set (j * 3 + 1) (.int .u16 x.s)).set (j * 3 + 2) (.slice x.a x.l x.c) = cellsN ((zs.set k y).set j x) := by
  rw [cellsN_set zs k y hk, cellsN_set _ j x (by simpa using hj)]
set_option maxRecDepth 100000 in
set_option maxHeartbeats 3200000 in
theorem reverse_any (base g n cap : Nat) (ys : List Nd) (w : World) (hn : n ≤ 1000) (h : w.ownsRow base 25 3 (.slice (some ⟨g, 0, none⟩) n cap) n (cellsN ys)) (hl : ys.length = n) :
    Calls Try.prog 36 #[.slice (some ⟨g, 0, none⟩) n cap] w fun e w' => e = .returned (.tuple #[]) ∧ w'.ownsRow base 25 3 (.slice (some ⟨g, 0, none⟩) n cap) n (cellsN ys.reverse) ∧ w.grownBy w' (some g) := by
  have HL := hide hl
  have H0 := hide h
  clear hl h
  go_enter Try.func36, Try.ntmps36
  go_wp2
  go_loopw [2, 3] (fun u v wr => ∃ (k : Nat) (z : Int) (zs : List Nd), u = .int .i64 k ∧ v = .int .i64 z ∧ z = (n : Int) - 1 - k ∧ 2 * k ≤ n ∧ Half ys zs k ∧ wr.ownsRow base 25 3 (.slice (some ⟨g, 0, none⟩) n cap) n (cellsN zs) ∧ w.grownBy wr (some g)) (fun u _ _ => n - (intOf u).toNat)
  case atStart => exact ⟨0, _, ys, rfl, rfl, by omega, by omega, half_start ys, H0.out, ⟨rfl, rfl, rfl, Nat.le_refl _, fun _ _ _ => rfl⟩⟩
  case round =>
    obtain ⟨k, z, zs, rfl, rfl, hz, hk, hh, hown, hg⟩ := hrel
    by_cases hlt : (k : Int) < z
    · obtain ⟨j, rfl⟩ : ∃ j : Nat, z = (j : Int) := ⟨z.toNat, by omega⟩
      have hjk : j + k + 1 = n := by omega
      have hkj : k < j := by omega
      have hzl : zs.length = n := hh.1.trans HL.out
      have hx : zs[k]? = some zs[k] := by simp
      have hy : zs[j]? = some zs[j] := by simp
      have HH := hide (half_next hh (by rw [HL.out]; exact hjk) hkj hx hy)
      have H2 := hide (two_set (x := zs[k]) (y := zs[j]) (k := k) (j := j) (zs := zs) (by omega) (by omega))
      generalize zs[k] = x at *
      generalize zs[j] = y at *
      obtain ⟨x0, x1, x2⟩ := cellsN_at zs k x hx
      obtain ⟨y0, y1, y2⟩ := cellsN_at zs j y hy
      have a0 := (hown.cellAt (k * 3) (by omega)).trans x0
      have a1 := (hown.cellAt (k * 3 + 1) (by omega)).trans x1
      have a2 := (hown.cellAt (k * 3 + 2) (by omega)).trans x2
      have b0 := (hown.cellAt (j * 3) (by omega)).trans y0
      have b1 := (hown.cellAt (j * 3 + 1) (by omega)).trans y1
      have b2 := (hown.cellAt (j * 3 + 2) (by omega)).trans y2
      have f0 := hown.frozenAt (k * 3)
      have f1 := hown.frozenAt (k * 3 + 1)
      have f2 := hown.frozenAt (k * 3 + 2)
      have e0 := hown.frozenAt (j * 3)
      have e1 := hown.frozenAt (j * 3 + 1)
      have e2 := hown.frozenAt (j * 3 + 2)
      have i1 : (0 : Int) ≤ (k : Int) := by omega
      have i2 : (k : Int) < (n : Int) := by omega
      have i3 : (0 : Int) ≤ (j : Int) := by omega
      have i4 : (j : Int) < (n : Int) := by omega
      have HO := hide hown
      have HG := hide hg
      have HJ := hide hjk
      clear hx hy x0 x1 x2 y0 y1 y2 hh hown hg hzl hz hjk
      go_wp2_with fail
      go_region
      go_wp2
      go_roundw
      case rel =>
        refine ⟨k + 1, (j : Int) - 1, (zs.set k y).set j x, by go_num, rfl, by have := HJ.out; omega, by have := HJ.out; omega, HH.out, ?_, ?_⟩
        · rw [← H2.out]
          exact (((((((HO.out.stored _ _).1.stored _ _).1.stored _ _).1.stored _ _).1.stored _ _).1.stored _ _).1).drew
        · exact grown_drew (grown_trans (grown_trans (grown_trans (grown_trans (grown_trans (grown_trans HG.out (HO.out.stored _ _).2) ((HO.out.stored _ _).1.stored _ _).2) (((HO.out.stored _ _).1.stored _ _).1.stored _ _).2) ((((HO.out.stored _ _).1.stored _ _).1.stored _ _).1.stored _ _).2) (((((HO.out.stored _ _).1.stored _ _).1.stored _ _).1.stored _ _).1.stored _ _).2) ((((((HO.out.stored _ _).1.stored _ _).1.stored _ _).1.stored _ _).1.stored _ _).1.stored _ _).2)
      case measure => simp [intOf]; omega
    · have HE := hide (half_end hh (by rw [HL.out]; omega))
      have HO := hide hown
      clear hh hown
      go_wp2
      exact bodyPost_end (v := .tuple #[]) (by simp [results, Try.results36, go_sem]) rfl ⟨rfl, by rw [← HE.out]; exact HO.out, hg⟩
end Go.Proofs.Ytacfkdjpdgnohaa.A
