/- The document's Build, of more expressions than may be. -/
import Derived.Test.YtccaknabpnpjaaaGreatDoorEd
namespace Go.Proofs.YtccaknabpnpjaaaGreatDoor.A
open Go.RowKit
set_option linter.unusedVariables false

set_option maxRecDepth 100000 in
set_option maxHeartbeats 3200000 in
theorem dbuild_big (n : Nat) (hn : n ≤ 900) (a : Option Addr) (len cap : Nat) (l : List (Ex n)) (w : World) (hl : len ≤ maxLen) (hbig : 16 < len) (h6 : l.length = 16) (hkids : Kids w n a 16 l) :
    Calls Tryz.prog 24 #[.slice a len cap] w fun e w' => e = .returned noD ∧ Below w.heap.size w w' := by
  have hb0 := ((Below.refl w.heap.size w).alloc (Nat.le_refl _) (.cells #[.slice none 0 0, .slice none 0 0, .slice none 0 0, .slice none 0 0] 55))
  have HB0 := hide hb0
  have HN4 := hide (nil4 w)
  have HFUL := hide (kids_full hkids h6)
  have HK := hide (kids_below hb0 hkids)
  have HL6 := hide h6
  clear hkids h6 hb0
  unfold maxLen at hl
  go_enter Tryz.func24, Tryz.ntmps24
  go_wp2_with fail
  generalize w.alloc (.cells #[.slice none 0 0, .slice none 0 0, .slice none 0 0, .slice none 0 0] 55) = W at *
  generalize hQ : w.heap.size = P at *
  have HPW := hide (show P ≤ W.heap.size from by rw [← hQ]; exact HB0.out.size)
  go_loopw [4, 5] (fun u i wr => ∃ (k : Nat), k ≤ len ∧ k ≤ 16 ∧ i = .int .i64 k ∧ u = .int .i64 (posE 1 l k : Nat) ∧ (∀ x ∈ l.take k, rightE n x = true) ∧ posE 1 l k ≤ 1 + 200 * k ∧ Below W.heap.size W wr) (fun _ i _ => len - (intOf i).toNat)
  case atStart => exact ⟨0, Nat.zero_le _, by omega, rfl, by simp [posE], fun x hx => by simp at hx, by simp [posE], Below.refl _ _⟩
  case round =>
    obtain ⟨k, hk, hk16, rfl, rfl, hall, hpb, hb⟩ := hrel
    have HALL := hide hall
    have HBW := hide hb
    have HBU := hide (HB0.out.trans (hb.mono HPW.out))
    have h29 := (hb.block P (Array.getElem?_eq_some_iff.1 HN4.out).1).trans HN4.out
    obtain ⟨⟨q0, q1, q2, q3⟩, qz⟩ := blk29 h29
    have y0 := qz 0
    have y1 := qz 1
    have y2 := qz 2
    have y3 := qz 3
    have HWF := hide (set4 (x := .slice none 0 0) (y := .slice none 0 0) (z := .slice none 0 0) (u := .slice none 0 0) h29)
    have HBF := hide (below_set4 (x := .slice none 0 0) (y := .slice none 0 0) (z := .slice none 0 0) (u := .slice none 0 0) HBU.out (Nat.le_refl P))
    clear hall hb h29 qz
    by_cases hlt : k < len
    · by_cases h15 : 15 < k
      · have d1 : decide ((15 : Int) < (k : Int)) = true := by simp; omega
        go_wp2
        obtain ⟨⟨m0, m1, m2, m3⟩, -⟩ := blk29 HWF.out
        refine bodyPost_ret (v := noD) (by simp [noD, results, Tryz.results24, go_sem, m0, m1, m2, m3]) rfl ?_
        exact ⟨rfl, by rw [hQ]; exact HBF.out⟩
      · have d1 : decide ((15 : Int) < (k : Int)) = false := by simp; omega
        obtain ⟨x, b, off, c0, c1, c2, rfl, hx, k0, k1, k2, k3⟩ := HK.out wr HBW.out k (by omega)
        have HX3 := hide k3
        have HXX := hide hx
        have i3 : (0 : Int) ≤ (k : Int) := by omega
        have i4 : (k : Int) < (len : Int) := by omega
        clear hx k3
        go_wp2_with fail
        refine (rright_any n x _ wr (by omega) HX3.out).mono ?_
        rintro e w2 ⟨rfl, hb2⟩
        cases hr : rightE n x
        · have h29 := (hb2.block P (by have := cell_lt q0; exact this)).trans (show wr.heap[P]? = some (.cells #[.slice none 0 0, .slice none 0 0, .slice none 0 0, .slice none 0 0] 55 (0, 0)) from (HBW.out.block P (Array.getElem?_eq_some_iff.1 HN4.out).1).trans HN4.out)
          clear q0 q1 q2 q3 y0 y1 y2 y3 HWF HBF
          obtain ⟨⟨q0, q1, q2, q3⟩, qz⟩ := blk29 h29
          have y0 := qz 0
          have y1 := qz 1
          have y2 := qz 2
          have y3 := qz 3
          have HWF := hide (set4 (x := .slice none 0 0) (y := .slice none 0 0) (z := .slice none 0 0) (u := .slice none 0 0) h29)
          have HBF := hide (below_set4 (x := .slice none 0 0) (y := .slice none 0 0) (z := .slice none 0 0) (u := .slice none 0 0) (HBU.out.trans (hb2.mono (by have := HBU.out.size; rw [hQ] at this; exact this))) (Nat.le_refl P))
          clear hr h29 qz hb2 k0 k1 k2
          go_wp2
          obtain ⟨⟨m0, m1, m2, m3⟩, -⟩ := blk29 HWF.out
          refine bodyPost_ret (v := noD) (by simp [noD, results, Tryz.results24, go_sem, m0, m1, m2, m3]) rfl ?_
          exact ⟨rfl, by rw [hQ]; exact HBF.out⟩
        · have hrr := (right_iff (HFUL.out x (List.mem_of_getElem? HXX.out))).1 hr
          have HB2 := hide (HBW.out.trans (hb2.mono HBW.out.size))
          have HX4 := hide (rx_below hb2 n x _ HX3.out)
          have HRX := hide hr
          have r0 := (hb2.cell (p := ⟨b, off + k * 3, none⟩) (cell_lt k0)).trans k0
          have r1 := (hb2.cell (p := ⟨b, off + k * 3 + 1, none⟩) (cell_lt k1)).trans k1
          have r2 := (hb2.cell (p := ⟨b, off + k * 3 + 2, none⟩) (cell_lt k2)).trans k2
          have hnd := (nodes_real n x).1 (by omega)
          have hpn := pos_next (s := 1) HXX.out
          have HPN := hide hpn
          clear hr hb2 k0 k1 k2 q0 q1 q2 q3 y0 y1 y2 y3 HWF HBF
          obtain ⟨pk, hpk⟩ : ∃ pk, posE 1 l k = pk := ⟨_, rfl⟩
          obtain ⟨r, hr'⟩ : ∃ r, realN n x = r := ⟨_, rfl⟩
          rw [hpk] at hpn hpb HPN ⊢
          rw [hr'] at hpn hnd hrr HPN
          have hr100 : r ≤ 100 := by omega
          obtain ⟨tt, ett⟩ : ∃ tt : Nat, (pk : Int) + 2 * (r : Int) = (tt : Int) := ⟨pk + 2 * r, by omega⟩
          have HTT := hide (show tt = pk + 2 * r by omega)
          clear hpk hr' hrr
          go_wp2_with fail
          refine (rnodes_any n x _ w2 (by omega) HX4.out).mono ?_
          rintro e w3 ⟨rfl, hb3⟩
          rw [hnd]
          have HB3 := hide (HB2.out.trans (hb3.mono HB2.out.size))
          clear hb3 r0 r1 r2 hnd
          go_wp2
          go_roundw
          case rel => exact ⟨k + 1, by omega, by omega, by go_num, by rw [HPN.out, ← HTT.out], fun y hy => by
            rw [take_at HXX.out, List.mem_append, List.mem_singleton] at hy
            rcases hy with hy | rfl
            · exact HALL.out y hy
            · exact HRX.out, by rw [HPN.out]; omega, HB3.out⟩
          case measure => simp [intOf]; omega
    · omega

set_option maxRecDepth 100000 in
set_option maxHeartbeats 1600000 in
theorem rbuild_big (n : Nat) (hn : n ≤ 900) (a : Option Addr) (len cap : Nat) (l : List (Ex n)) (w : World) (hl : len ≤ maxLen) (hbig : 16 < len) (h6 : l.length = 16) (hkids : Kids w n a 16 l) :
    Calls Tryz.prog 8 #[.slice a len cap] w fun e w' => e = .returned (noDf 1) ∧ Below w.heap.size w w' := by
  have hb0 := (Below.refl w.heap.size w).alloc (Nat.le_refl _) (.cells #[.slice none 0 0, .slice none 0 0] 28)
  have HB0 := hide hb0
  have HN2 := hide (nil2 w)
  have HC := hide (dbuild_big n hn a len cap l _ hl hbig h6 (kids_below hb0 hkids))
  clear hkids h6 hb0
  go_enter Tryz.func8, Tryz.ntmps8
  go_wp2_with fail
  generalize w.alloc (.cells #[.slice none 0 0, .slice none 0 0] 28) = W at *
  refine HC.out.mono ?_
  rintro e w1 ⟨rfl, hb1⟩
  have hbA := hb1.alloc hb1.size (.cells #[.slice none 0 0, .slice none 0 0, .slice none 0 0, .slice none 0 0] 55)
  have h1 := (hbA.block w.heap.size (Array.getElem?_eq_some_iff.1 HN2.out).1).trans HN2.out
  have HB1 := hide (HB0.out.trans (hbA.mono HB0.out.size))
  have HWF := hide (set2 (x := .slice none 0 0) (y := .slice none 0 0) h1)
  have HBF := hide (below_set2 (x := .slice none 0 0) (y := .slice none 0 0) HB1.out (Nat.le_refl w.heap.size))
  obtain ⟨q0, q1, qz⟩ := d_cells h1
  have y0 := qz 0
  have y1 := qz 1
  clear hb1 h1 qz hbA
  unfold noD
  go_wp2
  obtain ⟨m0, m1, -⟩ := d_cells HWF.out
  refine bodyPost_ret (v := noDf 1) (by simp [noDf, results, Tryz.results8, go_sem, m0, m1]) rfl ?_
  exact ⟨rfl, HBF.out⟩
end Go.Proofs.YtccaknabpnpjaaaGreatDoor.A
