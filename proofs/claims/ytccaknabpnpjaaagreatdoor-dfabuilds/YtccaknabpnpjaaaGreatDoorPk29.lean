/- What every right program answers: its walk. -/
import Derived.Test.YtccaknabpnpjaaaGreatDoorPk28
namespace Go.Proofs.YtccaknabpnpjaaaGreatDoor.A
open Go.RowKit
set_option linter.unusedVariables false

set_option maxRecDepth 100000 in
set_option maxHeartbeats 3200000 in
theorem alive7_any (m : Int) (w : World) (hm : w.cell? ⟨0, 0, none⟩ = some (.int .i64 m)) (ht : Tab w.heap.size w) : Calls Tryz.prog 5 #[] w fun e w' => e = .returned (.bool true) ∧ Below w.heap.size w w' := by
  obtain ⟨x0, hp, hmay, hpos, hen, h1, h2, h3⟩ := tx7_rule
  have HP := hide (show Calls Tryz.prog 13 #[.string { data := #[97, 58, 32, 67, 40, 72, 67, 41, 42] }] w fun e w' => ∃ a cap, e = .returned (.tuple #[.slice a 1 cap, .int .i64 0, .int .i64 0]) ∧ 1 ≤ cap ∧ cap ≤ maxLen ∧ Rs w' a 1 [x0] ∧ Below w.heap.size w w' from by
    refine (parse_any tx7 m w (by decide) hm).mono ?_
    intro e w' hout
    rw [hp] at hout
    obtain ⟨a, len, cap, rfl, h1, h2, h3, h4⟩ := hout
    have e : len = 1 := h3.1.symm
    subst e
    exact ⟨a, cap, rfl, h1, h2, h3, h4⟩)
  have HMAY := hide hmay
  have HPOS := hide hpos
  have HEN := hide hen
  have HLS := hide (And.intro h1 (And.intro h2 h3))
  have HT := hide ht
  clear hp hmay hpos hen h1 h2 h3 hm ht
  go_enter Tryz.func5, Tryz.ntmps5
  go_wp2_with fail
  refine HP.out.mono ?_
  rintro e w1 ⟨a, cap, rfl, hc1, hc2, hrs, hb1⟩
  obtain ⟨y0, b, off, k, s, a', l', c, rfl, hy0, p0, p1, p2, p3, p4, p5, p6⟩ := rs_open hrs (i := 0) (by omega)
  have e0 : x0 = y0 := by simpa using hy0
  subst e0
  simp only [Nat.zero_mul, Nat.add_zero] at p1 p2 p3
  have hkd := one_kids7 w1 p6
  obtain ⟨-, -, hful, hsh⟩ := may_open HMAY.out hkd rfl
  have HKD := hide hkd
  have HIS := hide (show Is (FrA [x0.t]) (SpA [x0.t]) 13 fs7 ss7 ts7 from by
    have := lists_is (fun x hx => ⟨hful x hx, hsh x hx⟩) 13
    rw [HLS.out.1, HLS.out.2.1, HLS.out.2.2] at this
    exact this)
  have HB1 := hide (hb1.alloc hb1.size (.cells #[.int .u8 k, .int .u16 s, .slice a' l' c] 38))
  have HT1 := hide (tab_up (tab_on HT.out HB1.out) HB1.out.size)
  obtain ⟨tr, htr⟩ := tr_is fs7 ss7 ts7 13
  have HTR := hide htr
  clear hrs hb1 hy0 p0 p4 p5 p6 hkd hful hsh HP htr HT
  go_wp2_with fail
  clear p1 p2 p3
  generalize w1.alloc (.cells #[.int .u8 k, .int .u16 s, .slice a' l' c] 38) = W1 at *
  generalize w1.heap.size = z1 at *
  refine ((dbuild_yes7 _ _ 1 1 [x0.t] W1 (by decide) rfl HKD.out HMAY.out fs7 ss7 ts7 rs7 13 tr (fun j => [0, 1, 2].contains j) HIS.out (rs7_is HEN.out) rfl HPOS.out.symm HTR.out (chk_is chk0) HT1.out).mono (fun _ _ => out7 HTR.out)).mono ?_
  rintro e w2 ⟨b0, b1, d0, d1, rfl, hdm, hb2⟩
  have HD2 := hide hdm
  have HB2 := hide (HB1.out.trans (hb2.mono HB1.out.size))
  clear hdm hb2
  have hbx := heap_alloc_last w2 (.cells #[.slice b0 4 d0, .slice b1 4 d1] 28)
  have HBX := hide hbx
  have HDA := hide (dm_below' ((Below.refl w2.heap.size w2).alloc (Nat.le_refl _) (.cells #[.slice b0 4 d0, .slice b1 4 d1] 28)) HD2.out)
  have HBA := hide (HB2.out.alloc HB2.out.size (.cells #[.slice b0 4 d0, .slice b1 4 d1] 28))
  clear hbx
  have hs2 : (w2.alloc (.cells #[.slice b0 4 d0, .slice b1 4 d1] 28)).heap.size = w2.heap.size + 1 := by simp
  have HS2 := hide hs2
  clear hs2
  go_wp2_with fail
  generalize w2.alloc (.cells #[.slice b0 4 d0, .slice b1 4 d1] 28) = W2 at *
  generalize w2.heap.size = z2 at *
  have hw4 := four_wd W2 1 4 1 4
  rw [HS2.out] at hw4
  have HW4 := hide hw4
  clear hw4
  have hbA := (Below.refl W2.heap.size W2).alloc (Nat.le_refl _) (.cells #[.int .i64 1, .int .i64 4, .int .i64 1, .int .i64 4] 3)
  refine (long7_any b0 b1 _ d0 d1 _ (dm_below' hbA HDA.out) HW4.out).mono ?_
  rintro e w3 ⟨rfl, hb3⟩
  have h3 := (hbA.trans (hb3.mono hbA.size))
  have HD3 := hide (dm_below' h3 HDA.out)
  have hx3 := (h3.block z2 (Array.getElem?_eq_some_iff.1 HBX.out).1).trans HBX.out
  have HB3 := hide (HBA.out.trans (h3.mono HBA.out.size))
  have HX3 := hide hx3
  obtain ⟨p0, p1, -⟩ := d_cells hx3
  clear hbA hb3 h3 hx3 HW4
  go_wp2_with fail
  refine (right7_any b0 b1 d0 d1 w3 HD3.out).mono ?_
  rintro e w4 ⟨rfl, hb4⟩
  have HD4 := hide (dm_below' hb4 HD3.out)
  have hx4 := (hb4.block z2 (Array.getElem?_eq_some_iff.1 HX3.out).1).trans HX3.out
  have HB4 := hide (HB3.out.trans (hb4.mono HB3.out.size))
  have HX4 := hide hx4
  clear p0 p1 hb4 hx4
  obtain ⟨p0, p1, -⟩ := d_cells HX4.out
  go_wp2_with fail
  have HW3 := hide (three_wd w4 1 4 1)
  have hbA := (Below.refl w4.heap.size w4).alloc (Nat.le_refl _) (.cells #[.int .i64 1, .int .i64 4, .int .i64 1] 3)
  refine (mat7_any b0 b1 _ d0 d1 _ (dm_below' hbA HD4.out) HW3.out).mono ?_
  rintro e w5 ⟨rfl, hb5⟩
  have h5 := (hbA.trans (hb5.mono hbA.size))
  have HD5 := hide (dm_below' h5 HD4.out)
  have hx5 := (h5.block z2 (Array.getElem?_eq_some_iff.1 HX4.out).1).trans HX4.out
  have HB5 := hide (HB4.out.trans (h5.mono HB4.out.size))
  clear p0 p1
  obtain ⟨p0, p1, -⟩ := d_cells hx5
  clear hbA hb5 h5 hx5 HW3
  go_wp2_with fail
  have HW1 := hide (wd_one w5 4)
  have hbA := (Below.refl w5.heap.size w5).alloc (Nat.le_refl _) (.cells #[.int .i64 4] 3)
  refine (run7_any b0 b1 _ d0 d1 _ (dm_below' hbA HD5.out) HW1.out).mono ?_
  rintro e w6 ⟨rfl, hb6⟩
  have HB6 := hide (HB5.out.trans ((hbA.trans (hb6.mono hbA.size)).mono HB5.out.size))
  clear p0 p1 hbA hb6 HW1
  go_wp2
  go_ret
  exact ⟨rfl, HB6.out⟩
end Go.Proofs.YtccaknabpnpjaaaGreatDoor.A
