/- The law's example, as the program tells it: what every right program answers. -/
import Derived.Test.YthkollnlmnbidaaGn
import Derived.Test.YthkollnlmnbidaaBm
namespace Go.Proofs.Ythkollnlmnbidaa.A
open Go.RowKit Go.Maps
set_option linter.unusedVariables false

theorem right_E : rightD nxE ruE = true := by decide +kernel
theorem len_E : ∀ x ∈ nxE, x.length = 16 := by decide +kernel
theorem mx_E : Mx nxE ruE 4 := mx_of right_E len_E
def aE (i k : Nat) : Bool := decide (i % 2 = k % 2)
def gE (_ : Nat) : Bool := true
theorem steps_E : ∀ c : Nat, c < 16 → (stepF nxE 1 c = stepF nxE 3 c) ∧ ((stepF nxE 0 c = 1 ∧ stepF nxE 2 c = 3) ∨ (stepF nxE 0 c = -1 ∧ stepF nxE 2 c = -1)) := by decide +kernel
theorem alk_E : ∀ word : List Nat, outc nxE ruE 0 word = outc nxE ruE 2 word ∧ outc nxE ruE 1 word = outc nxE ruE 3 word
  | [] => by decide +kernel
  | c :: r => by
    obtain ⟨h1, h2⟩ := alk_E r
    by_cases hc : c < 16
    · obtain ⟨s1, s2⟩ := steps_E c hc
      refine ⟨?_, ?_⟩
      · show outc nxE ruE (stepF nxE 0 c) r = outc nxE ruE (stepF nxE 2 c) r
        rcases s2 with ⟨a, b⟩ | ⟨a, b⟩
        · rw [a, b]; exact h2
        · rw [a, b]
      · show outc nxE ruE (stepF nxE 1 c) r = outc nxE ruE (stepF nxE 3 c) r
        rw [s1]
    · have f : ∀ a : Int, stepF nxE a c = -1 := fun a => step_far (by omega)
      refine ⟨?_, ?_⟩
      · show outc nxE ruE (stepF nxE 0 c) r = outc nxE ruE (stepF nxE 2 c) r
        rw [f, f]
      · show outc nxE ruE (stepF nxE 1 c) r = outc nxE ruE (stepF nxE 3 c) r
        rw [f, f]
theorem empty_E : outc nxE ruE 0 [] = -1 ∧ outc nxE ruE 1 [] = 0 ∧ outc nxE ruE 2 [] = -1 ∧ outc nxE ruE 3 [] = 0 ∧ outc nxE ruE 0 [1] = 0 ∧ outc nxE ruE 2 [1] = 0 := by decide +kernel
theorem alk_rule {i k : Int} (h : Alk nxE ruE i k) : outc nxE ruE i [] = outc nxE ruE k [] := h []
theorem isAlk_E : IsAlk nxE ruE 4 aE := fun i k hi hk => by
  obtain ⟨e0, e1, e2, e3, -, -⟩ := empty_E
  have a02 : Alk nxE ruE (0 : Int) 2 := fun w => (alk_E w).1
  have a13 : Alk nxE ruE (1 : Int) 3 := fun w => (alk_E w).2
  have n01 : ¬ Alk nxE ruE (0 : Int) 1 := fun h => by have := h []; rw [e0, e1] at this; cases this
  have n03 : ¬ Alk nxE ruE (0 : Int) 3 := fun h => by have := h []; rw [e0, e3] at this; cases this
  have n21 : ¬ Alk nxE ruE (2 : Int) 1 := fun h => by have := h []; rw [e2, e1] at this; cases this
  have n23 : ¬ Alk nxE ruE (2 : Int) 3 := fun h => by have := h []; rw [e2, e3] at this; cases this
  have hi' : i = 0 ∨ i = 1 ∨ i = 2 ∨ i = 3 := by omega
  have hk' : k = 0 ∨ k = 1 ∨ k = 2 ∨ k = 3 := by omega
  rcases hi' with rfl | rfl | rfl | rfl <;> rcases hk' with rfl | rfl | rfl | rfl
  · exact ⟨fun _ => alk_refl _ _ _, fun _ => rfl⟩
  · exact ⟨fun h => absurd h (by decide), fun h => absurd h n01⟩
  · exact ⟨fun _ => a02, fun _ => rfl⟩
  · exact ⟨fun h => absurd h (by decide), fun h => absurd h n03⟩
  · exact ⟨fun h => absurd h (by decide), fun h => absurd (alk_symm h) n01⟩
  · exact ⟨fun _ => alk_refl _ _ _, fun _ => rfl⟩
  · exact ⟨fun h => absurd h (by decide), fun h => absurd (alk_symm h) n21⟩
  · exact ⟨fun _ => a13, fun _ => rfl⟩
  · exact ⟨fun _ => alk_symm a02, fun _ => rfl⟩
  · exact ⟨fun h => absurd h (by decide), fun h => absurd h n21⟩
  · exact ⟨fun _ => alk_refl _ _ _, fun _ => rfl⟩
  · exact ⟨fun h => absurd h (by decide), fun h => absurd h n23⟩
  · exact ⟨fun h => absurd h (by decide), fun h => absurd (alk_symm h) n03⟩
  · exact ⟨fun _ => alk_symm a13, fun _ => rfl⟩
  · exact ⟨fun h => absurd h (by decide), fun h => absurd (alk_symm h) n23⟩
  · exact ⟨fun _ => alk_refl _ _ _, fun _ => rfl⟩
theorem isLive_E : IsLive nxE ruE 4 gE := fun i hi => by
  obtain ⟨-, e1, -, e3, e0, e2⟩ := empty_E
  refine ⟨fun _ => ?_, fun _ => rfl⟩
  have hi' : i = 0 ∨ i = 1 ∨ i = 2 ∨ i = 3 := by omega
  rcases hi' with rfl | rfl | rfl | rfl
  · exact ⟨[1], by show 0 ≤ outc nxE ruE 0 [1]; rw [e0]; omega⟩
  · exact ⟨[], by show 0 ≤ outc nxE ruE 1 []; rw [e1]; omega⟩
  · exact ⟨[1], by show 0 ≤ outc nxE ruE 2 [1]; rw [e2]; omega⟩
  · exact ⟨[], by show 0 ≤ outc nxE ruE 3 []; rw [e3]; omega⟩
theorem cl_E : Cl nxE ruE 4 aE gE := ⟨mx_E, isAlk_E, isLive_E⟩
theorem two_E : (smF nxE ruE 4 aE gE 201).2.1.length = 2 := by decide +kernel
theorem eqo_refl (nx : List (List Int)) (ru : List Int) (a : Int) : Eqo nx ru nx ru a a := fun _ => rfl
theorem al1' (w : World) (o : Obj) : Below w.heap.size w (w.alloc o) := (Below.refl _ _).alloc (Nat.le_refl _) o
theorem smM_one {nx : List (List Int)} {ru : List Int} {n M : Nat} {x y : List (List Int)} {r s : List Int} (h : SmM nx ru n M x r) (h' : SmM nx ru n M y s) : x = y ∧ r = s := by
  obtain ⟨A, g, hc, rfl, rfl⟩ := h
  obtain ⟨A', g', hc', rfl, rfl⟩ := h'
  have h1 := sm_same hc hc' (eqo_refl nx ru 0) M
  exact ⟨congrArg Prod.fst h1, congrArg Prod.snd h1⟩
theorem smM_E {M : Nat} (hM : M = 201) {x : List (List Int)} {r : List Int} (h : SmM nxE ruE 4 M x r) : x.length = 2 := by
  have h1 := (smM_one h ⟨aE, gE, cl_E, rfl, rfl⟩).1
  rw [h1, hM]
  exact two_E

set_option maxRecDepth 100000 in
set_option maxHeartbeats 3200000 in
theorem alive_any (hsame : SameYes) (M : Nat) (hM : M = 201) (w : World) : Calls Try.prog 8 #[] w fun e w' => e = .returned (.bool true) ∧ Below w.heap.size w w' := by
  have HSM := hide hsame
  have HMM := hide hM
  have HME := hide mx_E
  have HRE := hide right_E
  clear hsame hM
  go_enter Try.func8, Try.ntmps8
  go_wp2_with fail
  refine (example_any w).mono ?_
  rintro e w1 ⟨b0, b1, d0, d1, rfl, hdr, hwd, hb1⟩
  have hd1 : Dm w1 b0 b1 4 4 nxE ruE := ⟨rfl, rfl, hdr, hwd, by unfold maxLen; omega, by unfold maxLen; omega⟩
  have HBX := hide (heap_alloc_last w1 (.cells #[.slice b0 4 d0, .slice b1 4 d1] 25))
  have HB1 := hide (hb1.alloc hb1.size (.cells #[.slice b0 4 d0, .slice b1 4 d1] 25))
  have HD1 := hide (dm_below' (al1' w1 (.cells #[.slice b0 4 d0, .slice b1 4 d1] 25)) hd1)
  have HP := hide (show w.heap.size ≤ w1.heap.size from hb1.size)
  clear hdr hwd hb1 hd1
  go_wp2_with fail
  generalize hW2 : w1.alloc (.cells #[.slice b0 4 d0, .slice b1 4 d1] 25) = W2 at *
  have hlt2 : w1.heap.size < W2.heap.size := by rw [← hW2]; simp
  generalize w1.heap.size = P at *
  refine (malike_yes b0 b1 4 d0 d1 nxE ruE W2 HD1.out HRE.out HME.out).mono ?_
  rintro e w3 ⟨A, T, hal, rfl, htm, hT, hb3⟩
  have HA := hide (fun i k (hi : i < 4) (hk : k < 4) => isAlk_one hal isAlk_E i k hi hk)
  have HB3 := hide (HB1.out.trans (hb3.mono HB1.out.size))
  have HW := hide (show ∀ wr, Below w3.heap.size w3 wr → (wr.cell? ⟨P, 0, none⟩ = some (.slice b0 4 d0) ∧ wr.cell? ⟨P, 1, none⟩ = some (.slice b1 4 d1)) ∧ Dm wr b0 b1 4 4 nxE ruE ∧ (wr.cell? ⟨T, 0, none⟩ = some (.slice (some ⟨T + 1 + 0, 0, none⟩) 4 4) ∧ wr.cell? ⟨T, 1, none⟩ = some (.slice (some ⟨T + 1 + 1, 0, none⟩) 4 4)) ∧ wr.cell? ⟨T + 1 + 1, 3, none⟩ = some (.bool true) ∧ wr.cell? ⟨T + 1 + 0, 2, none⟩ = some (.bool true) ∧ wr.cell? ⟨T + 1 + 0, 1, none⟩ = some (.bool false) ∧ Below w.heap.size w wr from fun wr hb => by
    have hbb := hb3.trans (hb.mono hb3.size)
    have htm2 := tm_below hb htm
    obtain ⟨q0, q1, -⟩ := d_cells ((hbb.block P hlt2).trans HBX.out)
    have c13 := (mk_cell (htm2.m 1 (by omega)) (show 3 < 4 by omega)).1
    have c02 := (mk_cell (htm2.m 0 (by omega)) (show 2 < 4 by omega)).1
    have c01 := (mk_cell (htm2.m 0 (by omega)) (show 1 < 4 by omega)).1
    rw [HA.out 1 3 (by omega) (by omega)] at c13
    rw [HA.out 0 2 (by omega) (by omega)] at c02
    rw [HA.out 0 1 (by omega) (by omega)] at c01
    exact ⟨⟨q0, q1⟩, dm_below' hbb HD1.out, ⟨tm_row htm2 (by omega) (by omega), tm_row htm2 (by omega) (by omega)⟩, c13, c02, c01, HB1.out.trans (hbb.mono HB1.out.size)⟩)
  obtain ⟨⟨p0, p1⟩, hdm, -⟩ := HW.out w3 (Below.refl _ _)
  have HDM := hide hdm
  clear hal htm hT hb3 hdm
  go_wp2_with fail
  refine (msmall_any b0 b1 4 d0 d1 M nxE ruE w3 HMM.out HDM.out HRE.out HME.out).mono ?_
  rintro e w4 ⟨x, r, k, x0, x1, u0, u1, hs, hmx, rfl, hd4, hk, hb4⟩
  have hk2 : k = 2 := by rw [← hd4.l0]; exact smM_E HMM.out hs
  subst hk2
  have HB4 := hide hb4
  clear hs hmx hd4 hb4 p0 p1
  obtain ⟨⟨p0, p1⟩, hdm, ⟨t0, t1⟩, c13, c02, c01, hbw⟩ := HW.out w4 HB4.out
  have HDM4 := hide hdm
  clear hdm hbw
  have hfl : ∀ w, (Instr.field 25 (.agg #[.slice x0 2 u0, .slice x1 2 u1]) 0).run Try.prog w = .ok (.slice x0 2 u0) w := fun w => by
    simp [Instr.field, part, asAgg, run_underlying Try.underlying25]
  go_wp2_with fail
  refine (mdead_yes b0 b1 4 d0 d1 nxE ruE w4 HDM4.out HRE.out HME.out).mono ?_
  rintro e w5 ⟨g, hlv, B, hB, rfl, hmk, hb5⟩
  have m2 := (mk_cell hmk (show 2 < 4 by omega)).1
  rw [isLive_one hlv isLive_E 2 (by omega)] at m2
  replace m2 : w5.cell? ⟨B, 2, none⟩ = some (.bool false) := m2
  have HB5 := hide (HB4.out.trans (hb5.mono HB4.out.size))
  clear hlv hmk hb5 p0 p1 t0 t1 c13 c02 c01 hfl HDM4
  obtain ⟨⟨p0, p1⟩, hdm, -, -, -, -, hbw⟩ := HW.out w5 HB5.out
  have HDM5 := hide hdm
  clear hdm hbw
  go_wp2_with fail
  refine (HSM.out b0 b1 b0 b1 4 4 d0 d1 d0 d1 M nxE nxE ruE ruE w5 HMM.out HDM5.out HDM5.out HRE.out HRE.out HME.out HME.out).mono ?_
  rintro e w6 ⟨y, y2, s, s2, hs1, hs2, rfl, hb6⟩
  have hone : decide (y = y2 ∧ s = s2) = true := decide_eq_true (smM_one hs1 hs2)
  rw [hone]
  have HB6 := hide (HB5.out.trans (hb6.mono HB5.out.size))
  have HBW := hide (HW.out w6 HB6.out).2.2.2.2.2.2
  clear hs1 hs2 hb6 hone p0 p1 m2 HDM5
  have HNO := hide (mdead_no none none 0 0 0 0 [] [] w6 ⟨rfl, rfl, fun i row h => by simp at h, fun i z h => by simp at h, by unfold maxLen; omega, by unfold maxLen; omega⟩ (by decide +kernel))
  go_wp2_with fail
  refine HNO.out.mono ?_
  rintro e w7 ⟨rfl, hb7⟩
  have HB7 := hide (HBW.out.trans (hb7.mono HBW.out.size))
  clear hb7 HNO
  go_wp2
  go_ret
  exact ⟨rfl, HB7.out⟩
end Go.Proofs.Ythkollnlmnbidaa.A
