/- Both Builds tell the same; the law, walked. -/
import Derived.Test.YtccaknabpnpjaaaGreatDoorEf
import Derived.Test.YtccaknabpnpjaaaGreatDoorEg
import Derived.Test.YtccaknabpnpjaaaGreatDoorPk29
import Derived.Test.YtccaknabpnpjaaaGreatDoorPk22
namespace Go.Proofs.YtccaknabpnpjaaaGreatDoor.A
open Go.RowKit
set_option linter.unusedVariables false

/-- What both tell. -/
def Res (w : World) (nx : List (List Int)) (ru : List Int) (z : Int) (e : Ending) (w' : World) : Prop :=
  ∃ a0 a1 c0 c1, e = .returned (.tuple #[.agg #[.slice a0 nx.length c0, .slice a1 ru.length c1], .int .i64 z]) ∧ Dr w' a0 nx ∧ Wd w' a1 ru ∧ Below w.heap.size w w'
theorem res_no {w w' : World} {z : Int} {e : Ending} (h : e = .returned (noDf z) ∧ Below w.heap.size w w') : Res w [] [] z e w' :=
  ⟨none, none, 0, 0, h.1, fun i row hr => by simp at hr, fun i c hc => by simp at hc, h.2⟩
theorem exs_take {W : World} {n : Nat} {a : Option Addr} {l : List (Ex n)} (h : Exs W n a l) (k : Nat) : Exs W n a (l.take k) := fun i x hx => by
  rw [List.getElem?_take] at hx
  split at hx
  · exact h i x hx
  · cases hx
theorem outD_res {tr : List Int → Nat → List Int} {ls : List Int → Int} {start : List Int} (m : Nat) (hm : m = 201) (hls : ∀ s, -1 ≤ ls s ∧ ls s ≤ 15) :
    ∃ nx ru z, nx.length ≤ 200 ∧ ru.length ≤ 200 ∧ (∀ x ∈ nx, ∀ y ∈ x, -1 ≤ y ∧ y ≤ (10000 : Int)) ∧ ∀ (w w' : World) (e : Ending), OutD w (stF tr ls start m) e w' → Res w nx ru z e w' := by
  have T' := tb_of' (tr := tr) (ls := ls) (start := start) m hm
  generalize stF tr ls start m = σ at T'
  by_cases c : 200 < σ.1.length
  · refine ⟨[], [], 7, by simp, by simp, fun x hx => by simp at hx, fun w w' e h => ?_⟩
    unfold OutD at h
    rw [if_pos c] at h
    exact res_no h
  · have T := T' (by omega)
    have e1 := T.ln
    have e2 := T.lr
    have e3 := T.most
    have hr := right_open (tb_right T hls)
    refine ⟨σ.2.1, σ.2.2, 0, by omega, by omega, fun x hx y hy => ?_, fun w w' e h => ?_⟩
    · obtain ⟨i, hi, q⟩ := List.getElem_of_mem hx
      have := hr.2.2.2.2 i x (by rw [List.getElem?_eq_getElem hi, q]) y hy
      omega
    · unfold OutD at h
      rw [if_neg c] at h
      exact h
theorem both_any (n0 : Nat) (a : Option Addr) (len cap : Nat) (t0 : List (Ex n0)) (w : World) (hl : len ≤ maxLen) (h6 : t0.length = len) (hx : Exs w n0 a t0) (hg : ∀ (i : Nat) (x : Ex n0), i < 17 → t0[i]? = some x → greatE n0 x 20 = false) (ht : Tab w.heap.size w) :
    ∃ nx ru z, nx.length ≤ 200 ∧ ru.length ≤ 200 ∧ (∀ x ∈ nx, ∀ y ∈ x, -1 ≤ y ∧ y ≤ (10000 : Int)) ∧ Calls Tryz.prog 7 #[.slice a len cap] w (Res w nx ru z) ∧ ∀ w1, Below w.heap.size w w1 → Calls Tryz.prog 8 #[.slice a len cap] w1 (Res w1 nx ru z) := by
  have hgt : greatL (t0.take 16) = false := by
    unfold greatL
    rw [Bool.or_eq_false_iff]
    refine ⟨by simp; omega, ?_⟩
    rw [List.any_eq_false]
    intro x hxm
    obtain ⟨i, hi, e⟩ := List.getElem_of_mem hxm
    have hi2 : i < 16 := by simp at hi; omega
    have h1 : (t0.take 16)[i]? = some x := by rw [List.getElem?_eq_getElem hi, e]
    rw [List.getElem?_take, if_pos hi2] at h1
    simpa using hg i x (by omega) h1
  obtain ⟨t, hxt, hlt⟩ := exs_trim (exs_take hx 16) hgt
  by_cases hbig : 16 < len
  · have hno : mayB t0 = false := by
      unfold mayB
      rw [show decide (t0.length ≤ 16) = false by rw [h6]; exact decide_eq_false (by omega)]
      simp
    have hl16 : t.length = 16 := by rw [hlt, List.length_take]; omega
    refine ⟨[], [], 1, by simp, by simp, fun x hx => by simp at hx, (dbuild_no7 n0 a len cap t0 w hl h6 (exs_kids hx h6) hno).mono fun _ _ => res_no, fun w1 hb => ?_⟩
    exact (rbuild_big 20 (by decide) a len cap t w1 hl hbig hl16 (kids_below hb (exs_kids hxt hl16))).mono fun _ _ => res_no
  · have hl16 : t.length = len := by rw [hlt, List.length_take]; omega
    have hk := exs_kids hxt hl16
    cases hm : mayB t
    · exact ⟨[], [], 1, by simp, by simp, fun x hx => by simp at hx, (dbuild_no7 20 a len cap t w hl hl16 hk hm).mono fun _ _ => res_no, fun w1 hb => (rbuild_no 20 (by decide) a len cap t w1 hl hl16 (kids_below hb hk) hm).mono fun _ _ => res_no⟩
    · obtain ⟨hl1, hl2, hful, hsh⟩ := may_open hm hk hl16
      obtain ⟨N, hN⟩ : ∃ N, N = posE 1 t len := ⟨_, rfl⟩
      have hN3 : N ≤ 3300 := by rw [hN]; exact pos_most hm hk hl16
      obtain ⟨rs, hrl, hr⟩ := rules_are t len N
      have hi := lists_is (fun x hx => ⟨hful x hx, hsh x hx⟩) N
      generalize (List.range N).map (layA t 1 mc0).fr = fs at hi
      generalize (List.range N).map (layA t 1 mc0).st = ss at hi
      generalize (List.range N).map (layA t 1 mc0).to = ts at hi
      obtain ⟨tr, htr⟩ := tr_is fs ss ts N
      obtain ⟨g0, hg0⟩ := close_is fs N (tblB [0] 1)
      have hM := build_mach hful hl16 hl2 hi hr hrl hN hN3
      obtain ⟨m, hm201⟩ : ∃ m, m = 201 := ⟨_, rfl⟩
      obtain ⟨nx, ru, z, q1, q2, q3, q4⟩ := outD_res (tr := tr) (ls := lstR rs) (start := lstL g0 N) m hm201 (fun s => lst_rng hM.rule s (-1) (by omega))
      have hP := dbuild_yes7 20 a len cap t w hl hl16 hk hm fs ss ts rs N tr g0 hi hr hrl hN htr hg0 ht
      have hD := fun w1 (hb : Below w.heap.size w w1) => rbuild_yes 20 (by decide) a len cap t w1 hl hl16 (kids_below hb hk) hm fs ss ts rs N tr g0 hi hr hrl hN htr hg0
      rw [← hm201] at hP hD
      exact ⟨nx, ru, z, q1, q2, q3, hP.mono fun e w' => q4 w w' e, fun w1 hb => (hD w1 hb).mono fun e w' => q4 w1 w' e⟩

set_option maxRecDepth 100000 in
set_option maxHeartbeats 3200000 in
theorem walkBuilds (n0 : Nat) (a0 : Option Addr) (len0 cap0 : Nat) (t0 : List (Ex n0)) (m : Int) (w : World) (hm : w.cell? ⟨0, 0, none⟩ = some (.int .i64 m)) (ht : Tab w.heap.size w) (w0 : Exs w n0 a0 t0) (e0 : t0.length = len0) (l0 : len0 ≤ cap0) (m0 : cap0 ≤ maxLen) :
    Calls Tryz.prog 3 #[.slice a0 len0 cap0] w fun e w' => e = .returned (.bool true) ∧ Below w.heap.size w w' := by
  have hlm : len0 ≤ maxLen := Nat.le_trans l0 m0
  have HLM := hide hlm
  have HX := hide w0
  have HE := hide e0
  have HT := hide ht
  have HM := hide hm
  unfold maxLen at hlm
  clear w0 e0 l0 m0 ht hm
  go_enter Tryz.func3, Tryz.ntmps3
  go_wp2_with fail
  refine (alive7_any m w HM.out HT.out).mono ?_
  rintro e u1 ⟨rfl, hb1⟩
  have HB1 := hide hb1
  clear hb1
  go_wp2_with fail
  refine (lgreat_any n0 a0 len0 cap0 t0 u1 HLM.out HE.out (kids_below HB1.out (exs_kids HX.out HE.out))).mono ?_
  rintro e u2 ⟨⟨g, rfl, hg⟩, hb2⟩
  have HB2 := hide (HB1.out.trans (hb2.mono HB1.out.size))
  have HG := hide hg
  clear hb2 HB1 hg
  cases g
  case true =>
    go_wp2
    go_ret
    exact ⟨rfl, HB2.out⟩
  case false =>
  have hx2 : Exs u2 n0 a0 t0 := fun i x hx => by
    obtain ⟨b, off, c0, c1, c2, e, p0, p1, p2, p3⟩ := HX.out i x hx
    exact ⟨b, off, c0, c1, c2, e, (HB2.out.cell (p := ⟨b, off + i * 3, none⟩) (cell_lt p0)).trans p0, (HB2.out.cell (p := ⟨b, off + i * 3 + 1, none⟩) (cell_lt p1)).trans p1, (HB2.out.cell (p := ⟨b, off + i * 3 + 2, none⟩) (cell_lt p2)).trans p2, rx_below HB2.out n0 x _ p3⟩
  obtain ⟨nx, ru, z, q1, q2, q3, hP, hD⟩ := both_any n0 a0 len0 cap0 t0 u2 HLM.out HE.out hx2 (HG.out rfl).2 (tab_up (tab_on HT.out HB2.out) HB2.out.size)
  have HP := hide hP
  have HD := hide hD
  have HF := hide q3
  have hz : (z == z) = true := by simp
  have hz1 : (z != z) = false := by simp
  clear hx2 hP hD q3
  go_wp2_with fail
  refine HP.out.mono ?_
  rintro e u3 ⟨b0, b1, c0, c1, rfl, hd, hw, hb3⟩
  have HD3 := hide hd
  have HW3 := hide hw
  have HB3 := hide hb3
  have HBA := hide (hb3.alloc hb3.size (.cells #[.slice b0 nx.length c0, .slice b1 ru.length c1] 28))
  have HX3 := hide (heap_alloc_last u3 (.cells #[.slice b0 nx.length c0, .slice b1 ru.length c1] 28))
  have HD3' := hide (dr_below ((Below.refl u3.heap.size u3).alloc (Nat.le_refl _) (.cells #[.slice b0 nx.length c0, .slice b1 ru.length c1] 28)) hd)
  have HW3' := hide (wd_below ((Below.refl u3.heap.size u3).alloc (Nat.le_refl _) (.cells #[.slice b0 nx.length c0, .slice b1 ru.length c1] 28)) hw)
  clear hd hw hb3 HP
  go_wp2_with fail
  generalize u3.alloc (.cells #[.slice b0 nx.length c0, .slice b1 ru.length c1] 28) = v3 at *
  refine (HD.out v3 HBA.out).mono ?_
  rintro e u4 ⟨b2, b3, c2, c3, rfl, hd, hw, hb4⟩
  have hY := (hb4.block _ (Array.getElem?_eq_some_iff.1 HX3.out).1).trans HX3.out
  have hbb := (Below.refl u4.heap.size u4).alloc (Nat.le_refl _) (.cells #[.slice b2 nx.length c2, .slice b3 ru.length c3] 28)
  have hY2 := (hbb.block _ (Array.getElem?_eq_some_iff.1 hY).1).trans hY
  have hZ := heap_alloc_last u4 (.cells #[.slice b2 nx.length c2, .slice b3 ru.length c3] 28)
  obtain ⟨p0, p1, -⟩ := d_cells hY2
  obtain ⟨p2, p3, -⟩ := d_cells hZ
  have HD4 := hide (dr_below hbb hd)
  have HW4 := hide (wd_below hbb hw)
  have HD5 := hide (dr_below hbb (dr_below hb4 HD3'.out))
  have HW5 := hide (wd_below hbb (wd_below hb4 HW3'.out))
  have HB5 := hide ((HBA.out.trans (hb4.mono HBA.out.size)).trans (hbb.mono ((HBA.out.trans (hb4.mono HBA.out.size)).size)))
  clear hd hw hb4 hbb hY hY2 hZ HD HD3 HW3 HB3 HX3 HD3' HW3' HBA
  go_wp2_with fail
  generalize u4.alloc (.cells #[.slice b2 nx.length c2, .slice b3 ru.length c3] 28) = v5 at *
  refine (dSame_any b0 b1 b2 b3 nx.length ru.length c0 c1 c2 c3 nx ru v5 rfl rfl (by omega) (by omega) HD5.out HW5.out HD4.out HW4.out HF.out).mono ?_
  rintro e u6 ⟨rfl, hb6⟩
  go_wp2
  go_ret
  exact ⟨rfl, HB2.out.trans ((HB5.out.trans (hb6.mono HB5.out.size)).mono HB2.out.size)⟩
end Go.Proofs.YtccaknabpnpjaaaGreatDoor.A
