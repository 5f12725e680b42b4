/- The program's dead states. -/
import Derived.Test.YthkollnlmnbidaaGb
import Derived.Deep.LoopGhost
namespace Go.Proofs.Ythkollnlmnbidaa.A
open Go.RowKit
set_option linter.unusedVariables false

/-- One more is known not to be dead. -/
theorem sound_set {nx : List (List Int)} {ru : List Int} {n : Nat} {g : Nat → Bool} {k : Nat} (hs : Sound nx ru n g) (hl : Live nx ru k) : Sound nx ru n (fun i => if i = k then true else g i) := fun i hi h => by
  by_cases e : i = k
  · subst e; exact hl
  · simp only [e, if_false] at h; exact hs i hi h

set_option maxRecDepth 100000 in
set_option maxHeartbeats 3200000 in
theorem deadS_any (a0 a1 : Option Addr) (n c0 c1 : Nat) (nx : List (List Int)) (ru : List Int) (w : World) (hx : Mx nx ru n) (hm : Dm w a0 a1 n n nx ru) :
    Calls Try.prog 24 #[.agg #[.slice a0 n c0, .slice a1 n c1]] w fun e w' => ∃ g, IsLive nx ru n g ∧ Gives w n (fun j => !g j) e w' := by
  have hb0 := (Below.refl w.heap.size w).alloc (Nat.le_refl _) (.cells #[.slice a0 n c0, .slice a1 n c1] 25)
  have HBX := hide (heap_alloc_last w (.cells #[.slice a0 n c0, .slice a1 n c1] 25))
  have HS := hide (show (w.alloc (.cells #[.slice a0 n c0, .slice a1 n c1] 25)).heap.size = w.heap.size + 1 by simp)
  have HB1 := hide ((Below.refl (w.heap.size + 1) (w.alloc (.cells #[.slice a0 n c0, .slice a1 n c1] 25))).alloc (by simp) (.cells #[.bool true] 4))
  have HC := hide (show ((w.alloc (.cells #[.slice a0 n c0, .slice a1 n c1] 25)).alloc (.cells #[.bool true] 4)).cell? ⟨w.heap.size + 1, 0, none⟩ = some (.bool true) from by
    have h := heap_alloc_last (w.alloc (.cells #[.slice a0 n c0, .slice a1 n c1] 25)) (.cells #[.bool true] 4)
    rw [show (w.alloc (.cells #[.slice a0 n c0, .slice a1 n c1] 25)).heap.size = w.heap.size + 1 by simp] at h
    exact cell_of_row _ _ 0 _ _ _ h)
  have HS2 := hide (show ((w.alloc (.cells #[.slice a0 n c0, .slice a1 n c1] 25)).alloc (.cells #[.bool true] 4)).heap.size = w.heap.size + 2 by simp)
  have HB0 := hide hb0
  have HM := hide (dm_below' hb0 hm)
  have HX := hide hx
  have hn2 := hx.most
  have hn1 := hx.pos
  obtain ⟨p0, p1, -⟩ := d_cells HBX.out
  clear hb0 hm hx
  go_enter Try.func24, Try.ntmps24
  go_wp2_with fail
  go_step3
  go_wp2_with fail
  refine (repeat_any (w.heap.size + 1) 0 1 n _ hn1 (by omega) HC.out).mono ?_
  rintro e w3 ⟨B, hBs, rfl, hmk, hb3⟩
  rw [HS2.out] at hBs
  have HMK := hide (show Mk w3 B n (fun j => !(fun _ => false : Nat → Bool) j) from mk_congr hmk (fun j hj => rfl))
  have HB3 := hide (HB0.out.trans ((HB1.out.mono (by omega)).trans (hb3.mono (by rw [HS2.out]; omega))))
  have HB3' := hide (HB1.out.trans (hb3.mono (by rw [HS2.out]; omega)))
  have HX3 := hide (show ∀ wr, Below (w.heap.size + 1) (w.alloc (.cells #[.slice a0 n c0, .slice a1 n c1] 25)) wr → wr.heap[w.heap.size]? = some (.cells #[.slice a0 n c0, .slice a1 n c1] 25 (0, 0)) ∧ Dm wr a0 a1 n n nx ru from fun wr hb =>
    ⟨(hb.block w.heap.size (by omega)).trans HBX.out, dm_below' (by rw [HS.out]; exact hb) HM.out⟩)
  clear hmk hb3 p0 p1 HBX HM HC HB1
  have HBR := hide (show Below B w3 w3 from Below.refl _ _)
  have HB5 := hide (show ∀ wr, Below B w3 wr → Below (w.heap.size + 1) (w.alloc (.cells #[.slice a0 n c0, .slice a1 n c1] 25)) wr from fun wr hb => HB3'.out.trans (hb.mono (by omega)))
  generalize w.alloc (.cells #[.slice a0 n c0, .slice a1 n c1] 25) = W1 at *
  go_wp2_with fail
  go_step3
  go_wp2_with fail
  go_loopg [4, 12] n (fun gk s4 s12 wr => ∃ g : Nat → Bool, cntF g n ≤ gk ∧ Mk wr B n (fun j => !g j) ∧ Sound nx ru n g ∧ Below B w3 wr)
  case atStart => exact ⟨fun _ => false, cntF_le _ _, HMK.out, fun i _ q => by simp at q, HBR.out⟩
  case round =>
    obtain ⟨g, hcn, hmk, hsd, hb⟩ := hrel
    have HCN := hide hcn
    have HMK1 := hide hmk
    have HSD := hide hsd
    have HBW := hide hb
    clear hcn hmk hsd hb HMK
    obtain ⟨G, hG⟩ : ∃ G, G = gk := ⟨_, rfl⟩
    subst hG
    go_wp2_with fail
    generalize wr = W5 at *
    go_loopg [4, 12] n (fun gi s4 s12 wi => ∃ i : Nat, i + gi = n ∧ s12 = .int .i64 i ∧ (∀ j, j < i → Cs nx ru g j 17) ∧ Mk wi B n (fun j => !g j) ∧ Below B w3 wi)
    case atStart => exact ⟨0, by omega, rfl, fun j hj => by omega, HMK1.out, HBW.out⟩
    case round =>
      obtain ⟨i, hig, rfl, hcs, hmk, hb⟩ := hrel
      have HCS := hide hcs
      have HMK := hide hmk
      have HBI := hide hb
      clear hcs hmk hb HMK1 HBW
      by_cases hlt : i < n
      · obtain ⟨hX, hDm⟩ := HX3.out wr (HB5.out wr HBI.out)
        obtain ⟨p0, p1, -⟩ := d_cells hX
        obtain ⟨m0, m1⟩ := mk_cell HMK.out hlt
        have i3 : (0 : Int) ≤ (i : Int) := by omega
        have i4 : (i : Int) < (n : Int) := by omega
        have HDM := hide hDm
        clear hX hDm
        cases hgi : g i
        · have HGI := hide hgi
          rw [hgi] at m0
          have HBRR := hide (show Br wr (some ⟨B, 0, none⟩) n (fun j => !g j) from fun j hj => ⟨B, 0, rfl, by rw [Nat.zero_add]; exact (mk_cell HMK.out hj).1⟩)
          clear hgi
          go_wp2_with fail
          refine (lives_any a0 a1 (some ⟨B, 0, none⟩) n c0 c1 n i nx ru g wr HX.out HDM.out HBRR.out hlt).mono ?_
          rintro e w6 ⟨rfl, hb6⟩
          have HB6 := hide (HBI.out.trans (hb6.mono (Nat.le_of_lt (mk_lt HMK.out))))
          have HMK6 := hide (mk_below (mk_lt HMK.out) hb6 HMK.out)
          obtain ⟨q0, q1⟩ := mk_cell HMK6.out hlt
          clear hb6 m0 m1
          cases hlv : livB nx ru g i
          · have HN := hide (liv_no HX.out hlt hlv)
            clear hlv
            go_wp2_with fail
            obtain ⟨gi', hgi'⟩ : ∃ g', gk = g' + 1 := ⟨gk - 1, by omega⟩
            go_roundg gi'
            case measure => omega
            case rel => exact ⟨i + 1, by omega, by go_num, fun j hj => by
              by_cases e : j = i
              · subst e; exact HN.out
              · exact HCS.out j (by omega), HMK6.out, HB6.out⟩
          · have HL := hide (liv_yes HX.out HSD.out hlt hlv)
            clear hlv
            go_wp2_with fail
            have HC2 := hide (show cntF (fun q => if q = i then true else g q) n < cntF g n from cntF_lt n (fun j _ h => by simp [h]) i hlt HGI.out (by simp))
            have HK2 := hide (mk_congr (mk_set HMK6.out hlt false) (h := fun j => !(if j = i then true else g j)) (fun j hj => by by_cases e : j = i <;> simp [e]))
            have HBK := hide (HB6.out.setCell (p := ⟨B, i, none⟩) (Nat.le_refl B) (.bool false))
            obtain ⟨G', hG'⟩ : ∃ g', G = g' + 1 := ⟨G - 1, by have := HCN.out; have := HC2.out; omega⟩
            go_roundg G'
            case measure => omega
            case rel => exact ⟨_, by have := HCN.out; have := HC2.out; omega, HK2.out, sound_set HSD.out HL.out, HBK.out⟩
        · have HGI := hide hgi
          rw [hgi] at m0
          clear hgi
          go_wp2_with fail
          obtain ⟨gi', hgi'⟩ : ∃ g', gk = g' + 1 := ⟨gk - 1, by omega⟩
          go_roundg gi'
          case measure => omega
          case rel => exact ⟨i + 1, by omega, by go_num, fun j hj => by
            by_cases e : j = i
            · subst e; intro q; rw [HGI.out] at q; cases q
            · exact HCS.out j (by omega), HMK.out, HBI.out⟩
      · obtain rfl : i = n := by omega
        have HIL := hide (cls_full HX.out HCS.out HSD.out)
        have hbf := HBI.out
        go_wp2_with fail
        try rw [Exit.noGoto_ret]
        go_ret
        exact ⟨g, HIL.out, B, by omega, rfl, HMK.out, HB3.out.trans (hbf.mono (by omega))⟩
end Go.Proofs.Ythkollnlmnbidaa.A
