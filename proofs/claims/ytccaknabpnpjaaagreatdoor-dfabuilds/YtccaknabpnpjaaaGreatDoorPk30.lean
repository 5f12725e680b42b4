/- The law on matches, walked. -/
import Derived.Test.YtccaknabpnpjaaaGreatDoorPk22
import Derived.Test.YtccaknabpnpjaaaGreatDoorPk29
import Derived.Deep.Cut
import Derived.Deep.CutRange
namespace Go.Proofs.YtccaknabpnpjaaaGreatDoor.A
open Go.RowKit
set_option linter.unusedVariables false

theorem wd_takeN {w : World} {a : Option Addr} {word : List Int} (h : Wd w a word) (k : Nat) : Wd w a (word.take k) := fun i c hc => by
  have hi : i < (word.take k).length := (List.getElem?_eq_some_iff.1 hc).1
  rw [List.length_take] at hi
  exact h i c (by rw [List.getElem?_take_of_lt (by omega)] at hc; exact hc)

set_option maxRecDepth 100000 in
set_option maxHeartbeats 6400000 in
theorem walkMatches (n0 : Nat) (a0 : Option Addr) (len0 cap0 : Nat) (t0 : List (Ex n0)) (a1 : Option Addr) (len1 cap1 : Nat) (z1 : List Int) (m : Int) (w : World) (hm : w.cell? ⟨0, 0, none⟩ = some (.int .i64 m)) (ht : Tab w.heap.size w) (w0 : Exs w n0 a0 t0) (e0 : t0.length = len0) (l0 : len0 ≤ cap0) (m0 : cap0 ≤ maxLen) (w1 : Wd w a1 z1) (e1 : z1.length = len1) (l1 : len1 ≤ cap1) (m1 : cap1 ≤ maxLen) :
    Calls Tryz.prog 4 #[.slice a0 len0 cap0, .slice a1 len1 cap1] w fun e w' => e = .returned (.bool true) ∧ Below w.heap.size w w' := by
  have hlm : len0 ≤ maxLen := Nat.le_trans l0 m0
  have HLM := hide hlm
  have HK := hide (exs_kids w0 e0)
  have HW := hide w1
  have HE := hide e0
  have HE1 := hide e1
  have HT := hide ht
  have HM := hide hm
  unfold maxLen at hlm m1
  clear w0 w1 e0 l0 m0 e1 ht hm
  go_enter Tryz.func4, Tryz.ntmps4
  go_wp2_with fail
  refine (alive7_any m w HM.out HT.out).mono ?_
  rintro e u1 ⟨rfl, hb1⟩
  have HB1 := hide hb1
  clear hb1
  go_wp2_with fail
  refine (lgreat_any n0 a0 len0 cap0 t0 u1 HLM.out HE.out (kids_below HB1.out HK.out)).mono ?_
  rintro e u2 ⟨⟨g, rfl, hg⟩, hb2⟩
  have HB2 := hide (HB1.out.trans (hb2.mono HB1.out.size))
  clear hb2 HB1 hg
  cases g
  case true =>
    go_wp2
    go_ret
    exact ⟨rfl, HB2.out⟩
  case false =>
  by_cases hl : 10 < len1
  · have d1 : decide ((10 : Int) < (len1 : Int)) = true := by simp; omega
    go_wp2
    go_ret
    exact ⟨rfl, HB2.out⟩
  have d1 : decide ((10 : Int) < (len1 : Int)) = false := by simp; omega
  go_wp2_with fail
  cases hm : mayB t0
  case false =>
    refine (dbuild_no7 n0 a0 len0 cap0 t0 u2 HLM.out HE.out (kids_below HB2.out HK.out) hm).mono ?_
    rintro e u3 ⟨rfl, hb3⟩
    have HB3 := hide (HB2.out.trans (hb3.mono HB2.out.size))
    unfold noDf
    clear hb3 hm
    go_wp2
    go_ret
    exact ⟨rfl, (HB3.out.alloc HB3.out.size _)⟩
  case true =>
  have HSH := hide (may_open hm (kids_below HB2.out HK.out) HE.out).2.2.2
  refine (build7_any n0 a0 len0 cap0 t0 u2 HLM.out HE.out (kids_below HB2.out HK.out) hm (tab_up (tab_on HT.out HB2.out) HB2.out.size)).mono ?_
  rintro e u3 (⟨rfl, hb3⟩ | ⟨nx, ru, b0, b1, c0, c1, hrt, hmt, rfl, hdm, hb3⟩)
  · have HB3 := hide (HB2.out.trans (hb3.mono HB2.out.size))
    unfold noDf
    clear hb3 hm
    go_wp2
    go_ret
    exact ⟨rfl, (HB3.out.alloc HB3.out.size _)⟩
  have HB3 := hide (HB2.out.trans (hb3.mono HB2.out.size))
  have HRT := hide hrt
  have HMT := hide hmt
  have HD := hide (dm_below' ((Below.refl u3.heap.size u3).alloc (Nat.le_refl _) (.cells #[.slice b0 nx.length c0, .slice b1 ru.length c1] 28)) hdm)
  have HX := hide (dtwo_new u3 (.slice b0 nx.length c0) (.slice b1 ru.length c1))
  have HB4 := hide (HB3.out.alloc HB3.out.size (.cells #[.slice b0 nx.length c0, .slice b1 ru.length c1] 28))
  have HZ := hide (show u3.heap.size < (u3.alloc (.cells #[.slice b0 nx.length c0, .slice b1 ru.length c1] 28)).heap.size by simp)
  have HLS := hide (fun k (hk : k + 1 ≤ z1.length) => long_step hrt hk (right_open hrt).2.2.2.1 (dm_len hdm))
  clear hb3 hm hdm hrt hmt
  go_wp2_with fail
  generalize u3.alloc (.cells #[.slice b0 nx.length c0, .slice b1 ru.length c1] 28) = W at *
  generalize u3.heap.size = P at *
  obtain ⟨x0, x1⟩ := HX.out
  go_loopw [7, 8, 9] (fun e r i wr => ∃ k : Nat, k ≤ len1 + 1 ∧ i = .int .i64 k ∧ e = .int .i64 (lgF nx ru z1 0 (k - 1)).1 ∧ r = .int .i64 (lgF nx ru z1 0 (k - 1)).2 ∧ Below W.heap.size W wr) (fun _ _ i _ => len1 + 1 - (intOf i).toNat)
  case atStart => exact ⟨0, Nat.zero_le _, rfl, rfl, rfl, Below.refl _ _⟩
  case round =>
    obtain ⟨k, hk, rfl, rfl, rfl, hb⟩ := hrel
    have HBW := hide hb
    have x0' := (hb.cell (p := ⟨P, 0, none⟩) HZ.out).trans x0
    have x1' := (hb.cell (p := ⟨P, 1, none⟩) HZ.out).trans x1
    clear hb
    by_cases hlt : k ≤ len1
    · have d2 : decide ((k : Int) ≤ (len1 : Int)) = true := by simp; omega
      have HLT := hide (show (z1.take k).length = k by rw [List.length_take, HE1.out]; omega)
      have HWT := hide (wd_takeN (wd_below HB4.out HW.out) k)
      have i1 : (0 : Int) ≤ (k : Int) := by omega
      have i2 : (k : Int) ≤ (cap1 : Int) := by omega
      obtain ⟨ea, hea⟩ : ∃ y, (lgF nx ru z1 0 (k - 1)).1 = y := ⟨_, rfl⟩
      obtain ⟨ra, hra⟩ : ∃ y, (lgF nx ru z1 0 (k - 1)).2 = y := ⟨_, rfl⟩
      rw [hea, hra]
      have HEA := hide hea
      have HRA := hide hra
      clear hea hra
      go_wp2_with fail
      go_loopw [10, 11] (fun v j wi => ∃ (q : Nat) (z : Int), q ≤ len0 ∧ j = .int .i64 z ∧ z + 1 = (q : Int) ∧ v = .int .i64 (leastR (hasN t0 (z1.take k)) (len0 - q) (q : Int)) ∧ Below W.heap.size W wi) (fun _ j _ => (intOf j + 1).toNat)
      case atStart => exact ⟨len0, _, Nat.le_refl _, rfl, by omega, by rw [Nat.sub_self]; rfl, HBW.out⟩
      case round =>
        obtain ⟨q, z, hq, rfl, hz, rfl, hb⟩ := hrel
        have HBI := hide hb
        have HBU := hide (HB4.out.trans (hb.mono HB4.out.size))
        cases q with
        | zero =>
          obtain rfl : z = -1 := by omega
          obtain ⟨y, hy⟩ : ∃ y, leastR (hasN t0 (z1.take k)) (len0 - 0) ((0 : Nat) : Int) = y := ⟨_, rfl⟩
          rw [hy]
          have HMY := hide ((HMT.out (z1.take k)).trans hy)
          have HLK := hide (show 0 < k → lgF nx ru z1 0 k = if 0 ≤ y then ((k : Int), y) else lgF nx ru z1 0 (k - 1) from fun h => by
            obtain ⟨j, rfl⟩ : ∃ j, k = j + 1 := ⟨k - 1, by omega⟩
            have := HLS.out j (by rw [HE1.out]; omega)
            rw [HMY.out] at this; exact this)
          have HSAME := hide (show (y < 0 ∨ k = 0) → lgF nx ru z1 0 k = lgF nx ru z1 0 (k - 1) from fun h => by
            by_cases k0 : 0 < k
            · rw [HLK.out k0, if_neg (by omega)]
            · rw [show k - 1 = k by omega])
          have HMC := hide (dmatch_any b0 b1 nx.length ru.length c0 c1 nx ru a1 k cap1 (z1.take k) wr.drew (dm_below' (HBI.out.trans ((below_drew1 wr).mono HBI.out.size)) HD.out) HLT.out (by unfold maxLen; omega) (wd_below (HBI.out.trans ((below_drew1 wr).mono HBI.out.size)) HWT.out))
          have y0c := (hb.cell (p := ⟨P, 0, none⟩) HZ.out).trans x0
          have y1c := (hb.cell (p := ⟨P, 1, none⟩) HZ.out).trans x1
          have dyy : (y != y) = false := by simp
          clear hb hy
          go_upto_region 18 with fail
          go_cut [58] from 30 to 66 (fun s wx => s = .bool false ∧ Below W.heap.size W wx)
          case first =>
            first
              | go_region_with (go_at_call 11; refine HMC.out.mono ?_; rintro e w5 ⟨rfl, hb5⟩; have HB5 := hide (HBI.out.trans (((below_drew1 wr).trans hb5).mono HBI.out.size)); rw [HMY.out])
              | fail
            all_goals go_wp2_with fail
            all_goals go_meet
            all_goals exact ⟨by first | rfl | simp, HB5.out⟩
          case rest =>
          obtain ⟨rfl, hbc⟩ := hcut
          have HBC := hide hbc
          clear hbc HMC y0c y1c x0' x1' x0 x1
          by_cases y0 : 0 ≤ y
          · have d3 : decide (0 ≤ y) = true := by simp [y0]
            by_cases kk : 0 < k
            · have d4 : decide ((0 : Int) < (k : Int)) = true := by simp [kk]
              go_wp2
              go_roundw
              case rel => exact ⟨k + 1, by omega, by go_num, by rw [Nat.add_sub_cancel, HLK.out kk, if_pos y0], by rw [Nat.add_sub_cancel, HLK.out kk, if_pos y0], HBC.out⟩
              case measure => simp [intOf]; omega
            · have d4 : decide ((0 : Int) < (k : Int)) = false := by simp; omega
              go_wp2
              go_roundw
              case rel => exact ⟨k + 1, by omega, by go_num, by rw [Nat.add_sub_cancel, HSAME.out (.inr (by omega)), HEA.out], by rw [Nat.add_sub_cancel, HSAME.out (.inr (by omega)), HRA.out], HBC.out⟩
              case measure => simp [intOf]; omega
          · have d3 : decide (0 ≤ y) = false := by simp; omega
            go_wp2
            go_roundw
            case rel => exact ⟨k + 1, by omega, by go_num, by rw [Nat.add_sub_cancel, HSAME.out (.inl (by omega)), HEA.out], by rw [Nat.add_sub_cancel, HSAME.out (.inl (by omega)), HRA.out], HBC.out⟩
            case measure => simp [intOf]; omega
        | succ q =>
          obtain rfl : z = (q : Int) := by omega
          obtain ⟨x, b, off, f0, f1, f2, rfl, hx, k0, k1, k2, k3⟩ := HK.out wr HBU.out q (by omega)
          have HXX := hide hx
          have HX3 := hide k3
          have i3 : (0 : Int) ≤ (q : Int) := by omega
          have i4 : (q : Int) < (len0 : Int) := by omega
          have HLB := hide (least_back (p := hasN t0 (z1.take k)) (len := len0) (k := q) (by omega))
          have HHN := hide (hasN_at (z1.take k) hx)
          have HHC := hide (has_any (z1.take k) n0 x (.agg #[f0, f1, f2]) a1 k cap1 wr.drew HLT.out (by omega) (rx_below (below_drew1 wr) n0 x _ HX3.out) (HSH.out x (List.mem_of_getElem? HXX.out)) (wd_below (HBI.out.trans ((below_drew1 wr).mono HBI.out.size)) HWT.out))
          obtain ⟨y, hy⟩ : ∃ y, leastR (hasN t0 (z1.take k)) (len0 - (q + 1)) ((q + 1 : Nat) : Int) = y := ⟨_, rfl⟩
          rw [hy] at HLB ⊢
          clear hb hx k3 hy x0' x1' x0 x1
          go_upto_region 16 with fail
          go_cut [50] from 39 to 51 (fun s wx => s = .bool (hasE n0 x (z1.take k)) ∧ Below W.heap.size W wx)
          case first =>
            first
              | go_region_with (go_at_call 10; refine HHC.out.mono ?_; rintro e w5 ⟨rfl, hb5⟩; have HB5 := hide (HBI.out.trans (((below_drew1 wr).trans hb5).mono HBI.out.size)))
              | fail
            all_goals go_wp2_with fail
            all_goals go_meet
            all_goals exact ⟨rfl, HB5.out⟩
          case rest =>
          obtain ⟨rfl, hbc⟩ := hcut
          have HBC := hide hbc
          clear hbc HHC k0 k1 k2
          cases hh : hasE n0 x (z1.take k)
          · have HH := hide hh
            clear hh
            go_wp2
            go_roundw
            case rel => exact ⟨q, (q : Int) - 1, by omega, by go_num, by omega, by rw [HLB.out, HHN.out, HH.out]; rfl, HBC.out⟩
            case measure => simp [intOf]
          · have HH := hide hh
            clear hh
            go_wp2
            go_roundw
            case rel => exact ⟨q, (q : Int) - 1, by omega, by go_num, by omega, by rw [HLB.out, HHN.out, HH.out]; rfl, HBC.out⟩
            case measure => simp [intOf]
    · obtain rfl : k = len1 + 1 := by omega
      have d2 : decide (((len1 + 1 : Nat) : Int) ≤ (len1 : Int)) = false := decide_eq_false (by omega)
      have d3 : decide (((len1 : Nat) : Int) + 1 ≤ (len1 : Int)) = false := decide_eq_false (by omega)
      have HLG := hide (show longR nx ru z1 0 = lgF nx ru z1 0 (len1 + 1 - 1) by
        unfold longR
        rw [if_pos ⟨HRT.out, by omega, by omega⟩, Nat.add_sub_cancel]
        simp [HE1.out])
      obtain ⟨pe, hpe⟩ : ∃ p, lgF nx ru z1 0 (len1 + 1 - 1) = p := ⟨_, rfl⟩
      rw [hpe] at HLG ⊢
      clear hpe
      go_wp2_with fail
      refine (dlong_any b0 b1 nx.length ru.length c0 c1 nx ru a1 len1 cap1 z1 0 wr (dm_below' HBW.out HD.out) HE1.out l1 (by unfold maxLen; omega) (wd_below HBW.out (wd_below HB4.out HW.out))).mono ?_
      rintro e w5 ⟨rfl, hb5⟩
      rw [HLG.out]
      have HB5 := hide (HBW.out.trans (hb5.mono HBW.out.size))
      clear hb5 x0' x1' x0 x1
      obtain ⟨pa, pb⟩ := pe
      go_wp2
      go_ret
      exact ⟨by first | rfl | simp, HB4.out.trans (HB5.out.mono HB4.out.size)⟩
end Go.Proofs.YtccaknabpnpjaaaGreatDoor.A
