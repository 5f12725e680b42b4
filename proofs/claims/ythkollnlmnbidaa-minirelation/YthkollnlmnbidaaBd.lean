/- The document's Dead. -/
import Derived.Test.YthkollnlmnbidaaBb
import Derived.Test.YthkollnlmnbidaaBc
namespace Go.Proofs.Ythkollnlmnbidaa.A
open Go.RowKit
set_option linter.unusedVariables false

set_option maxRecDepth 100000 in
set_option maxHeartbeats 3200000 in
theorem dead_any (a0 a1 : Option Addr) (n c0 c1 : Nat) (nx : List (List Int)) (ru : List Int) (w : World) (hx : Mx nx ru n) (hm : Dm w a0 a1 n n nx ru) :
    Calls Try.prog 14 #[.agg #[.slice a0 n c0, .slice a1 n c1]] w fun e w' => ∃ g v, IsLive nx ru n g ∧ e = .returned v ∧ w'.ownsRow w.heap.size 4 1 v n ((List.range n).map fun (j : Nat) => Value.bool (!g j)) ∧ Below w.heap.size w w' := by
  obtain ⟨i4, hi4, hz4, hs4, hb4⟩ := info_parts info4
  have hmk : ∀ w, (Instr.makeSlice 30 (.int .i64 (n : Int)) (.int .i64 (n : Int))).run Try.prog w = .ok (.slice (some ⟨w.heap.size, 0, none⟩) n n) (w.alloc (.cells (rowB n fun _ => false) 4)) := make39 n (by have := hx.most; omega)
  have HBX := hide (heap_alloc_last w (.cells #[.slice a0 n c0, .slice a1 n c1] 25))
  have hb0 := (Below.refl w.heap.size w).alloc (Nat.le_refl _) (.cells #[.slice a0 n c0, .slice a1 n c1] 25)
  have HB0 := hide hb0
  have HM := hide (dm_below' hb0 hm)
  have HX := hide hx
  have HS := hide (show (w.alloc (.cells #[.slice a0 n c0, .slice a1 n c1] 25)).heap.size = w.heap.size + 1 by simp)
  obtain ⟨p0, p1, -⟩ := d_cells HBX.out
  have hn2 := hx.most
  have hn1 := hx.pos
  clear hb0 hm hx
  go_enter Try.func14, Try.ntmps14
  go_wp2_with fail
  have hm0 := mk_new1 (w.alloc (.cells #[.slice a0 n c0, .slice a1 n c1] 25)) n
  have hbA := (Below.refl (w.heap.size + 1) (w.alloc (.cells #[.slice a0 n c0, .slice a1 n c1] 25))).alloc (by simp) (.cells (rowB n fun _ => false) 4)
  rw [HS.out] at hm0
  generalize w.alloc (.cells #[.slice a0 n c0, .slice a1 n c1] 25) = W1 at *
  generalize W1.alloc (.cells (rowB n fun _ => false) 4) = W2 at *
  generalize hB : w.heap.size + 1 = B at *
  clear hmk p0 p1
  have HBW := hide (show ∀ wr, Below B W1 wr → (wr.cell? ⟨w.heap.size, 0, none⟩ = some (.slice a0 n c0) ∧ wr.cell? ⟨w.heap.size, 1, none⟩ = some (.slice a1 n c1)) ∧ Dm wr a0 a1 n n nx ru from fun wr hb => by
    have h1 := (hb.block w.heap.size (by omega)).trans HBX.out
    obtain ⟨q0, q1, -⟩ := d_cells h1
    exact ⟨⟨q0, q1⟩, dm_below' (by rw [HS.out]; exact hb) HM.out⟩)
  go_loopw [5] (fun r wr => ∃ (k : Nat) (g : Nat → Bool), k ≤ n + 1 ∧ r = .int .i64 k ∧ Mk wr B n g ∧ Rd nx ru n g k ∧ Below B W1 wr) (fun r _ => n + 1 - (intOf r).toNat)
  case atStart => exact ⟨0, _, Nat.zero_le _, rfl, hm0, rd_zero, hbA⟩
  case round =>
    obtain ⟨k, g, hk, rfl, hmk, hrd, hb⟩ := hrel
    have HMK := hide hmk
    have HRD := hide hrd
    have HB := hide hb
    clear hmk hrd hb hm0 hbA
    by_cases hkn : k ≤ n
    · have dk : decide ((k : Int) ≤ (n : Int)) = true := by simp; omega
      go_wp2_with fail
      go_loopw [6] (fun i wr => ∃ (j : Nat) (g' : Nat → Bool), j ≤ n ∧ i = .int .i64 j ∧ Mk wr B n g' ∧ Ps nx ru n g g' j 0 ∧ Below B W1 wr) (fun i _ => n - (intOf i).toNat)
      case atStart => exact ⟨0, g, Nat.zero_le _, rfl, HMK.out, ps_start HRD.out.1, HB.out⟩
      case round =>
        obtain ⟨j, g', hj, rfl, hmk, hps, hb⟩ := hrel
        have HMK2 := hide hmk
        have HPS := hide hps
        have HB2 := hide hb
        clear hmk hps hb HMK HB
        by_cases hjn : j < n
        · obtain ⟨⟨p0, p1⟩, hdm⟩ := HBW.out wr HB2.out
          obtain ⟨m0, m1⟩ := mk_cell HMK2.out hjn
          obtain ⟨r, hr, hr1, hr2, hro⟩ := mx_rule HX.out hjn
          obtain ⟨b2, o2, rfl, k2⟩ := hdm.wd j r hr
          have HR := hide hr
          have i1 : (0 : Int) ≤ (j : Int) := by omega
          have i2 : (j : Int) < (n : Int) := by omega
          have HPN := hide (ps_set HX.out HPS.out hjn)
          have HLR := hide (show 0 ≤ r → Live nx ru j from fun q => ⟨[], by rw [hro]; exact q⟩)
          clear hdm hr hro
          go_upto_region 9 with fail
          go_cut [] from 25 to 39 (fun wx => ∃ g2, Mk wx B n g2 ∧ Ps nx ru n g g2 j 1 ∧ Below B W1 wx)
          case first =>
            cases hg : g' j
            · rw [hg] at m0
              by_cases hr0 : 0 ≤ r
              · have dr : decide (0 ≤ r) = true := by simp [hr0]
                go_wp2_with fail
                go_meet
                exact ⟨_, mk_set HMK2.out hjn true, HPN.out true (fun _ => rfl) (fun _ => HLR.out hr0) (fun _ q => by cases q), HB2.out.setCell (Nat.le_refl B) _⟩
              · have dr : decide (0 ≤ r) = false := by simp; omega
                go_wp2_with fail
                go_meet
                exact ⟨_, mk_set HMK2.out hjn false, HPN.out false (fun q => by rw [hg] at q; cases q) (fun q => by cases q) (fun _ _ => cs_rule (fun r' e => by rw [HR.out] at e; cases e; omega)), HB2.out.setCell (Nat.le_refl B) _⟩
            · rw [hg] at m0
              go_wp2_with fail
              go_meet
              exact ⟨_, mk_set HMK2.out hjn true, HPN.out true (fun _ => rfl) (fun _ => HPS.out.sound j hjn hg) (fun _ q => by cases q), HB2.out.setCell (Nat.le_refl B) _⟩
          case rest =>
          obtain ⟨g2, hmk3, hps3, hb3⟩ := hcut
          clear m0 m1 k2 p0 p1 HPN HLR HMK2 HPS HB2
          go_wp2_with fail
          go_loopw [7] (fun c wr => ∃ (m : Nat) (g3 : Nat → Bool), m ≤ 16 ∧ c = .int .i64 m ∧ Mk wr B n g3 ∧ Ps nx ru n g g3 j (m + 1) ∧ Below B W1 wr) (fun c _ => 16 - (intOf c).toNat)
          case atStart => exact ⟨0, g2, Nat.zero_le _, rfl, hmk3, hps3, hb3⟩
          case round =>
            obtain ⟨m, g3, hm16, rfl, hmk, hps, hb⟩ := hrel
            have HMK4 := hide hmk
            have HPS4 := hide hps
            have HB4 := hide hb
            clear hmk hps hb hmk3 hps3 hb3
            by_cases hmlt : m < 16
            · obtain ⟨⟨p0, p1⟩, hdm⟩ := HBW.out wr HB4.out
              obtain ⟨m0, m1⟩ := mk_cell HMK4.out hjn
              obtain ⟨row, z, hrow, hrl, hz, hz1, hz2, hst⟩ := mx_next HX.out hjn hmlt
              obtain ⟨b, off, rfl, k0⟩ := dr_cell hdm.dr hrow hz
              have HST := hide hst
              have i3 : (0 : Int) ≤ (m : Int) := by omega
              have i4 : (m : Int) < 16 := by omega
              have HPN := hide (ps_set HX.out HPS4.out hjn)
              clear hdm hrow hrl hz hst
              cases hg : g3 j
              · rw [hg] at m0
                by_cases hz0 : 0 ≤ z
                · obtain ⟨t, rfl⟩ : ∃ t : Nat, z = t := ⟨z.toNat, by omega⟩
                  have htn : t < n := by omega
                  obtain ⟨t0, t1⟩ := mk_cell HMK4.out htn
                  have dz : decide ((0 : Int) ≤ (t : Int)) = true := by simp
                  cases hgt : g3 t
                  · rw [hgt] at t0
                    have HPX := hide (HPN.out false (fun q => by rw [hg] at q; cases q) (fun q => by cases q) (fun q _ => cs_next q (fun t' e => by rw [HST.out] at e; obtain rfl : t = t' := (by omega); exact hgt)))
                    go_wp2
                    go_roundw
                    case rel => exact ⟨m + 1, _, by omega, by go_num, mk_set HMK4.out hjn false, HPX.out, HB4.out.setCell (Nat.le_refl B) _⟩
                    case measure => simp [intOf]; omega
                  · rw [hgt] at t0
                    have HPX := hide (HPN.out true (fun _ => rfl) (fun _ => live_step (c := m) (by rw [HST.out]; exact HPS4.out.sound t htn hgt)) (fun _ q => by cases q))
                    go_wp2
                    go_roundw
                    case rel => exact ⟨m + 1, _, by omega, by go_num, mk_set HMK4.out hjn true, HPX.out, HB4.out.setCell (Nat.le_refl B) _⟩
                    case measure => simp [intOf]; omega
                · have dz : decide (0 ≤ z) = false := by simp; omega
                  have HPX := hide (HPN.out false (fun q => by rw [hg] at q; cases q) (fun q => by cases q) (fun q _ => cs_next q (fun t' e => by rw [HST.out] at e; omega)))
                  go_wp2
                  go_roundw
                  case rel => exact ⟨m + 1, _, by omega, by go_num, mk_set HMK4.out hjn false, HPX.out, HB4.out.setCell (Nat.le_refl B) _⟩
                  case measure => simp [intOf]; omega
              · rw [hg] at m0
                have HPX := hide (HPN.out true (fun _ => rfl) (fun _ => HPS4.out.sound j hjn hg) (fun _ q => by cases q))
                go_wp2
                go_roundw
                case rel => exact ⟨m + 1, _, by omega, by go_num, mk_set HMK4.out hjn true, HPX.out, HB4.out.setCell (Nat.le_refl B) _⟩
                case measure => simp [intOf]; omega
            · have em : m = 16 := by omega
              subst em
              go_wp2
              go_roundw
              case rel => exact ⟨j + 1, g3, by omega, by go_num, HMK4.out, ps_state HPS4.out, HB4.out⟩
              case measure => simp [intOf]; omega
        · have ej : j = n := by omega
          subst ej
          go_wp2
          go_roundw
          case rel => exact ⟨k + 1, g', by omega, by go_num, HMK2.out, rd_next HX.out HRD.out HPS.out, HB2.out⟩
          case measure => simp [intOf]; omega
    · have ek : k = n + 1 := by omega
      have dk : decide ((k : Int) ≤ (n : Int)) = false := by simp; omega
      have HLV := hide (show IsLive nx ru n g from rd_end (by rw [← ek]; exact HRD.out))
      clear HRD ek
      go_wp2_with fail
      go_loopw [8, 9] (fun v i wr => ∃ j : Nat, j ≤ n ∧ i = .int .i64 j ∧ Mk wr B n g ∧ wr.ownsRow (B + 1) 4 1 v j ((List.range j).map fun (q : Nat) => Value.bool (!g q)) ∧ Below B W1 wr ∧ B + 1 ≤ wr.heap.size) (fun _ i _ => n - (intOf i).toNat)
      case atStart => exact ⟨0, Nat.zero_le _, rfl, HMK.out, World.ownsRow_nil _ _ _ _, HB.out, mk_lt HMK.out⟩
      case round =>
        obtain ⟨j, hj, rfl, hmk, hown, hb, hsz⟩ := hrel
        have HMK2 := hide hmk
        have HB2 := hide hb
        have HO := hide hown
        obtain ⟨x, cx, rfl⟩ := own_form hown
        clear hmk hb hown HMK HB
        by_cases hjn : j < n
        · obtain ⟨m0, m1⟩ := mk_cell HMK2.out hjn
          have i1 : (0 : Int) ≤ (j : Int) := by omega
          have i2 : (j : Int) < (n : Int) := by omega
          obtain ⟨y, hy⟩ : ∃ y, (!g j) = y := ⟨_, rfl⟩
          have HY := hide hy
          have HSZ := hide (show B + 1 ≤ (wr.alloc (.cells #[.bool y] 4)).heap.size by simp; omega)
          have HN := hide (show ((List.range (j + 1)).map fun (q : Nat) => Value.bool (!g q)) = ((List.range j).map fun (q : Nat) => Value.bool (!g q)) ++ [.bool y] by rw [List.range_succ, List.map_append, ← HY.out]; rfl)
          go_wp2_with (first
            | (at_builtin; refine wpList_append_lies _ rfl _ _ 30 rfl (B + 1) 4 i4 (.bool false) 1 1 Try.underlying30 hi4 hz4 hs4 hb4 rfl (by decide) _ j ((List.range j).map fun (q : Nat) => Value.bool (!g q)) rfl (HO.out.alloc _) ⟨_, 0, none⟩ 1 1 [.bool y] rfl rfl (one_new _ _ _) (fun u hu => by simp only [List.mem_singleton] at hu; subst hu; rfl) (by decide) (by unfold maxLen; omega) (by omega) HSZ.out _ rfl ?_; intro g' cap' w3 hown3 hg3 hat3 hlt3))
          have hmk3 : Mk w3 B n g := ((hg3.block B (by have := mk_lt HMK2.out; simp; omega) (fun e => by have := (own_type HO.out e.symm).1; omega)).trans (Below.heap_alloc _ _ _ (mk_lt HMK2.out))).trans HMK2.out
          have hb3 := (HB2.out.alloc (by omega) (.cells #[.bool y] 4)).grown hg3 (by have := HSZ.out; omega) (fun kk hkk => by have := (own_type HO.out hkk).1; omega)
          have hsz3 := hg3.size
          go_roundw
          case rel =>
            exact ⟨j + 1, by omega, by go_num, hmk3, by rw [HN.out]; exact hown3, hb3, by have := HSZ.out; omega⟩
          case measure => simp [intOf]; omega
        · have ej : j = n := by omega
          subst ej
          go_wp2
          go_ret
          exact ⟨g, _, HLV.out, rfl, own_low HO.out (by omega), HB0.out.trans (HB2.out.mono (by omega))⟩
end Go.Proofs.Ythkollnlmnbidaa.A
