/- The document's Same, of two machines that are the same. -/
import Derived.Test.YtccaknabpnpjaaaGreatDoorPk19
import Derived.BigQuiet
import Derived.DeepKeys5
import Derived.Maps.RangeWalk
import Derived.Deep.RegionLaw
import Derived.Maps.OwnSet
import Derived.Maps.AppendAt
namespace Go.Proofs.YtccaknabpnpjaaaGreatDoor.A
open Go.RowKit Go.Maps
set_option linter.unusedVariables false

theorem laidZ : laidOutB Tryz.prog = true := by kernel_rfl
theorem smallZ : Tryz.prog.types.size + 2 ≤ 10000 := of_decide_eq_true (by kernel_rfl)
theorem types_succZ : ∃ m, Tryz.prog.types.size = m + 1 := ⟨176, by kernel_rfl⟩
theorem cells3Z : Tryz.prog.cellsOf 3 = 1 := by kernel_rfl
/-- 16 numbers that fit. -/
def Fit16 (x : List Int) : Prop := x.length = 16 ∧ ∀ v ∈ x, -1 ≤ v ∧ v ≤ 10000
theorem row63 : 63 < Tryz.prog.types.size := of_decide_eq_true (by kernel_rfl)
theorem keyT63 : Tryz.prog.keyType 63 = true := by kernel_rfl
theorem wide63 : (match Tryz.prog.underlying 63 with | some (.array _ _) | some (.struct _) => true | _ => false) = true := by rw [Tryz.underlying63]
set_option maxRecDepth 100000 in
theorem law63 : Keyed Tryz.prog 63 := Keyed.of_law (deep_law_gate laidZ smallZ row63 keyT63 wide63)
theorem cells63 : Tryz.prog.cellsOf 63 = 16 := by kernel_rfl
theorem lits63 {x : List Int} (hx : Fit16 x) (m : Nat) : ∃ ls, Tryz.prog.keyLits (m + 2) 63 (cI x) = some ls := by
  have hl : (cI x).length = 16 := by rw [cI_len]; exact hx.1
  have hu : Tryz.prog.keyLits (m + 2) 63 (cI x) = if (cI x).length = Tryz.prog.cellsOf 63 then ((List.range 16).mapM fun i => Tryz.prog.keyLits (m + 1) 3 (((cI x).drop (i * Tryz.prog.cellsOf 3)).take (Tryz.prog.cellsOf 3))).map List.flatten else none := by
    conv => lhs; unfold Program.keyLits
    simp only [Tryz.underlying63]
  rw [hu, if_pos (by rw [cells63, hl]), cells3Z]
  have : ∀ (L : List Nat), (∀ i ∈ L, i < 16) → ∃ r, (L.mapM fun i => Tryz.prog.keyLits (m + 1) 3 (((cI x).drop (i * 1)).take 1)) = some r := by
    intro L
    induction L with
    | nil => intro _; exact ⟨[], rfl⟩
    | cons i r ih =>
      intro h
      obtain ⟨r', e⟩ := ih (fun j hj => h j (by simp [hj]))
      have hi := h i (by simp)
      have hix : i < x.length := by rw [hx.1]; exact hi
      have e1 : ((cI x).drop (i * 1)).take 1 = [.int .i64 x[i]] := by
        rw [Nat.mul_one, List.drop_eq_getElem_cons (by omega)]
        simp [cI]
      have hv := hx.2 x[i] (List.getElem_mem hix)
      rw [List.mapM_cons, e1, e]
      simp only [Program.keyLits, Tryz.underlying3]
      rw [WalkArith.wf_i64 (by omega)]
      exact ⟨_, rfl⟩
  obtain ⟨r, e⟩ := this (List.range 16) (fun i hi => by simpa using hi)
  rw [e]
  exact ⟨_, rfl⟩
theorem key63 {x : List Int} (hx : Fit16 x) : ∃ l, keyOf Tryz.prog 63 (.agg (cI x).toArray) = some l := by
  obtain ⟨m, hm⟩ := types_succZ
  obtain ⟨ls, e⟩ := lits63 hx m
  have hsz : (cI x).toArray.size = 16 := by simp [cI_len, hx.1]
  simp only [keyOf, Tryz.underlying63, keyT63, Value.formed, hsz, cells63, Value.cells, hm]
  rw [e]
  exact ⟨_, rfl⟩
set_option maxRecDepth 100000 in
theorem ne63 {x : List Int} (hx : Fit16 x) (w : World) : (binOp .neq 63 (.agg (cI x).toArray) (.agg (cI x).toArray)).run Tryz.prog w = .ok (.bool false) w := by
  obtain ⟨l, hl⟩ := key63 hx
  obtain ⟨r, h1, h2⟩ := run_equal_deep (P := Tryz.prog) w (m := Tryz.prog.types.size + 1) (by have := smallZ; omega) keyT63 wide63 hl hl
  have h3 : r = true := h2.2 rfl
  subst h3
  simp only [binOp, Sem.run_bind, h1, Result.andThen_ok, Sem.run_pure]
  rfl

theorem four28 (w : World) (x y u v : Value) : ((w.alloc (.cells #[x, y] 28)).alloc (.cells #[u, v] 28)).heap[w.heap.size]? = some (.cells #[x, y] 28 (0, 0)) ∧ ((w.alloc (.cells #[x, y] 28)).alloc (.cells #[u, v] 28)).heap[w.heap.size + 1]? = some (.cells #[u, v] 28 (0, 0)) := by
  have e : (w.alloc (.cells #[x, y] 28)).heap.size = w.heap.size + 1 := by simp
  refine ⟨?_, ?_⟩
  · rw [Below.heap_alloc _ _ _ (by simp)]; exact heap_alloc_last w _
  · rw [← e]; exact heap_alloc_last _ _

attribute [local go_sem ↓] wp_load63s
attribute [local go_sem] rowM_drew rowMok_drew
set_option maxRecDepth 100000 in
set_option maxHeartbeats 3200000 in
theorem dSame_any (a0 a1 b0 b1 : Option Addr) (n0 n1 c0 c1 d0 d1 : Nat) (nx : List (List Int)) (ru : List Int) (w : World) (h0 : nx.length = n0) (h1 : ru.length = n1) (hl0 : n0 ≤ 10000) (hl1 : n1 ≤ 10000) (hA : Dr w a0 nx) (hB : Wd w a1 ru) (hC : Dr w b0 nx) (hD : Wd w b1 ru) (hf : ∀ x ∈ nx, ∀ z ∈ x, -1 ≤ z ∧ z ≤ 10000) :
    Calls Tryz.prog 9 #[.agg #[.slice a0 n0 c0, .slice a1 n1 c1], .agg #[.slice b0 n0 d0, .slice b1 n1 d1]] w fun e w' => e = .returned (.bool true) ∧ Below w.heap.size w w' := by
  have hX := four28 w (.slice a0 n0 c0) (.slice a1 n1 c1) (.slice b0 n0 d0) (.slice b1 n1 d1)
  have hb0 := ((Below.refl w.heap.size w).alloc (Nat.le_refl _) (.cells #[.slice a0 n0 c0, .slice a1 n1 c1] 28)).alloc (by simp) (.cells #[.slice b0 n0 d0, .slice b1 n1 d1] 28)
  have HB0 := hide hb0
  have HA := hide (dr_below hb0 hA)
  have HB := hide (wd_below hb0 hB)
  have HC := hide (dr_below hb0 hC)
  have HD := hide (wd_below hb0 hD)
  have H0 := hide h0
  have H1 := hide h1
  have HF := hide hf
  have HX := hide hX
  have HL := hide (show w.heap.size + 1 < ((w.alloc (.cells #[.slice a0 n0 c0, .slice a1 n1 c1] 28)).alloc (.cells #[.slice b0 n0 d0, .slice b1 n1 d1] 28)).heap.size by simp)
  obtain ⟨p0, p1, -⟩ := d_cells hX.1
  obtain ⟨p2, p3, -⟩ := d_cells hX.2
  clear hX hb0 hA hB hC hD h0 h1 hf
  have e0 : ((n0 : Int) != (n0 : Int)) = false := by simp
  have e1 : ((n1 : Int) != (n1 : Int)) = false := by simp
  go_enter Tryz.func9, Tryz.ntmps9
  go_wp2_with fail
  generalize (w.alloc (.cells #[.slice a0 n0 c0, .slice a1 n1 c1] 28)).alloc (.cells #[.slice b0 n0 d0, .slice b1 n1 d1] 28) = W at *
  generalize hP : w.heap.size = P at *
  go_loopw [5] (fun i wr => ∃ k : Nat, k ≤ n0 ∧ i = .int .i64 k ∧ Below W.heap.size W wr) (fun i _ => n0 - (intOf i).toNat)
  case atStart => exact ⟨0, Nat.zero_le _, rfl, Below.refl _ _⟩
  case round =>
    obtain ⟨k, hk, rfl, hb⟩ := hrel
    have HBW := hide hb
    clear p0 p1 p2 p3 hb
    obtain ⟨p0, p1, -⟩ := d_cells ((HBW.out.block P (by have := HL.out; omega)).trans HX.out.1)
    obtain ⟨p2, p3, -⟩ := d_cells ((HBW.out.block (P + 1) HL.out).trans HX.out.2)
    by_cases hlt : k < n0
    · obtain ⟨row, hr⟩ : ∃ row, nx[k]? = some row := ⟨_, List.getElem?_eq_getElem (by rw [H0.out]; exact hlt)⟩
      obtain ⟨hrl, b, off, rfl, hrg⟩ := dr_below HBW.out HA.out k row hr
      obtain ⟨-, b', off', rfl, hrg'⟩ := dr_below HBW.out HC.out k row hr
      obtain ⟨r1, r2⟩ := rowM_at hrg (by rw [cI_len]; exact hrl)
      obtain ⟨r3, r4⟩ := rowM_at hrg' (by rw [cI_len]; exact hrl)
      have hne := ne63 (x := row) ⟨hrl, fun z hz => HF.out row (List.mem_of_getElem? hr) z hz⟩
      have i3 : (0 : Int) ≤ (k : Int) := by omega
      have i4 : (k : Int) < (n0 : Int) := by omega
      clear hr hrl hrg hrg'
      generalize cI row = cs at *
      go_wp2_with fail
      go_region_law (fail)
      all_goals
        go_frame
        go_wp2
        go_roundw
        case rel =>
          exact ⟨k + 1, by omega, by go_num, HBW.out.trans ((below_drew1 wr).mono HBW.out.size)⟩
        case measure => simp [intOf]; omega
    · have e : k = n0 := by omega
      subst e
      go_wp2_with fail
      go_loopw [6] (fun i wr2 => ∃ j : Nat, j ≤ n1 ∧ i = .int .i64 j ∧ Below W.heap.size W wr2) (fun i _ => n1 - (intOf i).toNat)
      case atStart => exact ⟨0, Nat.zero_le _, rfl, HBW.out⟩
      case round =>
        obtain ⟨j, hj, rfl, hb2⟩ := hrel
        have HBV := hide hb2
        clear p0 p1 p2 p3 hb2
        obtain ⟨p0, p1, -⟩ := d_cells ((HBV.out.block P (by have := HL.out; omega)).trans HX.out.1)
        obtain ⟨p2, p3, -⟩ := d_cells ((HBV.out.block (P + 1) HL.out).trans HX.out.2)
        by_cases hlt2 : j < n1
        · obtain ⟨z, hz⟩ : ∃ z, ru[j]? = some z := ⟨_, List.getElem?_eq_getElem (by rw [H1.out]; exact hlt2)⟩
          obtain ⟨b, off, rfl, q0⟩ := wd_below HBV.out HB.out j z hz
          obtain ⟨b', off', rfl, q1⟩ := wd_below HBV.out HD.out j z hz
          have i3 : (0 : Int) ≤ (j : Int) := by omega
          have i4 : (j : Int) < (n1 : Int) := by omega
          have hne : (z != z) = false := by simp
          have heq : (z == z) = true := by simp
          clear hz
          go_wp2_with fail
          go_quiet (fail)
          go_wp2
          go_roundw
          case rel => exact ⟨j + 1, by omega, by go_num, below_drewN HBV.out _⟩
          case measure => simp [intOf]; omega
        · have e : j = n1 := by omega
          subst e
          go_wp2
          go_ret
          exact ⟨rfl, by rw [hP]; exact HB0.out.trans (HBV.out.mono (by have := HB0.out.size; omega))⟩
end Go.Proofs.YtccaknabpnpjaaaGreatDoor.A
