/- The document's Build: four rows that are made. -/
import Derived.Test.YtccaknabpnpjaaaGreatDoorT4
import Derived.BigRegion
namespace Go.Proofs.YtccaknabpnpjaaaGreatDoor.A
open Go.RowKit

theorem made_one (z : Value) (n : Nat) : madeCells #[z] n = (List.replicate n z).toArray := by
  apply Array.ext_getElem?
  intro i
  by_cases hi : i < n
  · simp [madeCells, hi, Nat.mod_one]
  · rw [Array.getElem?_eq_none (by simp [madeCells]; omega), Array.getElem?_eq_none (by simp; omega)]
theorem make25 (n : Nat) (hn : n ≤ 10000) (w : World) : (Instr.makeSlice 52 (.int .i64 (n : Int)) (.int .i64 (n : Int))).run Tryz.prog w = .ok (.slice (some ⟨w.heap.size, 0, none⟩) n n) (w.alloc (.cells (List.replicate n (.slice none 0 0)).toArray 26)) := by
  have := run_make_row' (P := Tryz.prog) 52 26 (.slice none 0 0) 24 Tryz.underlying52 info26 rfl .i64 .i64 n (by omega) (by omega) w
  rw [made_one] at this
  exact this
theorem make26 (n : Nat) (hn : n ≤ 10000) (w : World) : (Instr.makeSlice 53 (.int .i64 (n : Int)) (.int .i64 (n : Int))).run Tryz.prog w = .ok (.slice (some ⟨w.heap.size, 0, none⟩) n n) (w.alloc (.cells (List.replicate n (.int .u16 0)).toArray 36)) := by
  have := run_make_row' (P := Tryz.prog) 53 36 (.int .u16 0) 2 Tryz.underlying53 info36 rfl .i64 .i64 n (by omega) (by omega) w
  rw [made_one] at this
  exact this
theorem make27 (n : Nat) (hn : n ≤ 10000) (w : World) : (Instr.makeSlice 26 (.int .i64 (n : Int)) (.int .i64 (n : Int))).run Tryz.prog w = .ok (.slice (some ⟨w.heap.size, 0, none⟩) n n) (w.alloc (.cells (List.replicate n (.int .i64 0)).toArray 3)) := by
  have := run_make_row' (P := Tryz.prog) 26 3 (.int .i64 0) 8 Tryz.underlying26 info3 rfl .i64 .i64 n (by omega) (by omega) w
  rw [made_one] at this
  exact this

theorem five_new (w : World) (o1 o2 o3 o4 o5 : Obj) : ((((((w.alloc o1).alloc o2).alloc o3).alloc o4).alloc o5).drew.heap[w.heap.size]? = some o1 ∧ (((((w.alloc o1).alloc o2).alloc o3).alloc o4).alloc o5).drew.heap[w.heap.size + 1]? = some o2 ∧ (((((w.alloc o1).alloc o2).alloc o3).alloc o4).alloc o5).drew.heap[w.heap.size + 1 + 1]? = some o3 ∧ (((((w.alloc o1).alloc o2).alloc o3).alloc o4).alloc o5).drew.heap[w.heap.size + 1 + 1 + 1]? = some o4 ∧ (((((w.alloc o1).alloc o2).alloc o3).alloc o4).alloc o5).drew.heap[w.heap.size + 1 + 1 + 1 + 1]? = some o5) ∧ Below w.heap.size w (((((w.alloc o1).alloc o2).alloc o3).alloc o4).alloc o5).drew := by
  have z1 : (w.alloc o1).heap.size = w.heap.size + 1 := by simp
  have z2 : ((w.alloc o1).alloc o2).heap.size = w.heap.size + 1 + 1 := by simp
  have z3 : (((w.alloc o1).alloc o2).alloc o3).heap.size = w.heap.size + 1 + 1 + 1 := by simp
  have z4 : ((((w.alloc o1).alloc o2).alloc o3).alloc o4).heap.size = w.heap.size + 1 + 1 + 1 + 1 := by simp
  have h1 := heap_alloc_last w o1
  have h2 := heap_alloc_last (w.alloc o1) o2
  have h3 := heap_alloc_last ((w.alloc o1).alloc o2) o3
  have h4 := heap_alloc_last (((w.alloc o1).alloc o2).alloc o3) o4
  have h5 := heap_alloc_last ((((w.alloc o1).alloc o2).alloc o3).alloc o4) o5
  rw [z1] at h2
  rw [z2] at h3
  rw [z3] at h4
  rw [z4] at h5
  refine ⟨⟨?_, ?_, ?_, ?_, h5⟩, ((((((Below.refl w.heap.size w).alloc (Nat.le_refl _) o1).alloc (by omega) o2).alloc (by omega) o3).alloc (by omega) o4).alloc (by omega) o5).drew⟩
  · show (((((w.alloc o1).alloc o2).alloc o3).alloc o4).alloc o5).heap[w.heap.size]? = _
    rw [Below.heap_alloc _ _ _ (by omega), Below.heap_alloc _ _ _ (by omega), Below.heap_alloc _ _ _ (by omega), Below.heap_alloc _ _ _ (by omega)]; exact h1
  · show (((((w.alloc o1).alloc o2).alloc o3).alloc o4).alloc o5).heap[w.heap.size + 1]? = _
    rw [Below.heap_alloc _ _ _ (by omega), Below.heap_alloc _ _ _ (by omega), Below.heap_alloc _ _ _ (by omega)]; exact h2
  · show (((((w.alloc o1).alloc o2).alloc o3).alloc o4).alloc o5).heap[w.heap.size + 1 + 1]? = _
    rw [Below.heap_alloc _ _ _ (by omega), Below.heap_alloc _ _ _ (by omega)]; exact h3
  · show (((((w.alloc o1).alloc o2).alloc o3).alloc o4).alloc o5).heap[w.heap.size + 1 + 1 + 1]? = _
    rw [Below.heap_alloc _ _ _ (by omega)]; exact h4

set_option maxRecDepth 100000 in
set_option maxHeartbeats 6400000 in
theorem dbuild_yes (n : Nat) (hn : n ≤ 900) (hlay : ∀ (w0 : World) (qF qS qT B N : Nat) (x3 : Value), N ≤ 10000 → w0.heap.size ≤ qF → w0.heap.size ≤ qS → w0.heap.size ≤ qT → ∀ t : Ex n, LayOf w0 qF qS qT B N x3 n t) (a : Option Addr) (len cap : Nat) (l : List (Ex n)) (w : World) (hl : len ≤ maxLen) (h6 : l.length = len) (hkids : Kids w n a len l) (hyes : mayB l = true) :
    Calls Tryz.prog 24 #[.slice a len cap] w fun e w' => ∃ a0 a1 a2 a3 N c0 c1 c2 c3 fs ss ts rs, e = .returned (.tuple #[.agg #[.slice a0 N c0, .slice a1 N c1, .slice a2 N c2, .slice a3 N c3], .bool true]) ∧ Nm w' a0 a1 a2 a3 fs ss ts rs ∧ Is (FrA l) (SpA l) N fs ss ts ∧ RsI l len rs ∧ rs.length = N ∧ N = posE 1 l len ∧ Below w.heap.size w w' := by
  obtain ⟨hl1, hl2, hful, hshp⟩ := may_open hyes hkids h6
  have hall : ∀ x ∈ l, rightE n x = true := by
    unfold mayB at hyes
    simp only [Bool.and_eq_true, decide_eq_true_eq, List.all_eq_true] at hyes
    exact hyes.2.2
  have hb0 := ((Below.refl w.heap.size w).alloc (Nat.le_refl _) (.cells #[.slice none 0 0, .slice none 0 0, .slice none 0 0, .slice none 0 0] 55))
  have HB0 := hide hb0
  have HN4 := hide (nil4 w)
  have HFUL := hide hful
  have HSH := hide hshp
  have HALL := hide hall
  have HK := hide (kids_below hb0 hkids)
  have HL6 := hide h6
  have HLAY := hide hlay
  have HSM := hide (show ∀ i u j, SpA l i u j → u < 65536 from fun i u j ⟨p, hp, h⟩ => by
    obtain ⟨_, _, hm⟩ := lay_rng _ _ _ hp
    obtain ⟨k, hk, e⟩ := List.getElem_of_mem hm
    obtain ⟨x', b, off, c0, c1, c2, _, hx', _, _, _, hr⟩ := hkids w (Below.refl _ _) k (by omega)
    rw [List.getElem?_eq_getElem hk, e] at hx'
    cases hx'
    exact sp_small n p.2 _ _ i u j hr h)
  clear hlay
  clear hkids h6 hyes hb0 hful hshp hall
  unfold maxLen at hl
  go_enter Tryz.func24, Tryz.ntmps24
  go_wp2_with fail
  generalize w.alloc (.cells #[.slice none 0 0, .slice none 0 0, .slice none 0 0, .slice none 0 0] 55) = W at *
  generalize hQ : w.heap.size = P at *
  have HPW := hide (show P ≤ W.heap.size from by rw [← hQ]; exact HB0.out.size)
  go_loopw [4, 5] (fun u i wr => ∃ (k : Nat), k ≤ len ∧ i = .int .i64 k ∧ u = .int .i64 (posE 1 l k : Nat) ∧ posE 1 l k ≤ 1 + 200 * k ∧ Below W.heap.size W wr) (fun _ i _ => len - (intOf i).toNat)
  case atStart => exact ⟨0, Nat.zero_le _, rfl, by simp [posE], by simp [posE], Below.refl _ _⟩
  case round =>
    obtain ⟨k, hk, rfl, rfl, hpb, hb⟩ := hrel
    have HBW := hide hb
    clear hb
    by_cases hlt : k < len
    · have d1 : decide ((15 : Int) < (k : Int)) = false := by simp; omega
      obtain ⟨x, b, off, c0, c1, c2, rfl, hx, k0, k1, k2, k3⟩ := HK.out wr HBW.out k hlt
      have HX3 := hide k3
      have HXX := hide hx
      have i3 : (0 : Int) ≤ (k : Int) := by omega
      have i4 : (k : Int) < (len : Int) := by omega
      clear hx k3
      go_wp2_with fail
      refine (rright_any n x _ wr (by omega) HX3.out).mono ?_
      rintro e w2 ⟨rfl, hb2⟩
      have hr := HALL.out x (List.mem_of_getElem? HXX.out)
      rw [hr]
      have hrr := (right_iff (HFUL.out x (List.mem_of_getElem? HXX.out))).1 hr
      have HB2 := hide (HBW.out.trans (hb2.mono HBW.out.size))
      have HX4 := hide (rx_below hb2 n x _ HX3.out)
      have r0 := (hb2.cell (p := ⟨b, off + k * 3, none⟩) (cell_lt k0)).trans k0
      have r1 := (hb2.cell (p := ⟨b, off + k * 3 + 1, none⟩) (cell_lt k1)).trans k1
      have r2 := (hb2.cell (p := ⟨b, off + k * 3 + 2, none⟩) (cell_lt k2)).trans k2
      have hnd := (nodes_real n x).1 (by omega)
      have HPN := hide (pos_next (s := 1) HXX.out)
      clear hr hb2 k0 k1 k2
      obtain ⟨pk, hpk⟩ : ∃ pk, posE 1 l k = pk := ⟨_, rfl⟩
      obtain ⟨r, hr'⟩ : ∃ r, realN n x = r := ⟨_, rfl⟩
      rw [hpk] at hpb HPN ⊢
      rw [hr'] at hnd hrr HPN
      have hr100 : r ≤ 100 := by omega
      obtain ⟨tt, ett⟩ : ∃ tt : Nat, (pk : Int) + 2 * (r : Int) = (tt : Int) := ⟨pk + 2 * r, by omega⟩
      have HTT := hide (show tt = pk + 2 * r by omega)
      clear hpk hr' hrr
      go_wp2_with fail
      refine (rnodes_any n x _ w2 (by omega) HX4.out).mono ?_
      rintro e w3 ⟨rfl, hb3⟩
      rw [hnd]
      have HB3 := hide (HB2.out.trans (hb3.mono HB2.out.size))
      clear hb3 r0 r1 r2 hnd
      go_wp2
      go_roundw
      case rel => exact ⟨k + 1, by omega, by go_num, by rw [HPN.out, ← HTT.out], by rw [HPN.out]; omega, HB3.out⟩
      case measure => simp [intOf]; omega
    · have e : k = len := by omega
      subst e
      obtain ⟨N, hN⟩ : ∃ N, posE 1 l k = N := ⟨_, rfl⟩
      rw [hN] at hpb ⊢
      have HNN := hide hN
      have hNb : N ≤ 3300 := by omega
      have hN1 : 1 ≤ N := by rw [← hN]; unfold posE; omega
      have z0 : ((k : Int) == 0) = false := by simp; omega
      have mk25 := make25 N (by omega)
      have mk26 := make26 N (by omega)
      have mk27 := make27 N (by omega)
      clear hN
      obtain ⟨z25, hz25⟩ : ∃ z, (List.replicate N (Value.slice none 0 0)).toArray = z := ⟨_, rfl⟩
      obtain ⟨z26, hz26⟩ : ∃ z, (List.replicate N (Value.int .u16 0)).toArray = z := ⟨_, rfl⟩
      obtain ⟨z27, hz27⟩ : ∃ z, (List.replicate N (Value.int .i64 0)).toArray = z := ⟨_, rfl⟩
      rw [hz25] at mk25
      rw [hz26] at mk26
      rw [hz27] at mk27
      have HZ25 := hide hz25
      have HZ26 := hide hz26
      have HZ27 := hide hz27
      clear hz25 hz26 hz27
      go_upto_region 10 with fail
      go_cut [6] from 39 to 47 (fun s6 wx => ∃ qF qS qT qR Q, s6 = .pointer (some ⟨Q, 0, none⟩) ∧
        wx.heap[Q]? = some (.cells #[.slice (some ⟨qF, 0, none⟩) N N, .slice (some ⟨qS, 0, none⟩) N N, .slice (some ⟨qT, 0, none⟩) N N, .slice (some ⟨qR, 0, none⟩) N N] 55 (0, 0)) ∧ wx.heap[qF]? = some (.cells z25 26 (0, 0)) ∧ wx.heap[qS]? = some (.cells z26 36 (0, 0)) ∧ wx.heap[qT]? = some (.cells z27 3 (0, 0)) ∧ wx.heap[qR]? = some (.cells z27 3 (0, 0)) ∧ (wr.heap.size ≤ qF ∧ wr.heap.size ≤ qS ∧ wr.heap.size ≤ qT ∧ wr.heap.size ≤ qR ∧ wr.heap.size ≤ Q) ∧ (qF < wr.heap.size + 5 ∧ qS < wr.heap.size + 5 ∧ qT < wr.heap.size + 5 ∧ qR < wr.heap.size + 5 ∧ Q < wr.heap.size + 5) ∧ qR ≠ qT ∧ wr.heap.size + 5 ≤ wx.heap.size ∧ Below wr.heap.size wr wx)
      case first =>
        clear HFUL HSH HALL HK HL6 HB0 HN4 HBW HPW HLAY HSM HNN HZ25 HZ26 HZ27
        go_region
        all_goals
          go_wp2_with fail
          go_meet
          refine' ⟨_, _, _, _, _, rfl, ?h1, ?h2, ?h3, ?h4, ?h5, ?h6, ?h7, ?h8, ?h9, (five_new wr _ _ _ _ _).2⟩
          case h1 => first | exact (five_new wr _ _ _ _ _).1.1 | exact (five_new wr _ _ _ _ _).1.2.1 | exact (five_new wr _ _ _ _ _).1.2.2.1 | exact (five_new wr _ _ _ _ _).1.2.2.2.1 | exact (five_new wr _ _ _ _ _).1.2.2.2.2
          case h2 => first | exact (five_new wr _ _ _ _ _).1.1 | exact (five_new wr _ _ _ _ _).1.2.1 | exact (five_new wr _ _ _ _ _).1.2.2.1 | exact (five_new wr _ _ _ _ _).1.2.2.2.1 | exact (five_new wr _ _ _ _ _).1.2.2.2.2
          case h3 => first | exact (five_new wr _ _ _ _ _).1.1 | exact (five_new wr _ _ _ _ _).1.2.1 | exact (five_new wr _ _ _ _ _).1.2.2.1 | exact (five_new wr _ _ _ _ _).1.2.2.2.1 | exact (five_new wr _ _ _ _ _).1.2.2.2.2
          case h4 => first | exact (five_new wr _ _ _ _ _).1.1 | exact (five_new wr _ _ _ _ _).1.2.1 | exact (five_new wr _ _ _ _ _).1.2.2.1 | exact (five_new wr _ _ _ _ _).1.2.2.2.1 | exact (five_new wr _ _ _ _ _).1.2.2.2.2
          case h5 => first | exact (five_new wr _ _ _ _ _).1.1 | exact (five_new wr _ _ _ _ _).1.2.1 | exact (five_new wr _ _ _ _ _).1.2.2.1 | exact (five_new wr _ _ _ _ _).1.2.2.2.1 | exact (five_new wr _ _ _ _ _).1.2.2.2.2
          case h6 => omega
          case h7 => omega
          case h8 => omega
          case h9 => simp
      case rest =>
      obtain ⟨qF, qS, qT, qR, Q, rfl, hQb, hqF, hqS, hqT, hqR, ⟨l1, l2, l3, l4, l0⟩, ⟨l5, l6, l7, l8, l10⟩, l9, l11, hbc⟩ := hcut
      obtain ⟨B5, hB5⟩ : ∃ B5, wr.heap.size + 5 = B5 := ⟨_, rfl⟩
      rw [hB5] at l5 l6 l7 l8 l10 l11
      have HBC := hide (HBW.out.trans (hbc.mono HBW.out.size))
      have HLO := hide (show wr.heap.size ≤ qF ∧ wr.heap.size ≤ qS ∧ wr.heap.size ≤ qT ∧ wr.heap.size ≤ qR ∧ wr.heap.size ≤ Q ∧ qF < B5 ∧ qS < B5 ∧ qT < B5 ∧ qR < B5 ∧ Q < B5 ∧ wr.heap.size ≤ B5 from ⟨l1, l2, l3, l4, l0, l5, l6, l7, l8, l10, by omega⟩)
      have HNQ := hide (show Q ≠ qF ∧ Q ≠ qS ∧ Q ≠ qT ∧ Q ≠ qR from ⟨fun e => by rw [e, hqF] at hQb; simp at hQb, fun e => by rw [e, hqS] at hQb; simp at hQb, fun e => by rw [e, hqT] at hQb; simp at hQb, fun e => by rw [e, hqR] at hQb; simp at hQb⟩)
      clear hB5
      have HQB := hide hQb
      have HIS := hide (show Is (FB l 0) (SB l 0) N (List.replicate N []) (List.replicate N 0) (List.replicate N 0) from
        ⟨by simp, by simp, by simp, fun i m h => by rw [List.eq_of_mem_replicate (List.mem_of_getElem? h)]; exact .nil, fun i m h z => by
          rw [List.eq_of_mem_replicate (List.mem_of_getElem? h)]
          exact ⟨fun h => (by cases h), fun ⟨_, _, _, hp, _⟩ => (by simp at hp)⟩, fun i s t h1 h2 => .inr ⟨fun _ _ ⟨_, hp, _⟩ => (by simp at hp), List.eq_of_mem_replicate (List.mem_of_getElem? h1), List.eq_of_mem_replicate (List.mem_of_getElem? h2)⟩⟩)
      have HDX := hide (show Dx wc qF qS qT B5 (FB l 0) (SB l 0) N from ⟨List.replicate N (.slice none 0 0), _, _, _, ⟨by rw [HZ25.out]; exact hqF, by rw [List.map_replicate]; exact hqS.trans (by rw [← HZ26.out]; rfl), by rw [List.map_replicate, HZ27.out]; exact hqT, by simp, l5, l6, l7, l11, fun i v m h1 h2 => .inl ⟨List.eq_of_mem_replicate (List.mem_of_getElem? h1), List.eq_of_mem_replicate (List.mem_of_getElem? h2)⟩⟩, HIS.out⟩)
      have HIR := hide (show Ir wc qR (List.replicate N 0) from by unfold Ir; rw [List.map_replicate, HZ27.out]; exact hqR)
      have HNE := hide (show qR ≠ qF ∧ qR ≠ qS ∧ qR ≠ qT from ⟨fun e => by rw [e, hqF] at hqR; simp at hqR, fun e => by rw [e, hqS] at hqR; simp at hqR, l9⟩)
      clear hqF hqS hqT hqR hbc hQb l0 l1 l2 l3 l4 l5 l6 l7 l8 l9 l10 l11 mk25 mk26 mk27
      have HLW := hide (show W.heap.size ≤ wr.heap.size from HBW.out.size)
      go_wp2_with fail
      go_loopw [7] (fun i wr2 => ∃ (j : Nat), j ≤ N ∧ i = .int .i64 j ∧ Ir wr2 qR (List.replicate j (-1) ++ List.replicate (N - j) 0) ∧ Dx wr2 qF qS qT B5 (FB l 0) (SB l 0) N ∧ wr2.heap[Q]? = some (.cells #[.slice (some ⟨qF, 0, none⟩) N N, .slice (some ⟨qS, 0, none⟩) N N, .slice (some ⟨qT, 0, none⟩) N N, .slice (some ⟨qR, 0, none⟩) N N] 55 (0, 0)) ∧ Below W.heap.size W wr2) (fun i _ => N - (intOf i).toNat)
      case atStart => exact ⟨0, Nat.zero_le _, rfl, by simpa using HIR.out, HDX.out, HQB.out, HBC.out⟩
      case round =>
        obtain ⟨j, hj, rfl, hir, hdx, hqb, hbj⟩ := hrel
        have HIRJ := hide hir
        have HDXJ := hide hdx
        have HQBJ := hide hqb
        have HBJ := hide hbj
        obtain ⟨⟨b0, b1, b2, b3⟩, -⟩ := blk29 hqb
        clear hir hdx hqb hbj
        by_cases hjN : j < N
        · obtain ⟨y, hy⟩ : ∃ y, (List.replicate j (-1 : Int) ++ List.replicate (N - j) 0)[j]? = some y := ⟨_, List.getElem?_eq_getElem (by simp; omega)⟩
          obtain ⟨cr, fr⟩ := ir_cell HIRJ.out hy
          have j3 : (0 : Int) ≤ (j : Int) := by omega
          have j4 : (j : Int) < (N : Int) := by omega
          have HIR2 := hide (by have := ir_set HIRJ.out j (-1); rw [rep_set N j hjN] at this; exact this)
          have HOT := hide (fun k (_ : k < wr.heap.size) (hk : k ≠ qR) => Below.heap_setCell wr ⟨qR, j, none⟩ (.int .i64 (-1)) k hk)
          clear hy
          go_wp2
          go_roundw
          case rel => exact ⟨j + 1, by omega, by go_num, HIR2.out, dx_other HDXJ.out (by have := HLO.out; omega) HNE.out.1 HNE.out.2.1 HNE.out.2.2 (by simp) HOT.out, by rw [Below.heap_setCell _ _ _ _ HNQ.out.2.2.2]; exact HQBJ.out, HBJ.out.setCell (p := ⟨qR, j, none⟩) (by have := HLO.out; have := HLW.out; show W.heap.size ≤ qR; omega) _⟩
          case measure => simp [intOf]; omega
        · have e : j = N := by omega
          subst e
          have HIR2 := hide (show Ir wr qR (List.replicate j (-1)) from by have := HIRJ.out; rw [Nat.sub_self] at this; simpa using this)
          go_wp2_with fail
          go_loopw [8, 9] (fun u i wr3 => ∃ (k3 : Nat) (rs : List Int), k3 ≤ k ∧ i = .int .i64 k3 ∧ u = .int .i64 (posE 1 l k3 : Nat) ∧ Dx wr3 qF qS qT B5 (FB l k3) (SB l k3) j ∧ Ir wr3 qR rs ∧ rs.length = j ∧ RsI l k3 rs ∧ wr3.heap[Q]? = some (.cells #[.slice (some ⟨qF, 0, none⟩) j j, .slice (some ⟨qS, 0, none⟩) j j, .slice (some ⟨qT, 0, none⟩) j j, .slice (some ⟨qR, 0, none⟩) j j] 55 (0, 0)) ∧ Below W.heap.size W wr3) (fun _ i _ => k - (intOf i).toNat)
          case atStart => exact ⟨0, List.replicate j (-1), Nat.zero_le _, rfl, by simp [posE], HDXJ.out, HIR2.out, by simp, rsd_zero l j, HQBJ.out, HBJ.out⟩
          case round =>
            obtain ⟨k3, rs, hk3, rfl, rfl, hdx, hir, hrl, hrs, hqb, hb3⟩ := hrel
            have HD3 := hide hdx
            have HI3 := hide hir
            have HRL := hide hrl
            have HRS := hide hrs
            have HQ3 := hide hqb
            have HB3 := hide hb3
            clear hdx hir hrl hrs hqb hb3 b0 b1 b2 b3
            obtain ⟨⟨b0, b1, b2, b3⟩, -⟩ := blk29 HQ3.out
            by_cases hlt3 : k3 < k
            · obtain ⟨x, b, off, c0, c1, c2, rfl, hx, m0, m1, m2, -⟩ := HK.out wr HB3.out k3 hlt3
              obtain ⟨x', b', off', c0', c1', c2', eb, hx', m0', m1', m2', m3'⟩ := HK.out W (Below.refl _ _) k3 hlt3
              obtain rfl : x = x' := Option.some.inj (hx.symm.trans hx')
              cases eb
              have e0 : c0' = c0 := Option.some.inj (((HB3.out.cell (p := ⟨b, off + k3 * 3, none⟩) (cell_lt m0')).trans m0').symm.trans m0)
              have e1 : c1' = c1 := Option.some.inj (((HB3.out.cell (p := ⟨b, off + k3 * 3 + 1, none⟩) (cell_lt m1')).trans m1').symm.trans m1)
              have e2 : c2' = c2 := Option.some.inj (((HB3.out.cell (p := ⟨b, off + k3 * 3 + 2, none⟩) (cell_lt m2')).trans m2').symm.trans m2)
              subst e0; subst e1; subst e2
              obtain ⟨kx, sx, ax0, lx0, cx0, rfl, rfl, rfl⟩ := rx_cells m3'
              have HX3 := hide m3'
              have HXX := hide hx
              have HKC := hide (show ∀ w', Below W.heap.size W w' → w'.cell? ⟨b, off + k3 * 3, none⟩ = some (.int .u8 kx) ∧ w'.cell? ⟨b, off + k3 * 3 + 1, none⟩ = some (.int .u16 sx) ∧ w'.cell? ⟨b, off + k3 * 3 + 2, none⟩ = some (.slice ax0 lx0 cx0) from fun w' hb' => ⟨(hb'.cell (p := ⟨b, off + k3 * 3, none⟩) (cell_lt m0')).trans m0', (hb'.cell (p := ⟨b, off + k3 * 3 + 1, none⟩) (cell_lt m1')).trans m1', (hb'.cell (p := ⟨b, off + k3 * 3 + 2, none⟩) (cell_lt m2')).trans m2'⟩)
              have i5 : (0 : Int) ≤ (k3 : Int) := by omega
              have i6 : (k3 : Int) < (k : Int) := by omega
              have hmx := List.mem_of_getElem? hx
              have hrr := (right_iff (HFUL.out x hmx)).1 (HALL.out x hmx)
              have hrx := real_pos (HFUL.out x hmx)
              have hpn := pos_next (s := 1) hx
              have hpm := pos_mono (l := l) (s := 1) l.length (k3 + 1) (by have := HL6.out; omega) (Nat.le_refl _)
              have hpa : posE 1 l l.length = j := by rw [HL6.out]; exact HNN.out
              have hpp : 1 ≤ posE 1 l k3 := by unfold posE; omega
              have HFR := hide (fun i j h => (fb_rng HFUL.out (show k3 ≤ l.length by have := HL6.out; omega) i j h).2)
              have HSR := hide (fun i u j h => sb_rng HFUL.out (show k3 ≤ l.length by have := HL6.out; omega) i u j h)
              have HSX := hide (HSH.out x hmx)
              have HFX := hide (HFUL.out x hmx)
              have HNX0 := hide (nodes_real n x)
              have HPN := hide hpn
              have HFBN := hide (fb_next hx)
              have HSBN := hide (sb_next hx)
              have HRSN := hide (fun h => rsd_next (x := x) HRL.out h HRS.out hx)
              obtain ⟨pk, hpk⟩ : ∃ pk, posE 1 l k3 = pk := ⟨_, rfl⟩
              obtain ⟨r, hr'⟩ : ∃ r, realN n x = r := ⟨_, rfl⟩
              rw [hpk] at hpn hpp HFR HSR HPN HFBN HSBN HRSN ⊢
              rw [hr'] at hpn hrr hrx HPN HRSN
              have HRX := hide hr'
              have hin : pk + 2 * r ≤ j ∧ r ≤ 100 := by omega
              have HIN := hide hin
              obtain ⟨tt, ett⟩ : ∃ tt : Nat, (pk : Int) + 2 * (r : Int) = (tt : Int) := ⟨pk + 2 * r, by omega⟩
              obtain ⟨ek, eek⟩ : ∃ ek : Nat, (tt : Int) - 1 = (ek : Int) := ⟨pk + 2 * r - 1, by omega⟩
              have HTT := hide (show tt = pk + 2 * r ∧ ek = pk + 2 * r - 1 by omega)
              have hekj : ek < j := by omega
              have HF3 := hide (show ∀ i j', (FB l k3 i j' ∨ Fr n x pk i j') → j' < j from fun i j' h => by
                rcases h with h | h
                · have := HFR.out i j' h; omega
                · have h1 := fr_rng n x pk i j' HFX.out h; have := HRX.out; have := HIN.out; omega)
              have HB3D := hide (HB3.out.drew)
              have HD3D := hide (dx_below (below_drew1 wr) HD3.out)
              have HQN := hide (show Q ≠ qF ∧ Q ≠ qS ∧ Q ≠ qT from ⟨HNQ.out.1, HNQ.out.2.1, HNQ.out.2.2.1⟩)
              have HWQ := hide (show W.heap.size ≤ qF ∧ W.heap.size ≤ qS ∧ W.heap.size ≤ qT ∧ W.heap.size ≤ qR by have := HLO.out; have := HLW.out; omega)
              have HQ3D := hide (show wr.drew.heap[Q]? = some (.cells #[.slice (some ⟨qF, 0, none⟩) j j, .slice (some ⟨qS, 0, none⟩) j j, .slice (some ⟨qT, 0, none⟩) j j, .slice (some ⟨qR, 0, none⟩) j j] 55 (0, 0)) from HQ3.out)
              clear m0' m1' m2' m3' hx hx' hmx hpn hpm hpa hr' hpk hrr
              go_wp2_with fail
              go_region_held3 (fun w' => (w'.cell? ⟨Q, 0, none⟩ = some (.slice (some ⟨qF, 0, none⟩) j j) ∧ w'.cell? ⟨Q, 1, none⟩ = some (.slice (some ⟨qS, 0, none⟩) j j) ∧ w'.cell? ⟨Q, 2, none⟩ = some (.slice (some ⟨qT, 0, none⟩) j j) ∧ w'.cell? ⟨Q, 3, none⟩ = some (.slice (some ⟨qR, 0, none⟩) j j)) ∧ w'.cell? ⟨b, off + k3 * 3, none⟩ = some (.int .u8 kx) ∧ w'.cell? ⟨b, off + k3 * 3 + 1, none⟩ = some (.int .u16 sx) ∧ w'.cell? ⟨b, off + k3 * 3 + 2, none⟩ = some (.slice ax0 lx0 cx0)) (first | assumption | go_keep) ((go_at_call 48; refine (HLAY.out W qF qS qT B5 j _ (by omega) HWQ.out.1 HWQ.out.2.1 HWQ.out.2.2.1 x _ pk _ _ wr.drew HX3.out HB3D.out HSX.out (by rw [HRX.out]; exact HIN.out.2) (by rw [HRX.out]; exact HIN.out.1) (fun i j' h => by have := HFR.out i j' h; have := HIN.out; omega) HSR.out HD3D.out).mono ?_; rintro er w2 ⟨rfl, hd2, hk2⟩; have k9 := And.intro (blk29 (blk29' hk2 HQ3D.out HQN.out.1 HQN.out.2.1 HQN.out.2.2)).1 (HKC.out w2 (HB3D.out.trans (hk2.below HWQ.out.1 HWQ.out.2.1 HWQ.out.2.2.1 HB3D.out.size)))))
              have HD4 := hide hd2
              have HK4 := hide ((Kd.of_below (below_drew1 wr)).trans hk2)
              have HQ4 := hide (blk29' HK4.out HQ3.out HQN.out.1 HQN.out.2.1 HQN.out.2.2)
              have HI4 := hide (show Ir w2 qR rs from (HK4.out.block qR (Array.getElem?_eq_some_iff.1 HI3.out).1 HNE.out.1 HNE.out.2.1 HNE.out.2.2).trans HI3.out)
              have HB4 := hide (show Below W.heap.size W w2 from HB3.out.trans (HK4.out.below HWQ.out.1 HWQ.out.2.1 HWQ.out.2.2.1 HB3.out.size))
              clear hd2 hk2 k9 b0 b1 b2 b3 m0 m1 m2
              obtain ⟨⟨b0, b1, b2, b3⟩, -⟩ := blk29 HQ4.out
              go_upto_region 20 with fail
              go_cut [] from 57 to 92 (fun wx => Dx wx qF qS qT B5 (fun i j' => (FB l k3 i j' ∨ Fr n x pk i j') ∨ (i = 0 ∧ j' = pk)) (fun i u j' => SB l k3 i u j' ∨ Sp n x pk i u j') j ∧ Kd qF qS qT w2 wx)
              case first =>
                obtain ⟨vr, lr, c1, hrow, hlen1, hnext⟩ := dx_into (dx_below (below_drew1 w2) HD4.out) (a := 0) (x := pk) (M := j) (by omega) HF3.out
                have c1' : w2.cell? ⟨qF, 0, none⟩ = some vr := c1
                have HNX := hide hnext
                have HRW := hide hrow
                have HLN := hide hlen1
                have n3 : (0 : Int) < (j : Int) := by omega
                clear c1 hnext hrow hlen1
                go_region_with (go_at_call 49; refine (into_row B5 vr lr pk w2.drew (by have := HLN.out; omega) HRW.out).mono ?_; rintro er w3 ⟨v', rfl, hr3, hb3⟩; obtain ⟨ax, lx, cx, rfl⟩ := row_form hr3; obtain ⟨⟨g1, g2⟩, g3, g4⟩ := HNX.out w3 _ hb3 hr3; obtain ⟨⟨j0, j1, j2, j3⟩, -⟩ := blk29 (blk29' (Kd.of_below (a := qF) (b := qS) (c := qT) hb3) (blk29' (Kd.of_below (a := qF) (b := qS) (c := qT) (below_drew1 w2)) HQ4.out HQN.out.1 HQN.out.2.1 HQN.out.2.2) HQN.out.1 HQN.out.2.1 HQN.out.2.2))
                all_goals (go_wp2_with fail; go_meet; exact ⟨g3, (Kd.of_below (below_drew1 w2)).trans g4⟩)
              case rest =>
              have HD5 := hide hcut.1
              have HK5 := hide hcut.2
              clear hcut
              have HQ5 := hide (blk29' HK5.out HQ4.out HQN.out.1 HQN.out.2.1 HQN.out.2.2)
              have HI5 := hide (show Ir wc qR rs from (HK5.out.block qR (Array.getElem?_eq_some_iff.1 HI4.out).1 HNE.out.1 HNE.out.2.1 HNE.out.2.2).trans HI4.out)
              have HB5 := hide (show Below W.heap.size W wc from HB4.out.trans (HK5.out.below HWQ.out.1 HWQ.out.2.1 HWQ.out.2.2.1 HB4.out.size))
              obtain ⟨m0, m1, m2⟩ := HKC.out wc HB5.out
              clear b0 b1 b2 b3
              go_wp2_with fail
              refine (rnodes_any n x _ wc (by omega) (rx_below HB5.out n x _ HX3.out)).mono ?_
              rintro er w6 ⟨rfl, hb6⟩
              rw [HNX0.out.1 (by rw [HRX.out]; exact HIN.out.2), HRX.out]
              have HD6 := hide (dx_below hb6 HD5.out)
              have HQ6 := hide (blk29' (Kd.of_below (a := qF) (b := qS) (c := qT) hb6) HQ5.out HQN.out.1 HQN.out.2.1 HQN.out.2.2)
              have HI6 := hide (show Ir w6 qR rs from (hb6.block qR (Array.getElem?_eq_some_iff.1 HI5.out).1).trans HI5.out)
              have HB6 := hide (HB5.out.trans (hb6.mono HB5.out.size))
              obtain ⟨⟨b0, b1, b2, b3⟩, -⟩ := blk29 HQ6.out
              obtain ⟨y, hy⟩ : ∃ y, rs[ek]? = some y := ⟨_, List.getElem?_eq_getElem (by rw [HRL.out]; exact hekj)⟩
              obtain ⟨cr, fr⟩ := ir_cell HI6.out hy
              have j3 : (0 : Int) ≤ (ek : Int) := by omega
              have j4 : (ek : Int) < (j : Int) := by omega
              have HIR7 := hide (ir_set HI6.out ek (k3 : Int))
              have HOT := hide (fun q (_ : q < w6.heap.size) (hq : q ≠ qR) => Below.heap_setCell w6 ⟨qR, ek, none⟩ (.int .i64 (k3 : Int)) q hq)
              have HRS7 := hide (show RsI l (k3 + 1) (rs.set ek (k3 : Int)) from by rw [HTT.out.2]; exact HRSN.out (by have := HIN.out; omega))
              have HQR := hide HNQ.out.2.2.2
              clear hb6 m0 m1 m2 hy
              go_wp2
              go_roundw
              case rel => exact ⟨k3 + 1, _, by omega, by go_num, by rw [HPN.out, ← HTT.out.1], dx_other (dx_congr HD6.out HFBN.out HSBN.out) (by have := HLO.out; omega) HNE.out.1 HNE.out.2.1 HNE.out.2.2 (by simp) HOT.out, HIR7.out, by rw [List.length_set]; exact HRL.out, HRS7.out, by rw [Below.heap_setCell _ _ _ _ HQR.out]; exact HQ6.out, HB6.out.setCell (p := ⟨qR, ek, none⟩) (by have := HWQ.out; show W.heap.size ≤ qR; omega) _⟩
              case measure => simp [intOf]; omega
            · have e : k3 = k := by omega
              subst e
              have HWQ := hide (show W.heap.size ≤ qF ∧ W.heap.size ≤ qS ∧ W.heap.size ≤ qT ∧ W.heap.size ≤ qR ∧ P < W.heap.size from by
                have := HLO.out
                have := HLW.out
                have := (Array.getElem?_eq_some_iff.1 HN4.out).1
                omega)
              have h29 := (HB3.out.block P (Array.getElem?_eq_some_iff.1 HN4.out).1).trans HN4.out
              obtain ⟨⟨r0, r1, r2, r3⟩, rz⟩ := blk29 h29
              have y0 := rz 0
              have y1 := rz 1
              have y2 := rz 2
              have y3 := rz 3
              have HPQ := hide (show P ≠ qF ∧ P ≠ qS ∧ P ≠ qT ∧ P ≠ qR by have := HWQ.out; omega)
              have HWF := hide (set4 (x := .slice (some ⟨qF, 0, none⟩) j j) (y := .slice (some ⟨qS, 0, none⟩) j j) (z := .slice (some ⟨qT, 0, none⟩) j j) (u := .slice (some ⟨qR, 0, none⟩) j j) h29)
              have HBF := hide (below_set4 (x := .slice (some ⟨qF, 0, none⟩) j j) (y := .slice (some ⟨qS, 0, none⟩) j j) (z := .slice (some ⟨qT, 0, none⟩) j j) (u := .slice (some ⟨qR, 0, none⟩) j j) (HB0.out.trans (HB3.out.mono HPW.out)) (Nat.le_refl P))
              have hne : ∀ q, q ≠ P → ((((wr.setCell ⟨P, 0, none⟩ (.slice (some ⟨qF, 0, none⟩) j j)).setCell ⟨P, 1, none⟩ (.slice (some ⟨qS, 0, none⟩) j j)).setCell ⟨P, 2, none⟩ (.slice (some ⟨qT, 0, none⟩) j j)).setCell ⟨P, 3, none⟩ (.slice (some ⟨qR, 0, none⟩) j j)).heap[q]? = wr.heap[q]? := fun q hq => by
                rw [Below.heap_setCell _ _ _ _ hq, Below.heap_setCell _ _ _ _ hq, Below.heap_setCell _ _ _ _ hq, Below.heap_setCell _ _ _ _ hq]
              have HDF := hide (dx_other (qR := P) HD3.out (by have := HWQ.out; have := HLO.out; have := HLW.out; omega) HPQ.out.1 HPQ.out.2.1 HPQ.out.2.2.1 (by simp) (fun q _ hq => hne q hq))
              have HIF := hide (show Ir _ qR rs from (hne qR (Ne.symm HPQ.out.2.2.2)).trans HI3.out)
              have q1 : ¬ Q = P := by have := HWQ.out; have := HLO.out; have := HLW.out; omega
              have q2 : ¬ P = Q := fun e => q1 e.symm
              clear h29 rz hne
              go_wp2
              obtain ⟨⟨m0, m1, m2, m3⟩, -⟩ := blk29 HWF.out
              refine bodyPost_ret (v := .tuple #[.agg #[.slice (some ⟨qF, 0, none⟩) j j, .slice (some ⟨qS, 0, none⟩) j j, .slice (some ⟨qT, 0, none⟩) j j, .slice (some ⟨qR, 0, none⟩) j j], .bool true]) (by simp [results, Tryz.results24, go_sem, m0, m1, m2, m3]) rfl ?_
              obtain ⟨vf, fs, ss, ts, hm, hi⟩ := HDF.out
              have hi2 : Is (FrA l) (SpA l) j fs ss ts := is_congr hi (by rw [← HL6.out]; exact fb_all) (by rw [← HL6.out]; exact sb_all)
              exact ⟨_, _, _, _, j, j, j, j, j, fs, ss, ts, rs, rfl, dm_nm hm hi2 HIF.out HSM.out (fun i j' h => by
                have h1 := fb_rng HFUL.out (Nat.le_refl _) i j' ((fb_all i j').2 h)
                have h2 := HNN.out
                rw [HL6.out] at h1
                omega), hi2, HRS.out, HRL.out, HNN.out.symm, by rw [hQ]; exact HBF.out⟩
end Go.Proofs.YtccaknabpnpjaaaGreatDoor.A
