/- The document's lay, of any expression. -/
import Derived.Test.YtccaknabpnpjaaaGreatDoorTe
import Derived.Test.YtccaknabpnpjaaaGreatDoorTf
import Derived.Test.YtccaknabpnpjaaaGreatDoorTg
import Derived.Test.YtccaknabpnpjaaaGreatDoorTh
import Derived.Test.YtccaknabpnpjaaaGreatDoorT1
namespace Go.Proofs.YtccaknabpnpjaaaGreatDoor.A
open Go.RowKit

theorem lay_any (w0 : World) (qF qS qT B N : Nat) (x3 : Value) (hN : N ≤ 10000) (hq1 : w0.heap.size ≤ qF) (hq2 : w0.heap.size ≤ qS) (hq3 : w0.heap.size ≤ qT) : ∀ n, n ≤ 900 → ∀ t : Ex n, LayOf w0 qF qS qT B N x3 n t
  | 0, _, _ => fun _ _ _ _ _ h => h.elim
  | n + 1, hn, t => by
    have ih := lay_any w0 qF qS qT B N x3 hN hq1 hq2 hq3 n (by omega)
    intro v b F S w h hb hsh
    obtain ⟨hok, _⟩ := shapes_open hsh
    rcases ok_kind hok with k | k | k | k | k | k
    · exact lay_k0 w0 qF qS qT B N x3 n (by omega) hN hq1 hq2 hq3 t k v b F S w h hb hsh
    · exact lay_k1 w0 qF qS qT B N x3 n (by omega) hN t k v b F S w h hb hsh
    · exact lay_k2 w0 qF qS qT B N x3 n (by omega) hN hq1 hq2 hq3 ih t k v b F S w h hb hsh
    · exact lay_k3 w0 qF qS qT B N x3 n (by omega) hN hq1 hq2 hq3 ih t k v b F S w h hb hsh
    · exact lay_k4 w0 qF qS qT B N x3 n (by omega) hN hq1 hq2 hq3 ih t k v b F S w h hb hsh
    · exact lay_k5 w0 qF qS qT B N x3 n (by omega) hN hq1 hq2 hq3 ih t k v b F S w h hb hsh
end Go.Proofs.YtccaknabpnpjaaaGreatDoor.A

/- The document's Build: expressions that may not be; rows of rules. -/
namespace Go.Proofs.YtccaknabpnpjaaaGreatDoor.A
open Go.RowKit

theorem rsd_next {n : Nat} {l : List (Ex n)} {k N : Nat} {x : Ex n} {rs : List Int} (hl : rs.length = N) (hlt : posE 1 l k + 2 * realN n x - 1 < N) (h : RsI l k rs) (hx : l[k]? = some x) : RsI l (k + 1) (rs.set (posE 1 l k + 2 * realN n x - 1) (k : Int)) := by
  have lk := lay_at l 1 k x hx
  have hen : en (posE 1 l k, x) = posE 1 l k + 2 * realN n x - 1 := rfl
  intro i r hi
  by_cases e : i = posE 1 l k + 2 * realN n x - 1
  · rw [e, List.getElem?_set_self (by omega)] at hi
    cases hi
    exact .inl ⟨k, _, by omega, lk, by rw [hen]; exact e, rfl⟩
  · rw [List.getElem?_set_ne (Ne.symm e)] at hi
    rcases h i r hi with ⟨m, p, hm, hp, h1, h2⟩ | ⟨h1, h2⟩
    · exact .inl ⟨m, p, by omega, hp, h1, h2⟩
    · refine .inr ⟨fun m p hm hp => ?_, h2⟩
      by_cases q : m = k
      · subst q; rw [lk] at hp; cases hp; rw [hen]; exact e
      · exact h1 m p (by omega) hp
theorem rsd_zero {n : Nat} (l : List (Ex n)) (N : Nat) : RsI l 0 (List.replicate N (-1)) := fun _ r h => .inr ⟨fun m _ hm => absurd hm (by omega), List.eq_of_mem_replicate (List.mem_of_getElem? h)⟩
/-- A row that none of the machine's other rows is. -/
theorem dm_other {w w' : World} {qF qS qT B N qR : Nat} {vf : List Value} {fs : List (List Int)} {ss : List Nat} {ts : List Int} (h : Dn w qF qS qT B N vf fs ss ts) (hR : qR < B) (h1 : qR ≠ qF) (h2 : qR ≠ qS) (h3 : qR ≠ qT) (hs : w.heap.size ≤ w'.heap.size) (hk : ∀ k, k < w.heap.size → k ≠ qR → w'.heap[k]? = w.heap[k]?) : Dn w' qF qS qT B N vf fs ss ts := by
  have hB := h.hi
  have hF := h.lowF
  have hS := h.lowS
  have hT := h.lowT
  refine ⟨(hk qF (by omega) (Ne.symm h1)).trans h.f, (hk qS (by omega) (Ne.symm h2)).trans h.s, (hk qT (by omega) (Ne.symm h3)).trans h.t, h.lv, hF, hS, hT, by omega, fun i v l a b => ?_⟩
  rcases h.rows i v l a b with h' | ⟨bb, off, cap, hb, e, hc, hw⟩
  · exact .inl h'
  · refine .inr ⟨bb, off, cap, hb, e, hc, fun j c hj => ?_⟩
    obtain ⟨b2, o2, e2, hcell⟩ := hw j c hj
    cases e2
    refine ⟨bb, off, rfl, ?_⟩
    rw [World.cell?_of_block (w := w) (a := ⟨bb, off + j, none⟩) (hk bb (cell_lt hcell) (by omega))]
    exact hcell
theorem dx_other {w w' : World} {qF qS qT B N qR : Nat} {F : Nat → Nat → Prop} {S : Nat → Nat → Nat → Prop} (h : Dx w qF qS qT B F S N) (hR : qR < B) (h1 : qR ≠ qF) (h2 : qR ≠ qS) (h3 : qR ≠ qT) (hs : w.heap.size ≤ w'.heap.size) (hk : ∀ k, k < w.heap.size → k ≠ qR → w'.heap[k]? = w.heap[k]?) : Dx w' qF qS qT B F S N := by
  obtain ⟨vf, fs, ss, ts, k1, k2⟩ := h
  exact ⟨vf, fs, ss, ts, dm_other k1 hR h1 h2 h3 hs hk, k2⟩
/-- Numbers in a row that was made. -/
def Ir (w : World) (q : Nat) (rs : List Int) : Prop := w.heap[q]? = some (.cells (rs.map (Value.int .i64)).toArray 3 (0, 0))
theorem ir_cell {w : World} {q : Nat} {rs : List Int} (h : Ir w q rs) {i : Nat} {r : Int} (hi : rs[i]? = some r) : w.cell? ⟨q, i, none⟩ = some (.int .i64 r) ∧ w.frozen? ⟨q, i, none⟩ = false := by
  unfold Ir at h
  refine ⟨?_, by simp [World.frozen?, h]⟩
  rw [cell_of_row _ _ _ _ _ _ h]; simp [hi]
theorem ir_set {w : World} {q : Nat} {rs : List Int} (h : Ir w q rs) (i : Nat) (r : Int) : Ir (w.setCell ⟨q, i, none⟩ (.int .i64 r)) q (rs.set i r) := by
  unfold Ir at h ⊢
  rw [blk_set h i _]; simp [List.map_set]
theorem ir_wd {w : World} {q : Nat} {rs : List Int} (h : Ir w q rs) : Wd w (some ⟨q, 0, none⟩) rs := fun i c hc => ⟨q, 0, rfl, by rw [Nat.zero_add]; exact (ir_cell h hc).1⟩
def noD : Value := .tuple #[.agg #[.slice none 0 0, .slice none 0 0, .slice none 0 0, .slice none 0 0], .bool false]

set_option maxRecDepth 100000 in
set_option maxHeartbeats 3200000 in
theorem dbuild_no (n : Nat) (hn : n ≤ 900) (a : Option Addr) (len cap : Nat) (l : List (Ex n)) (w : World) (hl : len ≤ maxLen) (h6 : l.length = len) (hkids : Kids w n a len l) (hno : mayB l = false) :
    Calls Tryz.prog 24 #[.slice a len cap] w fun e w' => e = .returned noD ∧ Below w.heap.size w w' := by
  have hb0 := ((Below.refl w.heap.size w).alloc (Nat.le_refl _) (.cells #[.slice none 0 0, .slice none 0 0, .slice none 0 0, .slice none 0 0] 55))
  have HB0 := hide hb0
  have HN4 := hide (nil4 w)
  have HFUL := hide (kids_full hkids h6)
  have HK := hide (kids_below hb0 hkids)
  have HNO := hide hno
  have HL6 := hide h6
  clear hkids h6 hno hb0
  unfold maxLen at hl
  go_enter Tryz.func24, Tryz.ntmps24
  go_wp2_with fail
  generalize w.alloc (.cells #[.slice none 0 0, .slice none 0 0, .slice none 0 0, .slice none 0 0] 55) = W at *
  generalize hQ : w.heap.size = P at *
  have HPW := hide (show P ≤ W.heap.size from by rw [← hQ]; exact HB0.out.size)
  go_loopw [4, 5] (fun u i wr => ∃ (k : Nat), k ≤ len ∧ k ≤ 16 ∧ i = .int .i64 k ∧ u = .int .i64 (posE 1 l k : Nat) ∧ (∀ x ∈ l.take k, rightE n x = true) ∧ posE 1 l k ≤ 1 + 200 * k ∧ Below W.heap.size W wr) (fun _ i _ => len - (intOf i).toNat)
  case atStart => exact ⟨0, Nat.zero_le _, by omega, rfl, by simp [posE], fun x hx => by simp at hx, by simp [posE], Below.refl _ _⟩
  case round =>
    obtain ⟨k, hk, hk16, rfl, rfl, hall, hpb, hb⟩ := hrel
    have HALL := hide hall
    have HBW := hide hb
    have HBU := hide (HB0.out.trans (hb.mono HPW.out))
    have h29 := (hb.block P (Array.getElem?_eq_some_iff.1 HN4.out).1).trans HN4.out
    obtain ⟨⟨q0, q1, q2, q3⟩, qz⟩ := blk29 h29
    have y0 := qz 0
    have y1 := qz 1
    have y2 := qz 2
    have y3 := qz 3
    have HWF := hide (set4 (x := .slice none 0 0) (y := .slice none 0 0) (z := .slice none 0 0) (u := .slice none 0 0) h29)
    have HBF := hide (below_set4 (x := .slice none 0 0) (y := .slice none 0 0) (z := .slice none 0 0) (u := .slice none 0 0) HBU.out (Nat.le_refl P))
    clear hall hb h29 qz
    by_cases hlt : k < len
    · by_cases h15 : 15 < k
      · have d1 : decide ((15 : Int) < (k : Int)) = true := by simp; omega
        go_wp2
        obtain ⟨⟨m0, m1, m2, m3⟩, -⟩ := blk29 HWF.out
        refine bodyPost_ret (v := noD) (by simp [noD, results, Tryz.results24, go_sem, m0, m1, m2, m3]) rfl ?_
        exact ⟨rfl, by rw [hQ]; exact HBF.out⟩
      · have d1 : decide ((15 : Int) < (k : Int)) = false := by simp; omega
        obtain ⟨x, b, off, c0, c1, c2, rfl, hx, k0, k1, k2, k3⟩ := HK.out wr HBW.out k hlt
        have HX3 := hide k3
        have HXX := hide hx
        have i3 : (0 : Int) ≤ (k : Int) := by omega
        have i4 : (k : Int) < (len : Int) := by omega
        clear hx k3
        go_wp2_with fail
        refine (rright_any n x _ wr (by omega) HX3.out).mono ?_
        rintro e w2 ⟨rfl, hb2⟩
        cases hr : rightE n x
        · have h29 := (hb2.block P (by have := cell_lt q0; exact this)).trans (show wr.heap[P]? = some (.cells #[.slice none 0 0, .slice none 0 0, .slice none 0 0, .slice none 0 0] 55 (0, 0)) from (HBW.out.block P (Array.getElem?_eq_some_iff.1 HN4.out).1).trans HN4.out)
          clear q0 q1 q2 q3 y0 y1 y2 y3 HWF HBF
          obtain ⟨⟨q0, q1, q2, q3⟩, qz⟩ := blk29 h29
          have y0 := qz 0
          have y1 := qz 1
          have y2 := qz 2
          have y3 := qz 3
          have HWF := hide (set4 (x := .slice none 0 0) (y := .slice none 0 0) (z := .slice none 0 0) (u := .slice none 0 0) h29)
          have HBF := hide (below_set4 (x := .slice none 0 0) (y := .slice none 0 0) (z := .slice none 0 0) (u := .slice none 0 0) (HBU.out.trans (hb2.mono (by have := HBU.out.size; rw [hQ] at this; exact this))) (Nat.le_refl P))
          clear hr h29 qz hb2 k0 k1 k2
          go_wp2
          obtain ⟨⟨m0, m1, m2, m3⟩, -⟩ := blk29 HWF.out
          refine bodyPost_ret (v := noD) (by simp [noD, results, Tryz.results24, go_sem, m0, m1, m2, m3]) rfl ?_
          exact ⟨rfl, by rw [hQ]; exact HBF.out⟩
        · have hrr := (right_iff (HFUL.out x (List.mem_of_getElem? HXX.out))).1 hr
          have HB2 := hide (HBW.out.trans (hb2.mono HBW.out.size))
          have HX4 := hide (rx_below hb2 n x _ HX3.out)
          have HRX := hide hr
          have r0 := (hb2.cell (p := ⟨b, off + k * 3, none⟩) (cell_lt k0)).trans k0
          have r1 := (hb2.cell (p := ⟨b, off + k * 3 + 1, none⟩) (cell_lt k1)).trans k1
          have r2 := (hb2.cell (p := ⟨b, off + k * 3 + 2, none⟩) (cell_lt k2)).trans k2
          have hnd := (nodes_real n x).1 (by omega)
          have hpn := pos_next (s := 1) HXX.out
          have HPN := hide hpn
          clear hr hb2 k0 k1 k2 q0 q1 q2 q3 y0 y1 y2 y3 HWF HBF
          obtain ⟨pk, hpk⟩ : ∃ pk, posE 1 l k = pk := ⟨_, rfl⟩
          obtain ⟨r, hr'⟩ : ∃ r, realN n x = r := ⟨_, rfl⟩
          rw [hpk] at hpn hpb HPN ⊢
          rw [hr'] at hpn hnd hrr HPN
          have hr100 : r ≤ 100 := by omega
          obtain ⟨tt, ett⟩ : ∃ tt : Nat, (pk : Int) + 2 * (r : Int) = (tt : Int) := ⟨pk + 2 * r, by omega⟩
          have HTT := hide (show tt = pk + 2 * r by omega)
          clear hpk hr' hrr
          go_wp2_with fail
          refine (rnodes_any n x _ w2 (by omega) HX4.out).mono ?_
          rintro e w3 ⟨rfl, hb3⟩
          rw [hnd]
          have HB3 := hide (HB2.out.trans (hb3.mono HB2.out.size))
          clear hb3 r0 r1 r2 hnd
          go_wp2
          go_roundw
          case rel => exact ⟨k + 1, by omega, by omega, by go_num, by rw [HPN.out, ← HTT.out], fun y hy => by
            rw [take_at HXX.out, List.mem_append, List.mem_singleton] at hy
            rcases hy with hy | rfl
            · exact HALL.out y hy
            · exact HRX.out, by rw [HPN.out]; omega, HB3.out⟩
          case measure => simp [intOf]; omega
    · have e : k = len := by omega
      subst e
      have h0 : k = 0 := by
        rcases Nat.eq_zero_or_pos k with q | q
        · exact q
        · have h := HNO.out
          unfold mayB at h
          have ht : l.take k = l := List.take_of_length_le (by have := HL6.out; omega)
          have hal := HALL.out
          rw [ht] at hal
          rw [show decide (1 ≤ l.length) = true by have := HL6.out; simp; omega, show decide (l.length ≤ 16) = true by have := HL6.out; simp; omega, Bool.true_and, Bool.true_and, List.all_eq_true.2 hal] at h
          cases h
      subst h0
      go_wp2
      obtain ⟨⟨m0, m1, m2, m3⟩, -⟩ := blk29 HWF.out
      refine bodyPost_ret (v := noD) (by simp [noD, results, Tryz.results24, go_sem, m0, m1, m2, m3]) rfl ?_
      exact ⟨rfl, by rw [hQ]; exact HBF.out⟩
end Go.Proofs.YtccaknabpnpjaaaGreatDoor.A

/- The document's machine, as it is read. -/
namespace Go.Proofs.YtccaknabpnpjaaaGreatDoor.A
open Go.RowKit

theorem rep_set (N k : Nat) (h : k < N) : (List.replicate k (-1 : Int) ++ List.replicate (N - k) 0).set k (-1) = List.replicate (k + 1) (-1) ++ List.replicate (N - (k + 1)) 0 := by
  obtain ⟨m, hm⟩ : ∃ m, N - k = m + 1 := ⟨N - k - 1, by omega⟩
  rw [hm, show N - (k + 1) = m by omega, List.set_append_right _ _ (by simp)]
  rw [List.length_replicate, Nat.sub_self, List.replicate_succ (n := m), List.set_cons_zero, List.replicate_succ' (n := k), List.append_assoc]
  rfl
theorem dm_nm {w : World} {qF qS qT qR B N : Nat} {vf : List Value} {fs : List (List Int)} {ss : List Nat} {ts rs : List Int} {F : Nat → Nat → Prop} {S : Nat → Nat → Nat → Prop} (h : Dn w qF qS qT B N vf fs ss ts) (hi : Is F S N fs ss ts) (hr : Ir w qR rs) (hs : ∀ i u j, S i u j → u < 65536) (hF : ∀ i j, F i j → j < 10000) : Nm w (some ⟨qF, 0, none⟩) (some ⟨qS, 0, none⟩) (some ⟨qT, 0, none⟩) (some ⟨qR, 0, none⟩) fs ss ts rs := by
  refine ⟨fun i l hl => by have := is_len hi hF hl; unfold maxLen; omega, fun i l hl => ?_, fun i s hs' => ?_, fun i c hc => ?_, ir_wd hr⟩
  · have hlt : i < vf.length := by rw [h.lv, ← hi.lf]; exact (List.getElem?_eq_some_iff.1 hl).1
    have hv : vf[i]? = some vf[i] := List.getElem?_eq_getElem hlt
    have hc := (dm_cell h hv).1
    rcases h.rows i _ l hv hl with ⟨e, rfl⟩ | ⟨b, off, cap, _, e, _, hw⟩
    · rw [e] at hc
      exact ⟨qF, 0, none, 0, rfl, by rw [Nat.zero_add]; exact hc, fun j c hj => by simp at hj⟩
    · rw [e] at hc
      exact ⟨qF, 0, _, cap, rfl, by rw [Nat.zero_add]; exact hc, hw⟩
  · refine ⟨qS, 0, rfl, ?_, ?_⟩
    · rw [Nat.zero_add, cell_of_row _ _ _ _ _ _ h.s]; simp [hs']
    · have hlt : i < ts.length := by rw [hi.lt, ← hi.ls]; exact (List.getElem?_eq_some_iff.1 hs').1
      rcases hi.set i s _ hs' (List.getElem?_eq_getElem hlt) with ⟨j, hj, _⟩ | ⟨_, e, _⟩
      · exact hs i s j hj
      · omega
  · refine ⟨qT, 0, rfl, ?_⟩
    rw [Nat.zero_add, cell_of_row _ _ _ _ _ _ h.t]; simp [hc]
end Go.Proofs.YtccaknabpnpjaaaGreatDoor.A
