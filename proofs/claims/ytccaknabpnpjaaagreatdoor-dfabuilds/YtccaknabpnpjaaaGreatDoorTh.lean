/- The document's lay: an option. -/
import Derived.Test.YtccaknabpnpjaaaGreatDoorT1
namespace Go.Proofs.YtccaknabpnpjaaaGreatDoor.A
open Go.RowKit
set_option linter.unusedVariables false

set_option maxRecDepth 100000 in
set_option maxHeartbeats 6400000 in
theorem lay_k5 (w0 : World) (qF qS qT B N : Nat) (x3 : Value) (n : Nat) (hn : n ≤ 900) (hN : N ≤ 10000) (hq1 : w0.heap.size ≤ qF) (hq2 : w0.heap.size ≤ qS) (hq3 : w0.heap.size ≤ qT) (ih : ∀ x : Ex n, LayOf w0 qF qS qT B N x3 n x) (t : Ex (n + 1)) (hk : kd t = 5) : LayOf w0 qF qS qT B N x3 (n + 1) t := by
  intro v b F S w h hb0 hsh hr hbN hF hS hD
  have hful := rx_full (n + 1) t v h
  have hrp := real_pos hful
  obtain ⟨hok, hksh⟩ := shapes_open hsh
  have hnd := (nodes_real (n + 1) t).1 hr
  have HND := hide (rnodes_any (n + 1) t v)
  have HX := hide h
  obtain ⟨a, len, cap, rfl, hkd, hst, hl, h6, hkids⟩ := rx_open h
  have hre := real_eq t
  have hlr := len_real (ks t) hful
  have hlen : len ≤ 200 := by omega
  obtain ⟨ss, hss⟩ : ∃ ss, st t = ss := ⟨_, rfl⟩
  rw [hk, hss] at HND HX ⊢
  rw [hss] at hst
  obtain ⟨R, hR⟩ : ∃ R, realN (n + 1) t = R := ⟨_, rfl⟩
  rw [hR] at hr hbN hrp hnd hre
  have HB := hide (two_more w (.cells #[.slice (some ⟨qF, 0, none⟩) N N, .slice (some ⟨qS, 0, none⟩) N N, .slice (some ⟨qT, 0, none⟩) N N, x3] 55) (.cells #[.int .u8 5, .int .u16 ss, .slice a len cap] 38))
  have HL := hide (lb_new w (.slice (some ⟨qF, 0, none⟩) N N) (.slice (some ⟨qS, 0, none⟩) N N) (.slice (some ⟨qT, 0, none⟩) N N) x3 (.int .u8 5) (.int .u16 ss) (.slice a len cap))
  have HQ := hide (dx_low hD)
  have HD := hide (dx_below HB.out hD)
  have HB0 := hide hb0
  have HF := hide hF
  have HS := hide hS
  have HSS := hide hss
  have HR := hide hR
  have HK := hide hk
  have HOK := hide hok
  have HKSH := hide hksh
  have HFUL := hide hful
  have HKIDS := hide hkids
  have HL6 := hide h6
  have HRE := hide hre
  clear h hb0 hsh hF hS hD hful hok hkd hl h6 hk hss hR hksh hkids hre hlr
  go_enter Tryz.func48, Tryz.ntmps48
  go_wp2_with fail
  generalize (w.alloc (.cells #[.slice (some ⟨qF, 0, none⟩) N N, .slice (some ⟨qS, 0, none⟩) N N, .slice (some ⟨qT, 0, none⟩) N N, x3] 55)).alloc (.cells #[.int .u8 5, .int .u16 ss, .slice a len cap] 38) = W at *
  generalize hP : w.heap.size = P at *
  have HBW := hide (show Below w.heap.size w W by rw [hP]; exact HB.out)
  refine (HND.out W (by omega) (rx_below (HB0.out.trans (HBW.out.mono HB0.out.size)) (n + 1) t _ HX.out)).mono ?_
  rintro er w1 ⟨rfl, hb1⟩
  rw [hnd]
  have HD1 := hide (dx_below hb1 HD.out)
  have HB1 := hide ((Kd.of_below (a := qF) (b := qS) (c := qT) HBW.out).trans (Kd.of_below hb1))
  have HQL := hide (lb_kd (Kd.of_below hb1) HQ.out.1 HQ.out.2.1 HQ.out.2.2 HL.out)
  have HB01 := hide (show Below w0.heap.size w0 w1 from (HB0.out.trans (HBW.out.mono HB0.out.size)).trans (hb1.mono (Nat.le_trans HB0.out.size HBW.out.size)))
  clear hb1 hnd
  obtain ⟨e, he⟩ : ∃ e : Nat, (b : Int) + 2 * (R : Int) - 1 = (e : Int) := ⟨b + 2 * R - 1, by omega⟩
  have HE := hide (show e = b + 2 * R - 1 by omega)
  have heN : e < N := by omega
  have hbe : b < e := by omega
  have hbN' : b < N := by omega
  have i3 : (0 : Int) ≤ (b : Int) := by omega
  have i4 : (b : Int) < (N : Int) := by omega
  obtain ⟨⟨p0, p1, p2, p3⟩, q0, q1, q2⟩ := lb_cells HQL.out
  go_upto_region 6 with fail
  go_cut [] from 39 to 49 (fun wx => Dx wx qF qS qT B (fun i j => F i j ∨ (i = b ∧ j = e)) S N ∧ Kd qF qS qT w1 wx)
  case first =>
    obtain ⟨vr, lr, c1, hrow, hlen1, hnext⟩ := dx_into (dx_below (below_drew1 w1) HD1.out) (a := b) (x := e) (M := N) hbN' HF.out
    have c1' : w1.cell? ⟨qF, b, none⟩ = some vr := c1
    obtain ⟨⟨p0, p1, p2, p3⟩, q0, q1, q2⟩ := lb_cells HQL.out
    have HNX := hide hnext
    have HRW := hide hrow
    have HLN := hide hlen1
    clear c1 hnext hrow hlen1
    go_region_with (go_at_call 49; refine (into_row B vr lr e w1.drew (by have := HLN.out; omega) HRW.out).mono ?_; rintro er w3 ⟨v', rfl, hr3, hb3⟩; obtain ⟨ax, lx, cx, rfl⟩ := row_form hr3; obtain ⟨⟨g1, g2⟩, g3, g4⟩ := HNX.out w3 _ hb3 hr3; obtain ⟨⟨j0, j1, j2, j3⟩, j4, j5, j6⟩ := lb_cells (lb_kd (Kd.of_below hb3) HQ.out.1 HQ.out.2.1 HQ.out.2.2 (lb_kd (Kd.of_below (below_drew1 w1)) HQ.out.1 HQ.out.2.1 HQ.out.2.2 HQL.out)))
    all_goals (go_wp2_with fail; go_meet; exact ⟨g3, (Kd.of_below (below_drew1 w1)).trans g4⟩)
  case rest =>
  obtain ⟨wA, rfl⟩ : ∃ y, y = wc := ⟨_, rfl⟩
  have HwA := hide hcut.1
  have KwA := hide hcut.2
  clear hcut
  have LwA := hide (lb_kd KwA.out HQ.out.1 HQ.out.2.1 HQ.out.2.2 HQL.out)
  obtain ⟨⟨p0, p1, p2, p3⟩, q0, q1, q2⟩ := lb_cells LwA.out
  have HKD0 := hide (HB1.out.trans KwA.out)
  have HB00 := hide (show Below w0.heap.size w0 wA from HB01.out.trans (KwA.out.below hq1 hq2 hq3 HB01.out.size))
  have HFF := hide (lt_or (a := b) HF.out heN)
  have HBW1 := hide (show w0.heap.size ≤ wA.heap.size from HB00.out.size)
  go_wp2_with fail
  go_loopw [7, 8, 9, 10] (fun nx la i _ wr => ∃ (k : Nat), k ≤ len ∧ i = .int .i64 k ∧ nx = .int .i64 (posE (b + 1) (ks t) k : Nat) ∧ la = .int .i64 (b : Nat) ∧ Dx wr qF qS qT B (fun i j => FK (fun i j => F i j ∨ (i = b ∧ j = e)) (b + 1) (ks t) k i j ∨ ND 5 b e (layE (b + 1) (ks t)) k i j) (SK S (b + 1) (ks t) k) N ∧ Kd qF qS qT wA wr) (fun _ _ i _ _ => len - (intOf i).toNat)
  case atStart => exact ⟨0, Nat.zero_le _, rfl, by simp [posE], rfl, dx_congr HwA.out (fun i j => ⟨fun h => .inl ((fk_zero (n := n) (l := ks t) (s := b + 1) (F := (fun i j => F i j ∨ (i = b ∧ j = e))) i j).1 h), fun h => h.elim (fun h => (fk_zero (n := n) (l := ks t) (s := b + 1) (F := (fun i j => F i j ∨ (i = b ∧ j = e))) i j).2 h) (fun h => (nd_zero h).elim)⟩) (fun i u j => sk_zero (n := n) (l := ks t) (s := b + 1) i u j), Kd.refl _ _ _ _⟩
  case round =>
    obtain ⟨k, hk, rfl, rfl, rfl, hd, hkd⟩ := hrel
    have HDR := hide hd
    have HKR := hide hkd
    have HLR := hide (lb_kd hkd HQ.out.1 HQ.out.2.1 HQ.out.2.2 LwA.out)
    have HBR := hide (show Below w0.heap.size w0 wr from HB00.out.trans (hkd.below hq1 hq2 hq3 HBW1.out))
    have HFN := hide (fun i j h => fnd_lt (K := 5) (k := k) HFUL.out HFF.out (by rw [HR.out]; exact HE.out) heN (by have := HL6.out; omega) i j h)
    clear hd hkd p0 p1 p2 p3 q0 q1 q2
    obtain ⟨⟨p0, p1, p2, p3⟩, q0, q1, q2⟩ := lb_cells HLR.out
    by_cases hlt : k < len
    · obtain ⟨x, bk, ok, c0, c1, c2, rfl, hx, m0, m1, m2, -⟩ := HKIDS.out wr HBR.out k hlt
      obtain ⟨x', b', off', c0', c1', c2', eb, hx', m0', m1', m2', m3'⟩ := HKIDS.out w0 (Below.refl _ _) k hlt
      obtain rfl : x = x' := Option.some.inj (hx.symm.trans hx')
      cases eb
      have e0 : c0' = c0 := Option.some.inj (((HBR.out.cell (p := ⟨bk, ok + k * 3, none⟩) (cell_lt m0')).trans m0').symm.trans m0)
      have e1 : c1' = c1 := Option.some.inj (((HBR.out.cell (p := ⟨bk, ok + k * 3 + 1, none⟩) (cell_lt m1')).trans m1').symm.trans m1)
      have e2 : c2' = c2 := Option.some.inj (((HBR.out.cell (p := ⟨bk, ok + k * 3 + 2, none⟩) (cell_lt m2')).trans m2').symm.trans m2)
      subst e0; subst e1; subst e2
      obtain ⟨kx, sx, ax0, lx0, cx0, rfl, rfl, rfl⟩ := rx_cells m3'
      have HX3 := hide m3'
      have HXX := hide hx
      have HKC := hide (show ∀ w', Below w0.heap.size w0 w' → w'.cell? ⟨bk, ok + k * 3, none⟩ = some (.int .u8 kx) ∧ w'.cell? ⟨bk, ok + k * 3 + 1, none⟩ = some (.int .u16 sx) ∧ w'.cell? ⟨bk, ok + k * 3 + 2, none⟩ = some (.slice ax0 lx0 cx0) from fun w' hb' => ⟨(hb'.cell (p := ⟨bk, ok + k * 3, none⟩) (cell_lt m0')).trans m0', (hb'.cell (p := ⟨bk, ok + k * 3 + 1, none⟩) (cell_lt m1')).trans m1', (hb'.cell (p := ⟨bk, ok + k * 3 + 2, none⟩) (cell_lt m2')).trans m2'⟩)
      have i5 : (0 : Int) ≤ (k : Int) := by omega
      have i6 : (k : Int) < (len : Int) := by omega
      have hmx := List.mem_of_getElem? hx
      have hrx := real_pos (HFUL.out x hmx)
      have hpn := pos_next (s := b + 1) hx
      have hpm := pos_mono (l := ks t) (s := b + 1) (ks t).length (k + 1) (by have := HL6.out; omega) (Nat.le_refl _)
      have hpa := pos_all (ks t) (b + 1)
      have hin : realN n x ≤ 100 ∧ posE (b + 1) (ks t) k + 2 * realN n x ≤ e ∧ b + 1 ≤ posE (b + 1) (ks t) k := by
        have h1 := HRE.out
        have h2 := HE.out
        refine ⟨?_, by omega, by unfold posE; omega⟩
        have : posE (b + 1) (ks t) k + 2 * realN n x ≤ b + 1 + 2 * ((ks t).map (fun x => realN n x)).sum := by omega
        have h3 : b + 1 ≤ posE (b + 1) (ks t) k := by unfold posE; omega
        omega
      have HNX0 := hide (nodes_real n x)
      have HPN := hide hpn
      have HSX := hide (HKSH.out x hmx)
      have HSA := hide (src_at (b := b) hx)
      have HFNX := hide (fun i j => fk_next (F := (fun i j => F i j ∨ (i = b ∧ j = e))) (s := b + 1) hx i j)
      have HSNX := hide (fun i u j => sk_next (S := S) (s := b + 1) hx i u j)
      have HSKR := hide (fun i u j h => sk_rng (k := k) (show b ≤ b + 1 by omega) HS.out HFUL.out (by have := HL6.out; omega) i u j h)
      have HFX := hide (HFUL.out x hmx)
      obtain ⟨pk, hpk⟩ : ∃ pk, posE (b + 1) (ks t) k = pk := ⟨_, rfl⟩
      obtain ⟨r, hr'⟩ : ∃ r, realN n x = r := ⟨_, rfl⟩
      rw [hpk] at HPN HSA HFNX HSNX HSKR hin hpn ⊢
      rw [hr'] at HPN HSA hin hrx hpn
      have HRX := hide hr'
      obtain ⟨ek, hek⟩ : ∃ ek : Nat, (pk : Int) + 2 * (r : Int) - 1 = (ek : Int) := ⟨pk + 2 * r - 1, by omega⟩
      have HEK := hide (show ek = pk + 2 * r - 1 by omega)
      have HIN := hide hin
      have hpkN : pk < N := by omega
      have hekN : ek < N := by omega
      have HFN2 := hide (show ∀ i j, ((FK (fun i j => F i j ∨ (i = b ∧ j = e)) (b + 1) (ks t) k i j ∨ ND 5 b e (layE (b + 1) (ks t)) k i j) ∨ Fr n x pk i j) → j < N from fun i j h => by
        rcases h with h | h
        · exact HFN.out i j h
        · have h1 := fr_rng n x pk i j HFX.out h
          have h2 := HRX.out
          have h3 := HIN.out
          omega)
      have HBRD := hide (HBR.out.drew)
      have HDRD := hide (dx_below (below_drew1 wr) HDR.out)
      have HLRD := hide (lb_kd (Kd.of_below (a := qF) (b := qS) (c := qT) (below_drew1 wr)) HQ.out.1 HQ.out.2.1 HQ.out.2.2 HLR.out)
      clear m0' m1' m2' m3' hx hx' hmx hpn hpm hpa hr' hpk
      go_wp2_with fail
      go_region_held3 (fun w' => (w'.cell? ⟨P, 0, none⟩ = some (.slice (some ⟨qF, 0, none⟩) N N) ∧ w'.cell? ⟨P, 1, none⟩ = some (.slice (some ⟨qS, 0, none⟩) N N) ∧ w'.cell? ⟨P, 2, none⟩ = some (.slice (some ⟨qT, 0, none⟩) N N) ∧ w'.cell? ⟨P, 3, none⟩ = some x3) ∧ w'.cell? ⟨P + 1, 2, none⟩ = some (.slice (some ⟨bk, ok, none⟩) len cap) ∧ w'.cell? ⟨bk, ok + k * 3, none⟩ = some (.int .u8 kx) ∧ w'.cell? ⟨bk, ok + k * 3 + 1, none⟩ = some (.int .u16 sx) ∧ w'.cell? ⟨bk, ok + k * 3 + 2, none⟩ = some (.slice ax0 lx0 cx0)) (first | assumption | go_keep) ((go_at_call 48; refine (ih x _ pk _ _ wr.drew HX3.out HBRD.out HSX.out (by rw [HRX.out]; exact HIN.out.1) (by rw [HRX.out]; have := HIN.out; omega) HFN.out HSKR.out HDRD.out).mono ?_; rintro er w2 ⟨rfl, hd2, hk2⟩; obtain ⟨⟨j0, j1, j2, j3⟩, j4, j5, j6⟩ := lb_cells (lb_kd hk2 HQ.out.1 HQ.out.2.1 HQ.out.2.2 HLRD.out); have k9 := And.intro (And.intro j0 (And.intro j1 (And.intro j2 j3))) (And.intro j6 (HKC.out w2 (HBRD.out.trans (hk2.below hq1 hq2 hq3 HBRD.out.size))))))
      have HD2 := hide hd2
      have HK2 := hide ((Kd.of_below (below_drew1 wr)).trans hk2)
      have HL2 := hide (lb_kd HK2.out HQ.out.1 HQ.out.2.1 HQ.out.2.2 HLR.out)
      have HB2 := hide (show Below w0.heap.size w0 w2 from HBR.out.trans (HK2.out.below hq1 hq2 hq3 HBR.out.size))
      clear hd2 hk2 j0 j1 j2 j3 j4 j5 j6 k9 m0 m1 m2 p0 p1 p2 p3 q0 q1 q2
      obtain ⟨⟨p0, p1, p2, p3⟩, q0, q1, q2⟩ := lb_cells HL2.out
      obtain ⟨m0, m1, m2⟩ := HKC.out w2 HB2.out
      go_wp2_with fail
      refine (rnodes_any n x _ w2 (by omega) (rx_below HB2.out n x _ HX3.out)).mono ?_
      rintro er w4 ⟨rfl, hb4⟩
      rw [HNX0.out.1 (by rw [HRX.out]; exact HIN.out.1), HRX.out]
      have HD4 := hide (dx_below hb4 HD2.out)
      have HK4 := hide (HK2.out.trans (Kd.of_below hb4))
      have HL4 := hide (lb_kd (Kd.of_below (a := qF) (b := qS) (c := qT) hb4) HQ.out.1 HQ.out.2.1 HQ.out.2.2 HL2.out)
      clear hb4 p0 p1 p2 p3 q0 q1 q2 m0 m1 m2
      obtain ⟨⟨p0, p1, p2, p3⟩, q0, q1, q2⟩ := lb_cells HL4.out
      have j3 : (0 : Int) ≤ (ek : Int) := by omega
      have j4 : (ek : Int) < (N : Int) := by omega
      go_upto_region 15 with fail
      go_cut [] from 53 to 152 (fun wx => Dx wx qF qS qT B (fun i j => ((FK (fun i j => F i j ∨ (i = b ∧ j = e)) (b + 1) (ks t) k i j ∨ ND 5 b e (layE (b + 1) (ks t)) k i j) ∨ Fr n x pk i j) ∨ (i = b ∧ j = pk)) (fun i u j => SK S (b + 1) (ks t) k i u j ∨ Sp n x pk i u j) N ∧ Kd qF qS qT w4 wx)
      case first =>
        obtain ⟨vr, lr, c1, hrow, hlen1, hnext⟩ := dx_into (dx_below (below_drew1 w4) HD4.out) (a := b) (x := pk) (M := N) hbN' HFN2.out
        have c1' : w4.cell? ⟨qF, b, none⟩ = some vr := c1
        obtain ⟨⟨p0, p1, p2, p3⟩, q0, q1, q2⟩ := lb_cells HL4.out
        have HNX := hide hnext
        have HRW := hide hrow
        have HLN := hide hlen1
        clear c1 hnext hrow hlen1
        go_region_with (go_at_call 49; refine (into_row B vr lr pk w4.drew (by have := HLN.out; omega) HRW.out).mono ?_; rintro er w3 ⟨v', rfl, hr3, hb3⟩; obtain ⟨ax, lx, cx, rfl⟩ := row_form hr3; obtain ⟨⟨g1, g2⟩, g3, g4⟩ := HNX.out w3 _ hb3 hr3; obtain ⟨⟨j0, j1, j2, j3⟩, j4, j5, j6⟩ := lb_cells (lb_kd (Kd.of_below hb3) HQ.out.1 HQ.out.2.1 HQ.out.2.2 (lb_kd (Kd.of_below (below_drew1 w4)) HQ.out.1 HQ.out.2.1 HQ.out.2.2 HL4.out)))
        all_goals (go_wp2_with fail; go_meet; exact ⟨g3, (Kd.of_below (below_drew1 w4)).trans g4⟩)
      case rest =>
      obtain ⟨wP, rfl⟩ : ∃ y, y = wc := ⟨_, rfl⟩
      have HwP := hide hcut.1
      have KwP := hide hcut.2
      clear hcut
      have LwP := hide (lb_kd KwP.out HQ.out.1 HQ.out.2.1 HQ.out.2.2 HL4.out)
      obtain ⟨⟨p0, p1, p2, p3⟩, q0, q1, q2⟩ := lb_cells LwP.out
      go_upto_region 16 with fail
      obtain ⟨vr, lr, c1, hrow, hlen1, hnext⟩ := dx_into (dx_below (below_drew1 wP) HwP.out) (a := ek) (x := e) (M := N) hekN (lt_or (a := b) HFN2.out hpkN)
      have c1' : wP.cell? ⟨qF, ek, none⟩ = some vr := c1
      have HNX := hide hnext
      have HRW := hide hrow
      have HLN := hide hlen1
      clear c1 hnext hrow hlen1
      go_region_with (go_at_call 49; refine (into_row B vr lr e wP.drew (by have := HLN.out; omega) HRW.out).mono ?_; rintro er w3 ⟨v', rfl, hr3, hb3⟩; obtain ⟨ax, lx, cx, rfl⟩ := row_form hr3; obtain ⟨⟨g1, g2⟩, g3, g4⟩ := HNX.out w3 _ hb3 hr3; obtain ⟨⟨j0, j1, j2, j3⟩, j4, j5, j6⟩ := lb_cells (lb_kd (Kd.of_below hb3) HQ.out.1 HQ.out.2.1 HQ.out.2.2 (lb_kd (Kd.of_below (below_drew1 wP)) HQ.out.1 HQ.out.2.1 HQ.out.2.2 LwP.out)))
      all_goals
        have HLD := hide g3
        have HLK := hide ((Kd.of_below (below_drew1 wP)).trans g4)
        clear g1 g2 g3 g4 j0 j1 j2 j3 j4 j5 j6 hr3 hb3 c1'
        have HEND := hide (show Dx _ qF qS qT B (fun i j => FK (fun i j => F i j ∨ (i = b ∧ j = e)) (b + 1) (ks t) (k + 1) i j ∨ ND 5 b e (layE (b + 1) (ks t)) (k + 1) i j) (SK S (b + 1) (ks t) (k + 1)) N from dx_congr HLD.out (fun i j => by
                  constructor
                  · rintro ((((h | h) | h) | h) | h)
                    · exact .inl ((HFNX.out i j).1 (.inl h))
                    · exact .inr (nd_next.2 (.inl h))
                    · exact .inl ((HFNX.out i j).1 (.inr h))
                    · exact .inr (nd_next.2 (.inr (.inr ⟨by omega, .inl ⟨h.1, by rw [HSA.out.2.1]; exact h.2⟩⟩)))
                    · exact .inr (nd_next.2 (.inr (.inr ⟨by omega, .inr (.inl ⟨by rw [HSA.out.2.2, ← HEK.out]; exact h.1, h.2⟩)⟩)))
                  · rintro (h | h)
                    · rcases (HFNX.out i j).2 h with h | h
                      · exact .inl (.inl (.inl (.inl h)))
                      · exact .inl (.inl (.inr h))
                    · rcases nd_next.1 h with h | h
                      · exact .inl (.inl (.inl (.inr h)))
                      · rw [HSA.out.2.1, HSA.out.2.2, ← HEK.out] at h
                        rcases h with ⟨h, _⟩ | ⟨_, h | h | ⟨h, _⟩⟩
                        · omega
                        · exact .inl (.inr h)
                        · exact .inr h
                        · omega) (fun i u j => HSNX.out i u j))
        have HEKD := hide (HKR.out.trans ((HK4.out.trans KwP.out).trans HLK.out))
        have ekp : (ek : Int) + 1 = ((pk + 2 * r : Nat) : Int) := by have := HEK.out; omega
        go_wp2
        go_roundw
        case rel => exact ⟨k + 1, by omega, by go_num, by rw [HPN.out]; exact congrArg (Value.int .i64) (by omega), rfl, HEND.out, HEKD.out⟩
        case measure => simp [intOf]; omega

    · have e' : k = len := by omega
      subst e'
      have HL1 := hide (ok_one HOK.out (by have := HK.out; omega))
      have HTOT := hide (show Dx wr qF qS qT B (fun i j => F i j ∨ Fr (n + 1) t b i j) (fun i u j => S i u j ∨ Sp (n + 1) t b i u j) N from by
        have h1 := HDR.out
        rw [← HL6.out] at h1
        exact dx_congr h1 (fun i j => lay_five' HK.out HL1.out (by rw [HR.out]; exact HE.out) i j) (fun i u j => lay_sets' (by rw [HK.out]; omega) i u j))
      go_wp2
      first | go_end0 | refine bodyPost_ret (results_none rfl _ _ _) rfl ?_
      exact ⟨rfl, HTOT.out, HKD0.out.trans HKR.out⟩
end Go.Proofs.YtccaknabpnpjaaaGreatDoor.A
