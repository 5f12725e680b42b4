/- The document's Same. -/
import Derived.Test.YtacfkdjpdgnohaaD
namespace Go.Proofs.Ytacfkdjpdgnohaa.A
open Go.RowKit

theorem zip_at {α β : Type} {l : List α} {k : List β} {i : Nat} {x : α} {y : β} (hx : l[i]? = some x) (hy : k[i]? = some y) : (l.zip k)[i]? = some (x, y) := by
  rw [List.getElem?_zip_eq_some]; exact ⟨hx, hy⟩

theorem below_drew1 (w : World) : Below w.heap.size w w.drew := (Below.refl _ _).drew
theorem keep3 {w w' : World} {b o : Nat} {u0 u1 u2 : Value} (hb : Below w.drew.heap.size w.drew w') (h0 : w.cell? ⟨b, o, none⟩ = some u0) (h1 : w.cell? ⟨b, o + 1, none⟩ = some u1) (h2 : w.cell? ⟨b, o + 2, none⟩ = some u2) :
    w'.cell? ⟨b, o, none⟩ = some u0 ∧ w'.cell? ⟨b, o + 1, none⟩ = some u1 ∧ w'.cell? ⟨b, o + 2, none⟩ = some u2 :=
  ⟨(hb.cell (p := ⟨b, o, none⟩) (cell_lt h0)).trans h0, (hb.cell (p := ⟨b, o + 1, none⟩) (cell_lt h1)).trans h1, (hb.cell (p := ⟨b, o + 2, none⟩) (cell_lt h2)).trans h2⟩
theorem same_no {n k m : Nat} (ta : Ex (n + 1)) (tb : Ex (k + 1)) (e : ¬ (kd ta = kd tb ∧ st ta = st tb ∧ (ks ta).length = (ks tb).length)) : sameE (n + 1) ta (k + 1) tb m = false := by
  rw [Bool.eq_false_iff]
  intro q
  cases m with
  | zero =>
    unfold sameE at q
    simp only [Bool.and_eq_true, decide_eq_true_eq] at q
    exact e q
  | succ m =>
    unfold sameE at q
    simp only [Bool.and_eq_true, decide_eq_true_eq] at q
    exact e ⟨q.1, q.2.1, q.2.2.1⟩
theorem same_zero {n k : Nat} (ta : Ex (n + 1)) (tb : Ex (k + 1)) (e : kd ta = kd tb ∧ st ta = st tb ∧ (ks ta).length = (ks tb).length) : sameE (n + 1) ta (k + 1) tb 0 = true := by
  unfold sameE
  rw [decide_eq_true e.1, decide_eq_true e.2.1, decide_eq_true e.2.2]; rfl
theorem same_next {n k : Nat} (ta : Ex (n + 1)) (tb : Ex (k + 1)) (e : kd ta = kd tb ∧ st ta = st tb ∧ (ks ta).length = (ks tb).length) (j : Nat) : sameE (n + 1) ta (k + 1) tb (j + 1) = ((ks ta).zip (ks tb)).all (fun p => sameE n p.1 k p.2 j) := by
  show (decide (kd ta = kd tb) && (decide (st ta = st tb) && (decide ((ks ta).length = (ks tb).length) && _))) = _
  rw [decide_eq_true e.1, decide_eq_true e.2.1, decide_eq_true e.2.2]; rfl

set_option maxRecDepth 100000 in
set_option maxHeartbeats 3200000 in
theorem rsame_any : ∀ (n : Nat) (ta : Ex n) (k : Nat) (tb : Ex k) (va vb : Value) (m : Nat) (w : World), m ≤ 100 → Rx w n ta va → Rx w k tb vb →
    Calls Try.prog 21 #[va, vb, .int .i64 m] w fun e w' => e = .returned (.bool (sameE n ta k tb m)) ∧ Below w.heap.size w w' := by
  intro n
  induction n with
  | zero => intro ta k tb va vb m w _ h _; exact h.elim
  | succ n ih =>
    intro ta k tb va vb m w hm h h'
    cases k with
    | zero => exact h'.elim
    | succ k =>
      obtain ⟨a, len, cap, rfl, hk, hs, hl, h6, hkids⟩ := rx_open h
      obtain ⟨a', len', cap', rfl, hk', hs', hl', h6', hkids'⟩ := rx_open h'
      unfold maxLen at hl hl'
      have HE0 := hide (same_no (m := m) ta tb)
      have HE1 := hide (same_zero ta tb)
      have HE2 := hide (same_next ta tb)
      rw [h6, h6'] at HE0 HE1 HE2
      generalize kd ta = kk at *
      generalize st ta = ss at *
      generalize ks ta = l at *
      generalize kd tb = kk' at *
      generalize st tb = ss' at *
      generalize ks tb = l' at *
      have HB0 := hide (((Below.refl w.heap.size w).alloc (Nat.le_refl _) (.cells #[.int .u8 kk, .int .u16 ss, .slice a len cap] 25)).alloc (by simp) (.cells #[.int .u8 kk', .int .u16 ss', .slice a' len' cap'] 25))
      have hP := box3 w (.int .u8 kk) (.int .u16 ss) (.slice a len cap) 25
      have hP' := box3 (w.alloc (.cells #[.int .u8 kk, .int .u16 ss, .slice a len cap] 25)) (.int .u8 kk') (.int .u16 ss') (.slice a' len' cap') 25
      have hsz : (w.alloc (.cells #[.int .u8 kk, .int .u16 ss, .slice a len cap] 25)).heap.size = w.heap.size + 1 := by simp
      rw [hsz] at hP'
      have hb1 := (Below.refl (w.alloc (.cells #[.int .u8 kk, .int .u16 ss, .slice a len cap] 25)).heap.size (w.alloc (.cells #[.int .u8 kk, .int .u16 ss, .slice a len cap] 25))).alloc (Nat.le_refl _) (.cells #[.int .u8 kk', .int .u16 ss', .slice a' len' cap'] 25)
      have HP := hide (And.intro ((hb1.cell (p := ⟨w.heap.size, 0, none⟩) (cell_lt hP.1)).trans hP.1) (And.intro ((hb1.cell (p := ⟨w.heap.size, 1, none⟩) (cell_lt hP.2.1)).trans hP.2.1) ((hb1.cell (p := ⟨w.heap.size, 2, none⟩) (cell_lt hP.2.2)).trans hP.2.2)))
      have HP' := hide hP'
      have HK := hide hkids
      have HK' := hide hkids'
      clear h h' hkids hkids' hP hP' hb1 hsz
      by_cases e1 : kk = kk'
      · subst e1
        by_cases e2 : ss = ss'
        · subst e2
          by_cases e3 : len = len'
          · subst e3
            have g1 : ((kk : Int) != (kk : Int)) = false := by simp
            have g2 : ((ss : Int) != (ss : Int)) = false := by simp
            have g3 : ((len : Int) != (len : Int)) = false := by simp
            cases m with
            | zero =>
              obtain ⟨p0, p1, p2⟩ := HP.out
              obtain ⟨p0', p1', p2'⟩ := HP'.out
              go_enter Try.func21, Try.ntmps21
              go_wp2_with fail
              refine wp_loop_rounds 1 ?_
              rw [rounds_succ]
              by_cases hl0 : 0 < len
              · go_wp2
                go_ret
                exact ⟨ret_bool (HE1.out (by simp)).symm, HB0.out⟩
              · go_wp2
                go_ret
                exact ⟨ret_bool (HE1.out (by simp)).symm, HB0.out⟩
            | succ m =>
              have HE3 := hide (HE2.out ⟨rfl, rfl, rfl⟩ m)
              obtain ⟨M, hM⟩ : ∃ M, m + 1 = M := ⟨_, rfl⟩
              have hpos : (0 : Int) < (M : Int) := by omega
              have hsub : IntKind.i64.wrap ((M : Int) - 1) = (m : Int) := by rw [IntKind.wrap_i64]; omega
              have HM := hide (show m ≤ 100 by omega)
              rw [hM] at HE3 hm ⊢
              clear hM HE0 HE1 HE2
              go_enter Try.func21, Try.ntmps21
              go_wp2_with fail
              obtain ⟨p0, p1, p2⟩ := HP.out
              obtain ⟨p0', p1', p2'⟩ := HP'.out
              clear HP HP'
              generalize (w.alloc (.cells #[.int .u8 kk, .int .u16 ss, .slice a len cap] 25)).alloc (.cells #[.int .u8 kk, .int .u16 ss, .slice a' len cap'] 25) = W at *
              obtain ⟨q, hq⟩ : ∃ q, w.heap.size = q := ⟨_, rfl⟩
              rw [hq] at p0 p1 p2 p0' p1' p2' HB0 ⊢
              have HQ := hide hq
              clear hq
              go_loopw [7] (fun u wr => ∃ i : Nat, i ≤ len ∧ u = .int .i64 i ∧ ((l.zip l').take i).all (fun p => sameE n p.1 k p.2 m) = true ∧ Below W.heap.size W wr) (fun u _ => len - (intOf u).toNat)
              case atStart => exact ⟨0, Nat.zero_le _, rfl, rfl, Below.refl _ _⟩
              case round =>
                obtain ⟨i, hi, rfl, hd, hb⟩ := hrel
                have r2 := (hb.cell (p := ⟨q, 2, none⟩) (cell_lt p2)).trans p2
                have r2' := (hb.cell (p := ⟨q + 1, 2, none⟩) (cell_lt p2')).trans p2'
                have HD := hide hd
                clear hd
                have HB2 := hide (HB0.out.trans (hb.mono (HQ.out ▸ HB0.out.size)))
                by_cases hlt : i < len
                · obtain ⟨x, b, off, c0, c1, c2, rfl, hx, k0, k1, k2, k3⟩ := HK.out wr (by rw [HQ.out]; exact HB2.out) i hlt
                  obtain ⟨x', b', off', c0', c1', c2', rfl, hx', k0', k1', k2', k3'⟩ := HK'.out wr (by rw [HQ.out]; exact HB2.out) i hlt
                  have hz := zip_at hx hx'
                  have HN := hide (show ((l.zip l').take (i + 1)).all (fun p => sameE n p.1 k p.2 m) = sameE n x k x' m from by rw [take_at hz, List.all_append, HD.out]; simp)
                  have HIN := hide (show sameE n x k x' m = false → (l.zip l').all (fun p => sameE n p.1 k p.2 m) = false from fun g => by
                    rw [Bool.eq_false_iff]; intro q
                    have := List.all_eq_true.1 q _ (List.mem_of_getElem? hz)
                    rw [g] at this; cases this)
                  have HK3 := hide (And.intro k3 k3')
                  have HBW := hide hb
                  have i3 : (0 : Int) ≤ (i : Int) := by omega
                  have i4 : (i : Int) < (len : Int) := by omega
                  clear hx hx' hz k3 k3' hb
                  generalize hg : sameE n x k x' m = g at *
                  have HG := hide hg
                  clear hg
                  go_wp2_with fail
                  go_region_held3 (fun w' => (w'.cell? ⟨q, 2, none⟩ = some (.slice (some ⟨b, off, none⟩) len cap) ∧ w'.cell? ⟨q + 1, 2, none⟩ = some (.slice (some ⟨b', off', none⟩) len cap')) ∧ (w'.cell? ⟨b, off + i * 3, none⟩ = some c0 ∧ w'.cell? ⟨b, off + i * 3 + 1, none⟩ = some c1 ∧ w'.cell? ⟨b, off + i * 3 + 2, none⟩ = some c2) ∧ w'.cell? ⟨b', off' + i * 3, none⟩ = some c0' ∧ w'.cell? ⟨b', off' + i * 3 + 1, none⟩ = some c1' ∧ w'.cell? ⟨b', off' + i * 3 + 2, none⟩ = some c2') (first | assumption | go_keep)
                    ((go_at_call 21; refine (ih x k x' _ _ m _ HM.out (rx_below (below_drew1 _) n x _ HK3.out.1) (rx_below (below_drew1 _) k x' _ HK3.out.2)).mono ?_; rintro e w2 ⟨rfl, hb2⟩; rw [HG.out]; have k9 := And.intro (And.intro ((hb2.cell (p := ⟨q, 2, none⟩) (cell_lt r2)).trans r2) ((hb2.cell (p := ⟨q + 1, 2, none⟩) (cell_lt r2')).trans r2')) (And.intro (keep3 hb2 k0 k1 k2) (keep3 hb2 k0' k1' k2'))))
                  have HB3 := hide (HBW.out.trans ((below_drew1 wr).mono HBW.out.size) |>.trans (hb2.mono HBW.out.size))
                  clear hb2 k9
                  cases g
                  · have HB4 := hide (HB0.out.trans (HB3.out.mono (HQ.out ▸ HB0.out.size)))
                    go_wp2
                    go_ret
                    exact ⟨ret_bool (by rw [HE3.out, HIN.out (by simp)]), by rw [HQ.out]; exact HB4.out⟩
                  · go_wp2
                    go_roundw
                    case rel => exact ⟨i + 1, by omega, by go_num, by rw [HN.out], HB3.out⟩
                    case measure => simp [intOf]; omega
                · have e : i = len := by omega
                  subst e
                  have HT := hide (show (l.zip l').take i = l.zip l' from List.take_of_length_le (by rw [List.length_zip]; omega))
                  go_wp2
                  go_ret
                  exact ⟨ret_bool (by rw [HE3.out]; rw [HT.out] at HD; exact HD.out.symm), by rw [HQ.out]; exact HB2.out⟩
          · have f3 : ((len : Int) != (len' : Int)) = true := by simp; omega
            go_enter Try.func21, Try.ntmps21
            go_wp2
            go_ret
            exact ⟨ret_bool (HE0.out (fun q => e3 q.2.2)).symm, HB0.out⟩
        · have f2 : ((ss : Int) != (ss' : Int)) = true := by simp; omega
          go_enter Try.func21, Try.ntmps21
          go_wp2
          go_ret
          exact ⟨ret_bool (HE0.out (fun q => e2 q.2.1)).symm, HB0.out⟩
      · have f1 : ((kk : Int) != (kk' : Int)) = true := by simp; omega
        go_enter Try.func21, Try.ntmps21
        go_wp2
        go_ret
        exact ⟨ret_bool (HE0.out (fun q => e1 q.1)).symm, HB0.out⟩
end Go.Proofs.Ytacfkdjpdgnohaa.A
