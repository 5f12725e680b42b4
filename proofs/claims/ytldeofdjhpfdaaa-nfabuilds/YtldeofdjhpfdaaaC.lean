/- The document's Shapes. -/
import Derived.Test.YtldeofdjhpfdaaaB
namespace Go.Proofs.Ytldeofdjhpfdaaa.A
open Go.RowKit

/-- May a node be, by itself? -/
def okE (k s len : Nat) : Bool :=
  (decide (k = 0) && (decide (len = 0) && decide (s = 0))) || (decide (k = 1) && (decide (len = 0) && decide (0 < s))) || ((decide (k = 2) || decide (k = 3)) && (decide (0 < len) && decide (s = 0))) || ((decide (k = 4) || decide (k = 5)) && (decide (len = 1) && decide (s = 0)))
def shapesE : (n : Nat) → Ex n → Bool
  | 0, _ => false
  | n + 1, t => okE (kd t) (st t) (ks t).length && (ks t).all (fun x => shapesE n x)

/-- The loop's end and its rounds are the same whatever the kind: the rest of the walk, from the values on. -/
theorem shapes_end {n : Nat} {l : List (Ex n)} {ok : Bool} {i : Nat} (h : (ok && (l.take i).all (fun x => shapesE n x)) = false) : (ok && l.all (fun x => shapesE n x)) = false := by
  cases ok
  · rfl
  · rw [Bool.true_and] at h ⊢
    rw [Bool.eq_false_iff] at h ⊢
    intro q
    exact h (List.all_eq_true.2 fun x hx => List.all_eq_true.1 q x (List.mem_of_mem_take hx))

set_option maxRecDepth 100000 in
set_option maxHeartbeats 6400000 in
theorem rshapes_any : ∀ (n : Nat) (t : Ex n) (v : Value) (w : World), Rx w n t v →
    Calls Try.prog 46 #[v] w fun e w' => e = .returned (.bool (shapesE n t)) ∧ Below w.heap.size w w' := by
  intro n
  induction n with
  | zero => intro t v w h; exact h.elim
  | succ n ih =>
    intro t v w h
    obtain ⟨a, len, cap, rfl, hk, hs, hl, h6, hkids⟩ := rx_open h
    unfold maxLen at hl
    have HE := hide (show shapesE (n + 1) t = (okE (kd t) (st t) (ks t).length && (ks t).all (fun x => shapesE n x)) from rfl)
    rw [h6] at HE
    generalize kd t = kk at *
    generalize st t = ss at *
    generalize ks t = l at *
    obtain ⟨ok, hok⟩ : ∃ ok, okE kk ss len = ok := ⟨_, rfl⟩
    rw [hok] at HE
    have HK := hide hkids
    have HOK := hide hok
    clear h hkids hok
    have hl0 : len = 0 ∨ 0 < len := by omega
    rcases hl0 with rfl | hl0
    · have HB0 := hide ((Below.refl w.heap.size w).alloc (Nat.le_refl _) (.cells #[.int .u8 kk, .int .u16 ss, .slice a 0 cap] 51))
      have HP := hide (box3 w (.int .u8 kk) (.int .u16 ss) (.slice a 0 cap) 51)
      have HL0 := hide (show l = [] from List.length_eq_zero_iff.1 h6)
      clear HK
      go_enter Try.func46, Try.ntmps46
      go_wp2_with fail
      all_goals
        refine wp_loop_rounds 1 ?_
        rw [rounds_succ]
        go_wp2
        go_ret
        refine ⟨ret_bool ?_, HB0.out⟩
        rw [HE.out, HL0.out, ← HOK.out, List.all_nil, Bool.and_true]
        simp only [beq_iff_eq, beq_eq_false_iff_ne, ne_eq] at *
        rw [Bool.eq_iff_iff]
        simp [okE]
        try omega
    · have HB0 := hide ((Below.refl w.heap.size w).alloc (Nat.le_refl _) (.cells #[.int .u8 kk, .int .u16 ss, .slice a len cap] 51))
      have HP := hide (box3 w (.int .u8 kk) (.int .u16 ss) (.slice a len cap) 51)
      have hl2 : ((len : Int) == 0) = false := by simp; omega
      have hl3 : (0 : Int) < (len : Int) := by omega
      have hs0 : ((ss : Int) == 0) = decide (ss = 0) := by rw [Bool.eq_iff_iff]; simp
      have hs1 : decide ((0 : Int) < (ss : Int)) = decide (0 < ss) := by rw [Bool.eq_iff_iff]; simp
      have hn1 : ((len : Int) == 1) = decide (len = 1) := by rw [Bool.eq_iff_iff]; simp; omega
      obtain ⟨b1, hb1⟩ : ∃ b, decide (ss = 0) = b := ⟨_, rfl⟩
      obtain ⟨b3, hb3⟩ : ∃ b, decide (len = 1) = b := ⟨_, rfl⟩
      rw [hb1] at hs0
      rw [hb3] at hn1
      have hkk : kk = 0 ∨ kk = 1 ∨ kk = 2 ∨ kk = 3 ∨ kk = 4 ∨ kk = 5 ∨ 5 < kk := by omega
      have HOK2 := hide (show ok = ((decide (kk = 0) && (false && b1)) || (decide (kk = 1) && (false && decide (0 < ss))) || ((decide (kk = 2) || decide (kk = 3)) && (true && b1)) || ((decide (kk = 4) || decide (kk = 5)) && (b3 && b1))) from by
        rw [← HOK.out, ← hb1, ← hb3]; unfold okE; rw [show decide (len = 0) = false from decide_eq_false (by omega), show decide (0 < len) = true from decide_eq_true hl0])
      clear HOK hb1 hb3 hs1
      rcases hkk with h | h | h | h | h | h | h
      · have y0 : ((kk : Int) == 0) = true := by simp; omega
        have y1 : ((kk : Int) == 1) = false := by simp; omega
        have y2 : ((kk : Int) == 2) = false := by simp; omega
        have y3 : ((kk : Int) == 3) = false := by simp; omega
        have y4 : ((kk : Int) == 4) = false := by simp; omega
        have y5 : ((kk : Int) == 5) = false := by simp; omega
        have HO0 : ok = false := by
          rw [HOK2.out, show decide (kk = 0) = true from decide_eq_true h, show decide (kk = 1) = false from decide_eq_false (by omega), show decide (kk = 2) = false from decide_eq_false (by omega), show decide (kk = 3) = false from decide_eq_false (by omega), show decide (kk = 4) = false from decide_eq_false (by omega), show decide (kk = 5) = false from decide_eq_false (by omega)]
          cases b1 <;> cases b3 <;> simp
        have HO := hide HO0
        clear HOK2 h HO0
        cases b1 <;> cases b3
        all_goals
          go_enter Try.func46, Try.ntmps46
          go_wp2_with fail
          obtain ⟨p0, p1, p2⟩ := HP.out
          clear HP y0 y1 y2 y3 y4 y5 hs0 hn1 hl2
          generalize w.alloc (.cells #[.int .u8 kk, .int .u16 ss, .slice a len cap] 51) = W at *
          obtain ⟨q, hq⟩ : ∃ q, w.heap.size = q := ⟨_, rfl⟩
          rw [hq] at p0 p1 p2 HB0 ⊢
          have HQ := hide hq
          clear hq
          go_loopw [4, 5] (fun s u wr => ∃ (i : Nat) (r : Bool), i ≤ len ∧ u = .int .i64 i ∧ s = .bool r ∧ r = (ok && (l.take i).all (fun x => shapesE n x)) ∧ Below W.heap.size W wr) (fun _ u _ => len - (intOf u).toNat)
          case atStart => exact ⟨0, _, Nat.zero_le _, rfl, rfl, by rw [HO.out]; rfl, Below.refl _ _⟩
          case round =>
            obtain ⟨i, r, hi, rfl, rfl, hd, hb⟩ := hrel
            have r2 := (hb.cell (p := ⟨q, 2, none⟩) (cell_lt p2)).trans p2
            have HD := hide hd
            clear hd
            have HB2 := hide (HB0.out.trans (hb.mono (HQ.out ▸ HB0.out.size)))
            have HBW := hide hb
            clear hb
            by_cases hlt : i < len
            · cases r
              · go_wp2
                go_ret
                exact ⟨ret_bool (by rw [HE.out, shapes_end HD.out.symm]), by rw [HQ.out]; exact HB2.out⟩
              · obtain ⟨x, b, off, c0, c1, c2, rfl, hx, k0, k1, k2, k3⟩ := HK.out wr (by rw [HQ.out]; exact HB2.out) i hlt
                have HN := hide (show (ok && (l.take (i + 1)).all (fun x => shapesE n x)) = shapesE n x from by rw [take_at hx, List.all_append, ← Bool.and_assoc, ← HD.out]; simp)
                have HK3 := hide k3
                have i3 : (0 : Int) ≤ (i : Int) := by omega
                have i4 : (i : Int) < (len : Int) := by omega
                clear hx k3
                generalize hdx0 : shapesE n x = dx at *
                have HDX := hide hdx0
                clear hdx0
                go_wp2_with fail
                refine (ih x _ wr HK3.out).mono ?_
                rintro e w2 ⟨rfl, hb2⟩
                rw [HDX.out]
                have HB3 := hide (HBW.out.trans (hb2.mono HBW.out.size))
                clear hb2
                go_wp2
                go_roundw
                case rel => exact ⟨i + 1, dx, by omega, by go_num, rfl, by rw [HN.out], HB3.out⟩
                case measure => simp [intOf]; omega
            · have e : i = len := by omega
              subst e
              have HT := hide (show l.take i = l from List.take_of_length_le (by omega))
              go_wp2
              go_ret
              exact ⟨ret_bool (by rw [HE.out]; rw [HT.out] at HD; exact HD.out), by rw [HQ.out]; exact HB2.out⟩
      · have y0 : ((kk : Int) == 0) = false := by simp; omega
        have y1 : ((kk : Int) == 1) = true := by simp; omega
        have y2 : ((kk : Int) == 2) = false := by simp; omega
        have y3 : ((kk : Int) == 3) = false := by simp; omega
        have y4 : ((kk : Int) == 4) = false := by simp; omega
        have y5 : ((kk : Int) == 5) = false := by simp; omega
        have HO0 : ok = false := by
          rw [HOK2.out, show decide (kk = 0) = false from decide_eq_false (by omega), show decide (kk = 1) = true from decide_eq_true h, show decide (kk = 2) = false from decide_eq_false (by omega), show decide (kk = 3) = false from decide_eq_false (by omega), show decide (kk = 4) = false from decide_eq_false (by omega), show decide (kk = 5) = false from decide_eq_false (by omega)]
          cases b1 <;> cases b3 <;> simp
        have HO := hide HO0
        clear HOK2 h HO0
        cases b1 <;> cases b3
        all_goals
          go_enter Try.func46, Try.ntmps46
          go_wp2_with fail
          obtain ⟨p0, p1, p2⟩ := HP.out
          clear HP y0 y1 y2 y3 y4 y5 hs0 hn1 hl2
          generalize w.alloc (.cells #[.int .u8 kk, .int .u16 ss, .slice a len cap] 51) = W at *
          obtain ⟨q, hq⟩ : ∃ q, w.heap.size = q := ⟨_, rfl⟩
          rw [hq] at p0 p1 p2 HB0 ⊢
          have HQ := hide hq
          clear hq
          go_loopw [4, 5] (fun s u wr => ∃ (i : Nat) (r : Bool), i ≤ len ∧ u = .int .i64 i ∧ s = .bool r ∧ r = (ok && (l.take i).all (fun x => shapesE n x)) ∧ Below W.heap.size W wr) (fun _ u _ => len - (intOf u).toNat)
          case atStart => exact ⟨0, _, Nat.zero_le _, rfl, rfl, by rw [HO.out]; rfl, Below.refl _ _⟩
          case round =>
            obtain ⟨i, r, hi, rfl, rfl, hd, hb⟩ := hrel
            have r2 := (hb.cell (p := ⟨q, 2, none⟩) (cell_lt p2)).trans p2
            have HD := hide hd
            clear hd
            have HB2 := hide (HB0.out.trans (hb.mono (HQ.out ▸ HB0.out.size)))
            have HBW := hide hb
            clear hb
            by_cases hlt : i < len
            · cases r
              · go_wp2
                go_ret
                exact ⟨ret_bool (by rw [HE.out, shapes_end HD.out.symm]), by rw [HQ.out]; exact HB2.out⟩
              · obtain ⟨x, b, off, c0, c1, c2, rfl, hx, k0, k1, k2, k3⟩ := HK.out wr (by rw [HQ.out]; exact HB2.out) i hlt
                have HN := hide (show (ok && (l.take (i + 1)).all (fun x => shapesE n x)) = shapesE n x from by rw [take_at hx, List.all_append, ← Bool.and_assoc, ← HD.out]; simp)
                have HK3 := hide k3
                have i3 : (0 : Int) ≤ (i : Int) := by omega
                have i4 : (i : Int) < (len : Int) := by omega
                clear hx k3
                generalize hdx0 : shapesE n x = dx at *
                have HDX := hide hdx0
                clear hdx0
                go_wp2_with fail
                refine (ih x _ wr HK3.out).mono ?_
                rintro e w2 ⟨rfl, hb2⟩
                rw [HDX.out]
                have HB3 := hide (HBW.out.trans (hb2.mono HBW.out.size))
                clear hb2
                go_wp2
                go_roundw
                case rel => exact ⟨i + 1, dx, by omega, by go_num, rfl, by rw [HN.out], HB3.out⟩
                case measure => simp [intOf]; omega
            · have e : i = len := by omega
              subst e
              have HT := hide (show l.take i = l from List.take_of_length_le (by omega))
              go_wp2
              go_ret
              exact ⟨ret_bool (by rw [HE.out]; rw [HT.out] at HD; exact HD.out), by rw [HQ.out]; exact HB2.out⟩
      · have y0 : ((kk : Int) == 0) = false := by simp; omega
        have y1 : ((kk : Int) == 1) = false := by simp; omega
        have y2 : ((kk : Int) == 2) = true := by simp; omega
        have y3 : ((kk : Int) == 3) = false := by simp; omega
        have y4 : ((kk : Int) == 4) = false := by simp; omega
        have y5 : ((kk : Int) == 5) = false := by simp; omega
        have HO0 : ok = b1 := by
          rw [HOK2.out, show decide (kk = 0) = false from decide_eq_false (by omega), show decide (kk = 1) = false from decide_eq_false (by omega), show decide (kk = 2) = true from decide_eq_true h, show decide (kk = 3) = false from decide_eq_false (by omega), show decide (kk = 4) = false from decide_eq_false (by omega), show decide (kk = 5) = false from decide_eq_false (by omega)]
          cases b1 <;> cases b3 <;> simp
        have HO := hide HO0
        clear HOK2 h HO0
        cases b1 <;> cases b3
        all_goals
          go_enter Try.func46, Try.ntmps46
          go_wp2_with fail
          obtain ⟨p0, p1, p2⟩ := HP.out
          clear HP y0 y1 y2 y3 y4 y5 hs0 hn1 hl2
          generalize w.alloc (.cells #[.int .u8 kk, .int .u16 ss, .slice a len cap] 51) = W at *
          obtain ⟨q, hq⟩ : ∃ q, w.heap.size = q := ⟨_, rfl⟩
          rw [hq] at p0 p1 p2 HB0 ⊢
          have HQ := hide hq
          clear hq
          go_loopw [4, 5] (fun s u wr => ∃ (i : Nat) (r : Bool), i ≤ len ∧ u = .int .i64 i ∧ s = .bool r ∧ r = (ok && (l.take i).all (fun x => shapesE n x)) ∧ Below W.heap.size W wr) (fun _ u _ => len - (intOf u).toNat)
          case atStart => exact ⟨0, _, Nat.zero_le _, rfl, rfl, by rw [HO.out]; rfl, Below.refl _ _⟩
          case round =>
            obtain ⟨i, r, hi, rfl, rfl, hd, hb⟩ := hrel
            have r2 := (hb.cell (p := ⟨q, 2, none⟩) (cell_lt p2)).trans p2
            have HD := hide hd
            clear hd
            have HB2 := hide (HB0.out.trans (hb.mono (HQ.out ▸ HB0.out.size)))
            have HBW := hide hb
            clear hb
            by_cases hlt : i < len
            · cases r
              · go_wp2
                go_ret
                exact ⟨ret_bool (by rw [HE.out, shapes_end HD.out.symm]), by rw [HQ.out]; exact HB2.out⟩
              · obtain ⟨x, b, off, c0, c1, c2, rfl, hx, k0, k1, k2, k3⟩ := HK.out wr (by rw [HQ.out]; exact HB2.out) i hlt
                have HN := hide (show (ok && (l.take (i + 1)).all (fun x => shapesE n x)) = shapesE n x from by rw [take_at hx, List.all_append, ← Bool.and_assoc, ← HD.out]; simp)
                have HK3 := hide k3
                have i3 : (0 : Int) ≤ (i : Int) := by omega
                have i4 : (i : Int) < (len : Int) := by omega
                clear hx k3
                generalize hdx0 : shapesE n x = dx at *
                have HDX := hide hdx0
                clear hdx0
                go_wp2_with fail
                refine (ih x _ wr HK3.out).mono ?_
                rintro e w2 ⟨rfl, hb2⟩
                rw [HDX.out]
                have HB3 := hide (HBW.out.trans (hb2.mono HBW.out.size))
                clear hb2
                go_wp2
                go_roundw
                case rel => exact ⟨i + 1, dx, by omega, by go_num, rfl, by rw [HN.out], HB3.out⟩
                case measure => simp [intOf]; omega
            · have e : i = len := by omega
              subst e
              have HT := hide (show l.take i = l from List.take_of_length_le (by omega))
              go_wp2
              go_ret
              exact ⟨ret_bool (by rw [HE.out]; rw [HT.out] at HD; exact HD.out), by rw [HQ.out]; exact HB2.out⟩
      · have y0 : ((kk : Int) == 0) = false := by simp; omega
        have y1 : ((kk : Int) == 1) = false := by simp; omega
        have y2 : ((kk : Int) == 2) = false := by simp; omega
        have y3 : ((kk : Int) == 3) = true := by simp; omega
        have y4 : ((kk : Int) == 4) = false := by simp; omega
        have y5 : ((kk : Int) == 5) = false := by simp; omega
        have HO0 : ok = b1 := by
          rw [HOK2.out, show decide (kk = 0) = false from decide_eq_false (by omega), show decide (kk = 1) = false from decide_eq_false (by omega), show decide (kk = 2) = false from decide_eq_false (by omega), show decide (kk = 3) = true from decide_eq_true h, show decide (kk = 4) = false from decide_eq_false (by omega), show decide (kk = 5) = false from decide_eq_false (by omega)]
          cases b1 <;> cases b3 <;> simp
        have HO := hide HO0
        clear HOK2 h HO0
        cases b1 <;> cases b3
        all_goals
          go_enter Try.func46, Try.ntmps46
          go_wp2_with fail
          obtain ⟨p0, p1, p2⟩ := HP.out
          clear HP y0 y1 y2 y3 y4 y5 hs0 hn1 hl2
          generalize w.alloc (.cells #[.int .u8 kk, .int .u16 ss, .slice a len cap] 51) = W at *
          obtain ⟨q, hq⟩ : ∃ q, w.heap.size = q := ⟨_, rfl⟩
          rw [hq] at p0 p1 p2 HB0 ⊢
          have HQ := hide hq
          clear hq
          go_loopw [4, 5] (fun s u wr => ∃ (i : Nat) (r : Bool), i ≤ len ∧ u = .int .i64 i ∧ s = .bool r ∧ r = (ok && (l.take i).all (fun x => shapesE n x)) ∧ Below W.heap.size W wr) (fun _ u _ => len - (intOf u).toNat)
          case atStart => exact ⟨0, _, Nat.zero_le _, rfl, rfl, by rw [HO.out]; rfl, Below.refl _ _⟩
          case round =>
            obtain ⟨i, r, hi, rfl, rfl, hd, hb⟩ := hrel
            have r2 := (hb.cell (p := ⟨q, 2, none⟩) (cell_lt p2)).trans p2
            have HD := hide hd
            clear hd
            have HB2 := hide (HB0.out.trans (hb.mono (HQ.out ▸ HB0.out.size)))
            have HBW := hide hb
            clear hb
            by_cases hlt : i < len
            · cases r
              · go_wp2
                go_ret
                exact ⟨ret_bool (by rw [HE.out, shapes_end HD.out.symm]), by rw [HQ.out]; exact HB2.out⟩
              · obtain ⟨x, b, off, c0, c1, c2, rfl, hx, k0, k1, k2, k3⟩ := HK.out wr (by rw [HQ.out]; exact HB2.out) i hlt
                have HN := hide (show (ok && (l.take (i + 1)).all (fun x => shapesE n x)) = shapesE n x from by rw [take_at hx, List.all_append, ← Bool.and_assoc, ← HD.out]; simp)
                have HK3 := hide k3
                have i3 : (0 : Int) ≤ (i : Int) := by omega
                have i4 : (i : Int) < (len : Int) := by omega
                clear hx k3
                generalize hdx0 : shapesE n x = dx at *
                have HDX := hide hdx0
                clear hdx0
                go_wp2_with fail
                refine (ih x _ wr HK3.out).mono ?_
                rintro e w2 ⟨rfl, hb2⟩
                rw [HDX.out]
                have HB3 := hide (HBW.out.trans (hb2.mono HBW.out.size))
                clear hb2
                go_wp2
                go_roundw
                case rel => exact ⟨i + 1, dx, by omega, by go_num, rfl, by rw [HN.out], HB3.out⟩
                case measure => simp [intOf]; omega
            · have e : i = len := by omega
              subst e
              have HT := hide (show l.take i = l from List.take_of_length_le (by omega))
              go_wp2
              go_ret
              exact ⟨ret_bool (by rw [HE.out]; rw [HT.out] at HD; exact HD.out), by rw [HQ.out]; exact HB2.out⟩
      · have y0 : ((kk : Int) == 0) = false := by simp; omega
        have y1 : ((kk : Int) == 1) = false := by simp; omega
        have y2 : ((kk : Int) == 2) = false := by simp; omega
        have y3 : ((kk : Int) == 3) = false := by simp; omega
        have y4 : ((kk : Int) == 4) = true := by simp; omega
        have y5 : ((kk : Int) == 5) = false := by simp; omega
        have HO0 : ok = (b3 && b1) := by
          rw [HOK2.out, show decide (kk = 0) = false from decide_eq_false (by omega), show decide (kk = 1) = false from decide_eq_false (by omega), show decide (kk = 2) = false from decide_eq_false (by omega), show decide (kk = 3) = false from decide_eq_false (by omega), show decide (kk = 4) = true from decide_eq_true h, show decide (kk = 5) = false from decide_eq_false (by omega)]
          cases b1 <;> cases b3 <;> simp
        have HO := hide HO0
        clear HOK2 h HO0
        cases b1 <;> cases b3
        all_goals
          go_enter Try.func46, Try.ntmps46
          go_wp2_with fail
          obtain ⟨p0, p1, p2⟩ := HP.out
          clear HP y0 y1 y2 y3 y4 y5 hs0 hn1 hl2
          generalize w.alloc (.cells #[.int .u8 kk, .int .u16 ss, .slice a len cap] 51) = W at *
          obtain ⟨q, hq⟩ : ∃ q, w.heap.size = q := ⟨_, rfl⟩
          rw [hq] at p0 p1 p2 HB0 ⊢
          have HQ := hide hq
          clear hq
          go_loopw [4, 5] (fun s u wr => ∃ (i : Nat) (r : Bool), i ≤ len ∧ u = .int .i64 i ∧ s = .bool r ∧ r = (ok && (l.take i).all (fun x => shapesE n x)) ∧ Below W.heap.size W wr) (fun _ u _ => len - (intOf u).toNat)
          case atStart => exact ⟨0, _, Nat.zero_le _, rfl, rfl, by rw [HO.out]; rfl, Below.refl _ _⟩
          case round =>
            obtain ⟨i, r, hi, rfl, rfl, hd, hb⟩ := hrel
            have r2 := (hb.cell (p := ⟨q, 2, none⟩) (cell_lt p2)).trans p2
            have HD := hide hd
            clear hd
            have HB2 := hide (HB0.out.trans (hb.mono (HQ.out ▸ HB0.out.size)))
            have HBW := hide hb
            clear hb
            by_cases hlt : i < len
            · cases r
              · go_wp2
                go_ret
                exact ⟨ret_bool (by rw [HE.out, shapes_end HD.out.symm]), by rw [HQ.out]; exact HB2.out⟩
              · obtain ⟨x, b, off, c0, c1, c2, rfl, hx, k0, k1, k2, k3⟩ := HK.out wr (by rw [HQ.out]; exact HB2.out) i hlt
                have HN := hide (show (ok && (l.take (i + 1)).all (fun x => shapesE n x)) = shapesE n x from by rw [take_at hx, List.all_append, ← Bool.and_assoc, ← HD.out]; simp)
                have HK3 := hide k3
                have i3 : (0 : Int) ≤ (i : Int) := by omega
                have i4 : (i : Int) < (len : Int) := by omega
                clear hx k3
                generalize hdx0 : shapesE n x = dx at *
                have HDX := hide hdx0
                clear hdx0
                go_wp2_with fail
                refine (ih x _ wr HK3.out).mono ?_
                rintro e w2 ⟨rfl, hb2⟩
                rw [HDX.out]
                have HB3 := hide (HBW.out.trans (hb2.mono HBW.out.size))
                clear hb2
                go_wp2
                go_roundw
                case rel => exact ⟨i + 1, dx, by omega, by go_num, rfl, by rw [HN.out], HB3.out⟩
                case measure => simp [intOf]; omega
            · have e : i = len := by omega
              subst e
              have HT := hide (show l.take i = l from List.take_of_length_le (by omega))
              go_wp2
              go_ret
              exact ⟨ret_bool (by rw [HE.out]; rw [HT.out] at HD; exact HD.out), by rw [HQ.out]; exact HB2.out⟩
      · have y0 : ((kk : Int) == 0) = false := by simp; omega
        have y1 : ((kk : Int) == 1) = false := by simp; omega
        have y2 : ((kk : Int) == 2) = false := by simp; omega
        have y3 : ((kk : Int) == 3) = false := by simp; omega
        have y4 : ((kk : Int) == 4) = false := by simp; omega
        have y5 : ((kk : Int) == 5) = true := by simp; omega
        have HO0 : ok = (b3 && b1) := by
          rw [HOK2.out, show decide (kk = 0) = false from decide_eq_false (by omega), show decide (kk = 1) = false from decide_eq_false (by omega), show decide (kk = 2) = false from decide_eq_false (by omega), show decide (kk = 3) = false from decide_eq_false (by omega), show decide (kk = 4) = false from decide_eq_false (by omega), show decide (kk = 5) = true from decide_eq_true h]
          cases b1 <;> cases b3 <;> simp
        have HO := hide HO0
        clear HOK2 h HO0
        cases b1 <;> cases b3
        all_goals
          go_enter Try.func46, Try.ntmps46
          go_wp2_with fail
          obtain ⟨p0, p1, p2⟩ := HP.out
          clear HP y0 y1 y2 y3 y4 y5 hs0 hn1 hl2
          generalize w.alloc (.cells #[.int .u8 kk, .int .u16 ss, .slice a len cap] 51) = W at *
          obtain ⟨q, hq⟩ : ∃ q, w.heap.size = q := ⟨_, rfl⟩
          rw [hq] at p0 p1 p2 HB0 ⊢
          have HQ := hide hq
          clear hq
          go_loopw [4, 5] (fun s u wr => ∃ (i : Nat) (r : Bool), i ≤ len ∧ u = .int .i64 i ∧ s = .bool r ∧ r = (ok && (l.take i).all (fun x => shapesE n x)) ∧ Below W.heap.size W wr) (fun _ u _ => len - (intOf u).toNat)
          case atStart => exact ⟨0, _, Nat.zero_le _, rfl, rfl, by rw [HO.out]; rfl, Below.refl _ _⟩
          case round =>
            obtain ⟨i, r, hi, rfl, rfl, hd, hb⟩ := hrel
            have r2 := (hb.cell (p := ⟨q, 2, none⟩) (cell_lt p2)).trans p2
            have HD := hide hd
            clear hd
            have HB2 := hide (HB0.out.trans (hb.mono (HQ.out ▸ HB0.out.size)))
            have HBW := hide hb
            clear hb
            by_cases hlt : i < len
            · cases r
              · go_wp2
                go_ret
                exact ⟨ret_bool (by rw [HE.out, shapes_end HD.out.symm]), by rw [HQ.out]; exact HB2.out⟩
              · obtain ⟨x, b, off, c0, c1, c2, rfl, hx, k0, k1, k2, k3⟩ := HK.out wr (by rw [HQ.out]; exact HB2.out) i hlt
                have HN := hide (show (ok && (l.take (i + 1)).all (fun x => shapesE n x)) = shapesE n x from by rw [take_at hx, List.all_append, ← Bool.and_assoc, ← HD.out]; simp)
                have HK3 := hide k3
                have i3 : (0 : Int) ≤ (i : Int) := by omega
                have i4 : (i : Int) < (len : Int) := by omega
                clear hx k3
                generalize hdx0 : shapesE n x = dx at *
                have HDX := hide hdx0
                clear hdx0
                go_wp2_with fail
                refine (ih x _ wr HK3.out).mono ?_
                rintro e w2 ⟨rfl, hb2⟩
                rw [HDX.out]
                have HB3 := hide (HBW.out.trans (hb2.mono HBW.out.size))
                clear hb2
                go_wp2
                go_roundw
                case rel => exact ⟨i + 1, dx, by omega, by go_num, rfl, by rw [HN.out], HB3.out⟩
                case measure => simp [intOf]; omega
            · have e : i = len := by omega
              subst e
              have HT := hide (show l.take i = l from List.take_of_length_le (by omega))
              go_wp2
              go_ret
              exact ⟨ret_bool (by rw [HE.out]; rw [HT.out] at HD; exact HD.out), by rw [HQ.out]; exact HB2.out⟩
      · have y0 : ((kk : Int) == 0) = false := by simp; omega
        have y1 : ((kk : Int) == 1) = false := by simp; omega
        have y2 : ((kk : Int) == 2) = false := by simp; omega
        have y3 : ((kk : Int) == 3) = false := by simp; omega
        have y4 : ((kk : Int) == 4) = false := by simp; omega
        have y5 : ((kk : Int) == 5) = false := by simp; omega
        have HO0 : ok = false := by
          rw [HOK2.out, show decide (kk = 0) = false from decide_eq_false (by omega), show decide (kk = 1) = false from decide_eq_false (by omega), show decide (kk = 2) = false from decide_eq_false (by omega), show decide (kk = 3) = false from decide_eq_false (by omega), show decide (kk = 4) = false from decide_eq_false (by omega), show decide (kk = 5) = false from decide_eq_false (by omega)]
          cases b1 <;> cases b3 <;> simp
        have HO := hide HO0
        clear HOK2 h HO0
        cases b1 <;> cases b3
        all_goals
          go_enter Try.func46, Try.ntmps46
          go_wp2_with fail
          obtain ⟨p0, p1, p2⟩ := HP.out
          clear HP y0 y1 y2 y3 y4 y5 hs0 hn1 hl2
          generalize w.alloc (.cells #[.int .u8 kk, .int .u16 ss, .slice a len cap] 51) = W at *
          obtain ⟨q, hq⟩ : ∃ q, w.heap.size = q := ⟨_, rfl⟩
          rw [hq] at p0 p1 p2 HB0 ⊢
          have HQ := hide hq
          clear hq
          go_loopw [4, 5] (fun s u wr => ∃ (i : Nat) (r : Bool), i ≤ len ∧ u = .int .i64 i ∧ s = .bool r ∧ r = (ok && (l.take i).all (fun x => shapesE n x)) ∧ Below W.heap.size W wr) (fun _ u _ => len - (intOf u).toNat)
          case atStart => exact ⟨0, _, Nat.zero_le _, rfl, rfl, by rw [HO.out]; rfl, Below.refl _ _⟩
          case round =>
            obtain ⟨i, r, hi, rfl, rfl, hd, hb⟩ := hrel
            have r2 := (hb.cell (p := ⟨q, 2, none⟩) (cell_lt p2)).trans p2
            have HD := hide hd
            clear hd
            have HB2 := hide (HB0.out.trans (hb.mono (HQ.out ▸ HB0.out.size)))
            have HBW := hide hb
            clear hb
            by_cases hlt : i < len
            · cases r
              · go_wp2
                go_ret
                exact ⟨ret_bool (by rw [HE.out, shapes_end HD.out.symm]), by rw [HQ.out]; exact HB2.out⟩
              · obtain ⟨x, b, off, c0, c1, c2, rfl, hx, k0, k1, k2, k3⟩ := HK.out wr (by rw [HQ.out]; exact HB2.out) i hlt
                have HN := hide (show (ok && (l.take (i + 1)).all (fun x => shapesE n x)) = shapesE n x from by rw [take_at hx, List.all_append, ← Bool.and_assoc, ← HD.out]; simp)
                have HK3 := hide k3
                have i3 : (0 : Int) ≤ (i : Int) := by omega
                have i4 : (i : Int) < (len : Int) := by omega
                clear hx k3
                generalize hdx0 : shapesE n x = dx at *
                have HDX := hide hdx0
                clear hdx0
                go_wp2_with fail
                refine (ih x _ wr HK3.out).mono ?_
                rintro e w2 ⟨rfl, hb2⟩
                rw [HDX.out]
                have HB3 := hide (HBW.out.trans (hb2.mono HBW.out.size))
                clear hb2
                go_wp2
                go_roundw
                case rel => exact ⟨i + 1, dx, by omega, by go_num, rfl, by rw [HN.out], HB3.out⟩
                case measure => simp [intOf]; omega
            · have e : i = len := by omega
              subst e
              have HT := hide (show l.take i = l from List.take_of_length_le (by omega))
              go_wp2
              go_ret
              exact ⟨ret_bool (by rw [HE.out]; rw [HT.out] at HD; exact HD.out), by rw [HQ.out]; exact HB2.out⟩
end Go.Proofs.Ytldeofdjhpfdaaa.A
