/- The program's Turned; the document's First. -/
import Derived.Test.YtacfkdjpdgnohaaY
namespace Go.Proofs.Ytacfkdjpdgnohaa.A
open Go.RowKit

set_option maxHeartbeats 1600000 in
theorem turned_no (n : Nat) (t : Ex n) (v : Value) (w : World) (h : Rx w n t v) (hr : rightE n t = false) :
    Calls Try.prog 16 #[v] w fun e w' => e = .returned (.agg #[.int .u8 0, .int .u16 0, .slice none 0 0]) ∧ Below w.heap.size w w' := by
  obtain ⟨c0, c1, c2, rfl⟩ := rx_form h
  obtain ⟨kx, sx, ax, lx, cx, rfl, rfl, rfl⟩ := rx_cells h
  have HX := hide h
  have HR := hide hr
  have HB0 := hide (((Below.refl w.heap.size w).alloc (Nat.le_refl _) (.cells #[.int .u8 kx, .int .u16 sx, .slice ax lx cx] 25)).alloc (by simp) (.cells #[.int .u8 0, .int .u16 0, .slice none 0 0] 25))
  have HS0 := hide (heap_alloc_last (w.alloc (.cells #[.int .u8 kx, .int .u16 sx, .slice ax lx cx] 25)) (.cells #[.int .u8 0, .int .u16 0, .slice none 0 0] 25))
  have HZ := hide (show (w.alloc (.cells #[.int .u8 kx, .int .u16 sx, .slice ax lx cx] 25)).heap.size = w.heap.size + 1 by simp)
  clear h hr
  go_enter Try.func16, Try.ntmps16
  go_wp2_with fail
  refine (right_any n t _ _ (rx_below HB0.out n t _ HX.out)).mono ?_
  rintro e w1 ⟨rfl, hb1⟩
  rw [HR.out]
  have hst : St3 w1 (w.heap.size + 1) 0 0 (.slice none 0 0) := (hb1.block (w.heap.size + 1) (by simp)).trans (by rw [← HZ.out]; exact HS0.out)
  obtain ⟨m0, m1, m2, m3⟩ := st3_cells hst
  have m4 := m3 0
  have m5 := m3 1
  have m6 := m3 2
  have HB1 := hide (HB0.out.trans (hb1.mono HB0.out.size))
  clear hb1 hst m3
  go_wp2
  refine bodyPost_ret (v := .agg #[.int .u8 0, .int .u16 0, .slice none 0 0]) (by simp [results, Try.results16, go_sem, m0, m1, m2]) rfl ⟨rfl, ?_⟩
  exact ((HB1.out.setCell (by simp) _).setCell (by simp) _).setCell (by simp) _
set_option maxHeartbeats 1600000 in
theorem turned_yes (n : Nat) (t : Ex n) (v : Value) (w : World) (h : Rx w n t v) (hr : rightE n t = true) :
    Calls Try.prog 16 #[v] w fun e w' => Makes w n (turnE n t) e w' := by
  have hri := (right_iff (rx_full n t _ h)).1 hr
  obtain ⟨c0, c1, c2, rfl⟩ := rx_form h
  obtain ⟨kx, sx, ax, lx, cx, rfl, rfl, rfl⟩ := rx_cells h
  have HX := hide h
  have HR := hide hr
  have HRI := hide hri
  obtain ⟨p0, p1, p2⟩ := box3 w (.int .u8 kx) (.int .u16 sx) (.slice ax lx cx) 25
  have HP := hide (And.intro (cell_alloc p0 (.cells #[.int .u8 0, .int .u16 0, .slice none 0 0] 25)) (And.intro (cell_alloc p1 (.cells #[.int .u8 0, .int .u16 0, .slice none 0 0] 25)) (cell_alloc p2 (.cells #[.int .u8 0, .int .u16 0, .slice none 0 0] 25))))
  have HB0 := hide (((Below.refl w.heap.size w).alloc (Nat.le_refl _) (.cells #[.int .u8 kx, .int .u16 sx, .slice ax lx cx] 25)).alloc (by simp) (.cells #[.int .u8 0, .int .u16 0, .slice none 0 0] 25))
  have HS0 := hide (heap_alloc_last (w.alloc (.cells #[.int .u8 kx, .int .u16 sx, .slice ax lx cx] 25)) (.cells #[.int .u8 0, .int .u16 0, .slice none 0 0] 25))
  have HZ := hide (show (w.alloc (.cells #[.int .u8 kx, .int .u16 sx, .slice ax lx cx] 25)).heap.size = w.heap.size + 1 by simp)
  clear h hr hri p0 p1 p2
  go_enter Try.func16, Try.ntmps16
  go_wp2_with fail
  refine (right_any n t _ _ (rx_below HB0.out n t _ HX.out)).mono ?_
  rintro e w1 ⟨rfl, hb1⟩
  rw [HR.out]
  have hst : St3 w1 (w.heap.size + 1) 0 0 (.slice none 0 0) := (hb1.block (w.heap.size + 1) (by simp)).trans (by rw [← HZ.out]; exact HS0.out)
  have r0 := (hb1.cell (p := ⟨w.heap.size, 0, none⟩) (cell_lt HP.out.1)).trans HP.out.1
  have r1 := (hb1.cell (p := ⟨w.heap.size, 1, none⟩) (cell_lt HP.out.2.1)).trans HP.out.2.1
  have r2 := (hb1.cell (p := ⟨w.heap.size, 2, none⟩) (cell_lt HP.out.2.2)).trans HP.out.2.2
  have HST := hide hst
  have HB1 := hide (HB0.out.trans (hb1.mono HB0.out.size))
  have HZ1 := hide (st3_lt hst)
  clear hb1 hst HP HB0 HS0
  go_wp2_with fail
  refine (turn_any n t _ _ (rx_below HB1.out n t _ HX.out) (right_shapes HR.out) (by have := HRI.out.1; omega)).mono ?_
  rintro e w2 ⟨y, S, rfl, hT, hSn, hSl, hb2⟩
  obtain ⟨m0, m1, m2, m3⟩ := st3_cells (st3_below HST.out hb2 HZ1.out)
  have m4 := m3 0
  have m5 := m3 1
  have m6 := m3 2
  have HB2 := hide (HB1.out.trans (hb2.mono HB1.out.size))
  have HT := hide hT
  have HSN := hide hSn
  have HSL := hide (fun b (hb : b ∈ S) => show w.heap.size + 1 < b by have := hSl b hb; have := HZ1.out; omega)
  clear hb2 hT hSn hSl m3 r0 r1 r2
  go_wp2
  refine bodyPost_ret (v := .agg #[.int .u8 y.k, .int .u16 y.s, .slice y.a y.l y.c]) (by simp [results, Try.results16, go_sem, m0, m1, m2]) rfl ?_
  refine ⟨y, S, rfl, ?_, HSN.out, fun b hb => by have := HSL.out b hb; omega, ((HB2.out.setCell (by simp) _).setCell (by simp) _).setCell (by simp) _⟩
  exact tr_keep _ _ _ _ (fun b hb => by
    have := HSL.out b hb
    rw [Below.heap_setCell _ _ _ _ (by simp; omega), Below.heap_setCell _ _ _ _ (by simp; omega), Below.heap_setCell _ _ _ _ (by simp; omega)]) HT.out

/-- Has, of no word. -/
theorem hasNil_any (n : Nat) (t : Ex n) (v : Value) (w : World) (h : Rx w n t v) (hsh : shapesE n t = true) :
    Calls Try.prog 19 #[v, .slice none 0 0] w fun e w' => e = .returned (.bool (emptyE n t)) ∧ Below w.heap.size w w' := by
  have := has_any [] n t v none 0 0 w rfl (by omega) h hsh (fun i c hc => by simp at hc)
  rw [has_empty] at this
  exact this
set_option maxRecDepth 100000 in
set_option maxHeartbeats 6400000 in
/-- The document's First. -/
theorem rfirst_any : ∀ (n : Nat) (t : Ex n) (v : Value) (w : World), Rx w n t v → shapesE n t = true →
    Calls Try.prog 20 #[v] w fun e w' => e = .returned (.int .u16 (firstE n t : Nat)) ∧ Below w.heap.size w w' := by
  intro n
  induction n with
  | zero => intro t v w h; exact h.elim
  | succ n ih =>
    intro t v w h hsh
    have hsets := rx_sets _ _ _ h
    obtain ⟨a, len, cap, rfl, hk, hs, hl, h6, hkids⟩ := rx_open h
    unfold maxLen at hl
    have hall : ∀ x ∈ ks t, shapesE n x = true := by
      have e : (okE (kd t) (st t) (ks t).length && (ks t).all (fun x => shapesE n x)) = true := hsh
      rw [Bool.and_eq_true, List.all_eq_true] at e
      exact e.2
    have hE : firstE (n + 1) t = if kd t = 1 then st t else if kd t = 2 then firstL (fun x => firstE n x) (fun x => emptyE n x) (ks t) else (ks t).foldl (fun a x => a ||| firstE n x) 0 := rfl
    have hst : st t < 65536 ∧ ∀ x ∈ ks t, setsE n x := hsets
    generalize kd t = kk at *
    generalize st t = ss at *
    generalize ks t = l at *
    have HLT := hide (show ∀ i, (l.take i).foldl (fun a x => a ||| firstE n x) 0 < 65536 from fun i => fold_or_lt _ _ _ (by decide) (fun x hx => first_lt n x (hst.2 x (List.mem_of_mem_take hx))))
    have HLL := hide (show firstL (fun x => firstE n x) (fun x => emptyE n x) l < 65536 from firstL_lt _ _ _ (fun x hx => first_lt n x (hst.2 x hx)))
    have HFL := hide (show ∀ x ∈ l, firstE n x < 65536 from fun x hx => first_lt n x (hst.2 x hx))
    have HB0 := hide ((Below.refl w.heap.size w).alloc (Nat.le_refl _) (.cells #[.int .u8 kk, .int .u16 ss, .slice a len cap] 25))
    have HP := hide (box3 w (.int .u8 kk) (.int .u16 ss) (.slice a len cap) 25)
    have HK := hide hkids
    have HS := hide hall
    have HL := hide h6
    clear h hkids hsh hall h6 hsets hst
    by_cases hk1 : kk = 1
    · have y1 : ((kk : Int) == 1) = true := by simp; omega
      have HR := hide (show firstE (n + 1) t = ss from by rw [hE, if_pos hk1])
      clear hE hk1
      go_enter Try.func20, Try.ntmps20
      go_wp2
      go_ret
      exact ⟨by rw [HR.out]; rfl, HB0.out⟩
    · have y1 : ((kk : Int) == 1) = false := by simp; omega
      by_cases hk2 : kk = 2
      · have y2 : ((kk : Int) == 2) = true := by simp; omega
        have HR := hide (show firstE (n + 1) t = firstL (fun x => firstE n x) (fun x => emptyE n x) l from by rw [hE, if_neg hk1, if_pos hk2])
        clear hE hk1 hk2
        go_enter Try.func20, Try.ntmps20
        go_wp2_with fail
        obtain ⟨p0, p1, p2⟩ := HP.out
        clear HP y1
        generalize w.alloc (.cells #[.int .u8 kk, .int .u16 ss, .slice a len cap] 25) = W at *
        obtain ⟨q, hq⟩ : ∃ q, w.heap.size = q := ⟨_, rfl⟩
        rw [hq] at p0 p1 p2 HB0 ⊢
        have HQ := hide hq
        clear hq
        go_loopw [3, 4, 5, 6] (fun s u _ _ wr => ∃ (i d : Nat), i ≤ len ∧ u = .int .i64 i ∧ s = .int .u16 d ∧ (if (l.take i).all (fun x => emptyE n x) = true then d = (l.take i).foldl (fun a x => a ||| firstE n x) 0 else d = firstL (fun x => firstE n x) (fun x => emptyE n x) l) ∧ Below W.heap.size W wr) (fun _ u _ _ _ => len - (intOf u).toNat)
        case atStart => exact ⟨0, 0, Nat.zero_le _, rfl, rfl, by simp, Below.refl _ _⟩
        case round =>
          obtain ⟨i, d, hi, rfl, rfl, hd, hb⟩ := hrel
          have r2 := (hb.cell (p := ⟨q, 2, none⟩) (cell_lt p2)).trans p2
          have hdl : d < 65536 := by
            split at hd
            · rw [hd]; exact HLT.out i
            · rw [hd]; exact HLL.out
          have HD := hide hd
          have HBW := hide hb
          clear hd
          by_cases hlt : i < len
          · obtain ⟨x, b, off, c0, c1, c2, rfl, hx, k0, k1, k2, k3⟩ := HK.out wr (by rw [HQ.out]; exact HB0.out.trans (hb.mono (HQ.out ▸ HB0.out.size))) i hlt
            have HMEM := hide (List.mem_of_getElem? hx)
            have HX := hide hx
            clear hx k3 hb k0 k1 k2
            go_wp2_with fail
            go_loopw [5, 6] (fun s u wi => ∃ (m : Nat) (r : Bool), m ≤ i ∧ u = .int .i64 m ∧ s = .bool r ∧ r = (l.take m).all (fun x => emptyE n x) ∧ Below W.heap.size W wi) (fun _ u _ => i - (intOf u).toNat)
            case atStart => exact ⟨0, true, Nat.zero_le _, rfl, rfl, rfl, HBW.out⟩
            case round =>
              obtain ⟨m, r, hm, rfl, rfl, hr, hbi⟩ := hrel
              have v0 := (hbi.cell (p := ⟨q, 0, none⟩) (cell_lt p0)).trans p0
              have v2 := (hbi.cell (p := ⟨q, 2, none⟩) (cell_lt p2)).trans p2
              have HRR := hide hr
              have HBI := hide hbi
              clear hr
              by_cases hmi : m < i
              · cases r with
                | false =>
                  clear hbi
                  have HN := hide (show (l.take (m + 1)).all (fun x => emptyE n x) = false from by
                    obtain ⟨xm, hxm⟩ : ∃ xm, l[m]? = some xm := ⟨l[m]'(by have := HL.out; omega), by simp⟩
                    rw [take_at hxm, List.all_append, ← HRR.out]; rfl)
                  go_wp2
                  go_roundw
                  case rel => exact ⟨m + 1, false, by omega, by go_num, rfl, HN.out.symm, HBI.out⟩
                  case measure => simp [intOf]; omega
                | true =>
                  obtain ⟨xm, bm, offm, c0, c1, c2, em, hxm, k0, k1, k2, k3⟩ := HK.out wr (by rw [HQ.out]; exact HB0.out.trans (hbi.mono (HQ.out ▸ HB0.out.size))) m (by omega)
                  cases em
                  have HN := hide (show (l.take (m + 1)).all (fun x => emptyE n x) = emptyE n xm from by rw [take_at hxm, List.all_append, ← HRR.out]; simp)
                  have HSM := hide (HS.out xm (List.mem_of_getElem? hxm))
                  have HK3 := hide k3
                  have i3 : (0 : Int) ≤ (m : Int) := by omega
                  have i4 : (m : Int) < (len : Int) := by omega
                  clear hxm k3 hbi
                  go_wp2_with fail
                  refine (hasNil_any n xm _ wr HK3.out HSM.out).mono ?_
                  rintro e w2 ⟨rfl, hb2⟩
                  have HB2 := hide (HBI.out.trans (hb2.mono HBI.out.size))
                  clear hb2
                  go_wp2
                  go_roundw
                  case rel => exact ⟨m + 1, emptyE n xm, by omega, by go_num, rfl, HN.out.symm, HB2.out⟩
                  case measure => simp [intOf]; omega
              · have e : m = i := by omega
                subst e
                clear hbi
                cases r with
                | false =>
                  have HD2 := hide (show d = firstL (fun x => firstE n x) (fun x => emptyE n x) l from by have := HD.out; rw [← HRR.out] at this; simpa using this)
                  have HN := hide (show (l.take (m + 1)).all (fun x => emptyE n x) = false from by rw [take_at HX.out, List.all_append, ← HRR.out]; rfl)
                  go_wp2
                  go_roundw
                  case rel => exact ⟨m + 1, d, by omega, by go_num, rfl, by rw [HN.out]; exact HD2.out, HBI.out⟩
                  case measure => simp [intOf]; omega
                | true =>
                  have HD2 := hide (show d = (l.take m).foldl (fun a x => a ||| firstE n x) 0 from by have := HD.out; rw [← HRR.out] at this; simpa using this)
                  have HEM := hide (show ∀ y ∈ l.take m, emptyE n y = true from List.all_eq_true.1 HRR.out.symm)
                  obtain ⟨xm, bm, offm, c0, c1, c2, em, hxm, k0, k1, k2, k3⟩ := HK.out wr (by rw [HQ.out]; exact HB0.out.trans (HBI.out.mono (HQ.out ▸ HB0.out.size))) m hlt
                  cases em
                  obtain rfl : x = xm := Option.some.inj (HX.out.symm.trans hxm)
                  have HK3 := hide k3
                  have hfx := HFL.out x HMEM.out
                  have hbits := bits_or d (firstE n x) hdl hfx
                  have HN := hide (show (l.take (m + 1)).foldl (fun a x => a ||| firstE n x) 0 = d ||| firstE n x from by rw [take_at HX.out, List.foldl_append, ← HD2.out]; rfl)
                  have HNE := hide (show (l.take (m + 1)).all (fun x => emptyE n x) = emptyE n x from by rw [take_at HX.out, List.all_append, ← HRR.out]; simp)
                  have HST := hide (fun (g : emptyE n x = false) => firstL_stop (fun x => firstE n x) (fun x => emptyE n x) HX.out HEM.out g)
                  obtain ⟨d', hd'⟩ : ∃ d', d ||| firstE n x = d' := ⟨_, rfl⟩
                  rw [hd'] at HN hbits
                  have i3 : (0 : Int) ≤ (m : Int) := by omega
                  have i4 : (m : Int) < (len : Int) := by omega
                  clear hd' hxm k3
                  go_wp2_with fail
                  refine (ih x _ wr HK3.out (HS.out x HMEM.out)).mono ?_
                  rintro e w2 ⟨rfl, hb2⟩
                  have HB2 := hide (HBI.out.trans (hb2.mono HBI.out.size))
                  clear hb2
                  go_wp2
                  go_roundw
                  case rel =>
                    refine ⟨m + 1, d', by omega, by go_num, rfl, ?_, HB2.out⟩
                    rw [HNE.out]
                    cases hg : emptyE n x with
                    | true => rw [if_pos rfl]; exact HN.out.symm
                    | false => rw [if_neg (by simp), HST.out hg]; exact HN.out.symm
                  case measure => simp [intOf]; omega
          · have e : i = len := by omega
            subst e
            have HT := hide (show l.take i = l from List.take_of_length_le (by have := HL.out; omega))
            clear hb
            have HF := hide (show d = firstL (fun x => firstE n x) (fun x => emptyE n x) l from by
              have := HD.out
              rw [HT.out] at this
              split at this
              · rename_i g; rw [this, firstL_end _ _ (List.all_eq_true.1 g)]
              · exact this)
            go_wp2
            go_ret
            exact ⟨by rw [HR.out, ← HF.out]; rfl, by rw [HQ.out]; exact HB0.out.trans (HBW.out.mono (HQ.out ▸ HB0.out.size))⟩
      · have y2 : ((kk : Int) == 2) = false := by simp; omega
        have HR := hide (show firstE (n + 1) t = l.foldl (fun a x => a ||| firstE n x) 0 from by rw [hE, if_neg hk1, if_neg hk2])
        clear hE hk1 hk2
        go_enter Try.func20, Try.ntmps20
        go_wp2_with fail
        obtain ⟨p0, p1, p2⟩ := HP.out
        clear HP y1
        generalize w.alloc (.cells #[.int .u8 kk, .int .u16 ss, .slice a len cap] 25) = W at *
        obtain ⟨q, hq⟩ : ∃ q, w.heap.size = q := ⟨_, rfl⟩
        rw [hq] at p0 p1 p2 HB0 ⊢
        have HQ := hide hq
        clear hq
        go_loopw [3, 4, 5, 6] (fun s u _ _ wr => ∃ (i d : Nat), i ≤ len ∧ u = .int .i64 i ∧ s = .int .u16 d ∧ d = (l.take i).foldl (fun a x => a ||| firstE n x) 0 ∧ Below W.heap.size W wr) (fun _ u _ _ _ => len - (intOf u).toNat)
        case atStart => exact ⟨0, 0, Nat.zero_le _, rfl, rfl, rfl, Below.refl _ _⟩
        case round =>
          obtain ⟨i, d, hi, rfl, rfl, hd, hb⟩ := hrel
          have r2 := (hb.cell (p := ⟨q, 2, none⟩) (cell_lt p2)).trans p2
          have r0 := (hb.cell (p := ⟨q, 0, none⟩) (cell_lt p0)).trans p0
          have hdl : d < 65536 := by rw [hd]; exact HLT.out i
          have HD := hide hd
          have HBW := hide hb
          clear hd
          by_cases hlt : i < len
          · obtain ⟨x, b, off, c0, c1, c2, rfl, hx, k0, k1, k2, k3⟩ := HK.out wr (by rw [HQ.out]; exact HB0.out.trans (hb.mono (HQ.out ▸ HB0.out.size))) i hlt
            have HMEM := hide (List.mem_of_getElem? hx)
            have HK3 := hide k3
            have hfx := HFL.out x HMEM.out
            have hbits := bits_or d (firstE n x) hdl hfx
            have HN := hide (show (l.take (i + 1)).foldl (fun a x => a ||| firstE n x) 0 = d ||| firstE n x from by rw [take_at hx, List.foldl_append, ← HD.out]; rfl)
            obtain ⟨d', hd'⟩ : ∃ d', d ||| firstE n x = d' := ⟨_, rfl⟩
            rw [hd'] at HN hbits
            have i3 : (0 : Int) ≤ (i : Int) := by omega
            have i4 : (i : Int) < (len : Int) := by omega
            clear hd' hx k3 hb
            go_wp2_with fail
            refine wp_loop_rounds 1 ?_
            rw [rounds_succ]
            go_wp2_with fail
            all_goals
              refine (ih x _ wr HK3.out (HS.out x HMEM.out)).mono ?_
              rintro e w2 ⟨rfl, hb2⟩
              have HB2 := hide (HBW.out.trans (hb2.mono HBW.out.size))
              clear hb2
              go_wp2
              go_roundw
              case rel => exact ⟨i + 1, d', by omega, by go_num, rfl, HN.out.symm, HB2.out⟩
              case measure => simp [intOf]; omega
          · have e : i = len := by omega
            subst e
            have HT := hide (show l.take i = l from List.take_of_length_le (by have := HL.out; omega))
            clear hb
            go_wp2
            go_ret
            refine ⟨?_, by rw [HQ.out]; exact HB0.out.trans (HBW.out.mono (HQ.out ▸ HB0.out.size))⟩
            have := HD.out
            rw [HT.out] at this
            rw [HR.out, ← this]; rfl
end Go.Proofs.Ytacfkdjpdgnohaa.A
