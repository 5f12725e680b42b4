/- The document's Name, May, Right. -/
import Derived.Test.YtgjjmcgmdlfdaaaDoorVa
namespace Go.Proofs.YtgjjmcgmdlfdaaaDoor.A
open Go.RowKit
set_option linter.unusedVariables false

theorem smL_all {L : ByteArray} : ∀ (f k : Nat), k ≤ L.size → L.size < k + f → (∀ j, k ≤ j → j < L.size → sm8 (by8 L j) = true) → smL L f k = L.size
  | 0, k, h, hf, _ => by omega
  | f + 1, k, h, hf, ha => by
    show (if (decide (k < L.size) && sm8 (by8 L k)) = true then smL L f (k + 1) else k) = L.size
    by_cases hk : k < L.size
    · rw [if_pos (by rw [ha k (Nat.le_refl _) hk]; simp [hk])]
      exact smL_all f (k + 1) hk (by omega) (fun j h1 h2 => ha j (by omega) h2)
    · rw [if_neg (by simp [hk])]
      omega
theorem smL_stop {L : ByteArray} : ∀ (f k j : Nat), k ≤ j → sm8 (by8 L j) = false → smL L f k ≤ j
  | 0, k, j, h, _ => h
  | f + 1, k, j, h, hs => by
    show (if (decide (k < L.size) && sm8 (by8 L k)) = true then smL L f (k + 1) else k) ≤ j
    by_cases hc : (decide (k < L.size) && sm8 (by8 L k)) = true
    · rw [if_pos hc]
      have : k ≠ j := fun e => by subst e; rw [hs] at hc; simp at hc
      exact smL_stop f (k + 1) j (by omega) hs
    · rw [if_neg hc]; exact h
theorem name_yes {L : ByteArray} (h1 : 1 ≤ L.size) (h2 : L.size ≤ 16) (h : ∀ j, j < L.size → sm8 (by8 L j) = true) : nameB L = true := by
  unfold nameB smF
  rw [smL_all _ 0 (Nat.zero_le _) (by omega) (fun j _ hj => h j hj)]
  simp [h1, h2]
theorem name_no {L : ByteArray} {j : Nat} (hj : j < L.size) (h : sm8 (by8 L j) = false) : nameB L = false := by
  have := smL_stop (L := L) (L.size + 1) 0 j (Nat.zero_le _) h
  unfold nameB smF
  have hne : decide (smL L (L.size + 1) 0 = L.size) = false := by simp; omega
  rw [hne]
  simp
set_option maxHeartbeats 1600000 in
theorem rname_any (L : ByteArray) (w : World) (hL : L.size ≤ maxLen) : Calls Tryd.prog 32 #[.string L] w fun e w' => e = .returned (.bool (nameB L)) ∧ w' = w := by
  unfold maxLen at hL
  by_cases h1 : 1 ≤ L.size
  · have h1' : ¬ (L.size : Int) < 1 := by omega
    by_cases h16 : L.size ≤ 16
    · have h16' : ¬ (16 : Int) < (L.size : Int) := by omega
      go_enter Tryd.func32, Tryd.ntmps32
      go_wp2_with fail
      go_loopw [3] (fun u wr => ∃ k : Nat, u = .int .i64 k ∧ k ≤ L.size ∧ (∀ j, j < k → sm8 (by8 L j) = true) ∧ w = wr) (fun u _ => L.size - (intOf u).toNat)
      case atStart => exact ⟨0, rfl, Nat.zero_le _, fun j hj => by omega, rfl⟩
      case round =>
        obtain ⟨k, rfl, hk, hs, rfl⟩ := hrel
        have HS := hide hs
        have hk0 : (0 : Int) ≤ (k : Int) := by omega
        clear hs
        by_cases hlt : k < L.size
        · have hlt' : (k : Int) < (L.size : Int) := by omega
          have e8 : by8 L k = (L[k]'hlt).toNat := by unfold by8; rw [dif_pos hlt]
          by_cases h97 : (L[k]'hlt).toNat < 97
          · have z1 : ((L[k]'hlt).toNat : Int) < 97 := by omega
            have HN := hide (name_no hlt (show sm8 (by8 L k) = false by rw [e8]; simp [sm8]; omega))
            clear e8 h97
            go_wp2
            go_ret
            exact ⟨by rw [HN.out]; rfl, rfl⟩
          · have z1 : ¬ ((L[k]'hlt).toNat : Int) < 97 := by omega
            by_cases h122 : 122 < (L[k]'hlt).toNat
            · have z2 : (122 : Int) < ((L[k]'hlt).toNat : Int) := by omega
              have HN := hide (name_no hlt (show sm8 (by8 L k) = false by rw [e8]; simp [sm8]; omega))
              clear e8 h97 h122
              go_wp2
              go_ret
              exact ⟨by rw [HN.out]; rfl, rfl⟩
            · have z2 : ¬ (122 : Int) < ((L[k]'hlt).toNat : Int) := by omega
              have HN := hide (show ∀ j, j < k + 1 → sm8 (by8 L j) = true from fun j hj => by
                by_cases e : j = k
                · subst e; rw [e8]; simp [sm8]; omega
                · exact HS.out j (by omega))
              clear e8 h97 h122
              go_wp2
              go_roundw
              case rel => exact ⟨k + 1, by go_num, by omega, HN.out, trivial⟩
              case measure => simp [intOf]; omega
        · have e : k = L.size := by omega
          subst e
          have HN := hide (name_yes h1 h16 HS.out)
          go_wp2
          go_ret
          exact ⟨by rw [HN.out]; rfl, rfl⟩
    · have h16' : (16 : Int) < (L.size : Int) := by omega
      have HN := hide (show nameB L = false by unfold nameB; simp [h16])
      go_enter Tryd.func32, Tryd.ntmps32
      go_wp2
      go_ret
      exact ⟨by rw [HN.out]; rfl, rfl⟩
  · have h1' : (L.size : Int) < 1 := by omega
    have HN := hide (show nameB L = false by unfold nameB; simp [h1])
    go_enter Tryd.func32, Tryd.ntmps32
    go_wp2
    go_ret
    exact ⟨by rw [HN.out]; rfl, rfl⟩

set_option maxHeartbeats 3200000 in
theorem rmay_any (a : Option Addr) (len cap : Nat) (l : List Rl) (x : Rl) (v : Value) (w : World) (hl : len ≤ maxLen) (hn : x.n ≤ 1000) (h : Rs w a len l) (hx : Ru w x v) :
    Calls Tryd.prog 20 #[.slice a len cap, v] w fun e w' => e = .returned (.bool (mayB l x)) ∧ Below w.heap.size w w' := by
  obtain ⟨k, s, a', l', c, rfl, h2, h3⟩ := hx
  unfold maxLen at hl
  have hB := ((Below.refl w.heap.size w).alloc (Nat.le_refl _) (.cells #[.string x.nm, .int .u8 k, .int .u16 s, .slice a' l' c, .bool x.br] 42))
  have HB := hide hB
  have HRS := hide (rs_below hB h)
  have HX := hide (rx_below hB _ _ _ h3)
  have HST := hide (st5_new w x.nm k s a' l' c x.br)
  have HM := hide (show mayB l x = (nameB x.nm && !l.any (fun y => sameN y.nm x.nm) && rightE x.n x.t && !emptyE x.n x.t) from rfl)
  clear hB h h3
  go_enter Tryd.func20, Tryd.ntmps20
  go_wp2_with fail
  generalize w.alloc (.cells #[.string x.nm, .int .u8 k, .int .u16 s, .slice a' l' c, .bool x.br] 42) = W at *
  obtain ⟨p, hp⟩ : ∃ p, w.heap.size = p := ⟨_, rfl⟩
  rw [hp] at HST HB ⊢
  have HPS := hide hp
  have hpW := st5_lt HST.out
  clear hp
  go_loopw [5] (fun u wr => ∃ i : Nat, i ≤ len ∧ u = .int .i64 i ∧ (l.take i).any (fun y => sameN y.nm x.nm) = false ∧ Below W.heap.size W wr) (fun u _ => len - (intOf u).toNat)
  case atStart => exact ⟨0, Nat.zero_le _, rfl, rfl, Below.refl _ _⟩
  case round =>
    obtain ⟨i, hi, rfl, hd, hb⟩ := hrel
    have HD := hide hd
    have HBW := hide hb
    have HST1 := hide (st5_below HST.out hb hpW)
    have HBF := hide (HB.out.trans (hb.mono (by omega)))
    clear hd
    by_cases hlt : i < len
    · obtain ⟨y, b, off, k1, s1, a1', l1', c1, rfl, hy, p0, p1, p2, p3, p4, p5, p6⟩ := rs_open (rs_below hb HRS.out) hlt
      have HN := hide (show (l.take (i + 1)).any (fun y => sameN y.nm x.nm) = sameN y.nm x.nm from by rw [take_at hy, List.any_append, HD.out]; simp)
      have HIN := hide (show sameN y.nm x.nm = true → mayB l x = false from fun g => by
        rw [HM.out, List.any_eq_true.2 ⟨y, List.mem_of_getElem? hy, g⟩]
        simp)
      obtain ⟨q0, -, -, -, -, -⟩ := st5_cells HST1.out
      have i3 : (0 : Int) ≤ (i : Int) := by omega
      have i4 : (i : Int) < (len : Int) := by omega
      have HSN := hide (show sameN y.nm x.nm = (y.nm.toList == x.nm.toList) from rfl)
      clear hy p1 p2 p3 p4 p5 p6 hb
      cases hs : (y.nm.toList == x.nm.toList) with
      | true =>
        have HF := hide (HIN.out (HSN.out.trans hs))
        go_wp2
        go_quiet (fail)
        go_wp2
        go_ret
        exact ⟨by rw [HF.out]; rfl, by rw [HPS.out]; exact below_drewN HBF.out _⟩
      | false =>
        have HF := hide (HSN.out.trans hs)
        go_wp2
        go_quiet (fail)
        go_wp2
        go_roundw
        case rel => exact ⟨i + 1, by omega, by go_num, by rw [HN.out, HF.out], below_drewN HBW.out _⟩
        case measure => simp [intOf]; omega
    · have e : i = len := by omega
      subst e
      have hany : l.any (fun y => sameN y.nm x.nm) = false := by
        have := HD.out
        rw [List.take_of_length_le (by rw [HRS.out.1]; exact Nat.le_refl _)] at this
        exact this
      rw [hany] at HM
      have HX1 := hide (rx_below hb _ _ _ HX.out)
      obtain ⟨q0, q1, q2, q3, q4, -⟩ := st5_cells HST1.out
      have hpr : p ≤ wr.heap.size := by have := hb.size; omega
      clear hb hany HD
      go_wp2_with fail
      refine (rname_any x.nm wr h2).mono ?_
      rintro e w0 ⟨rfl, hw⟩
      subst hw
      cases hn1 : nameB x.nm with
      | false =>
        have HF := hide (show mayB l x = false by rw [HM.out, hn1]; rfl)
        clear hn1 HM
        go_wp2
        go_ret
        exact ⟨by rw [HF.out]; rfl, by rw [HPS.out]; exact HBF.out⟩
      | true =>
        rw [hn1] at HM
        clear hn1
        go_wp2_with fail
        refine (rright_any x.n x.t _ w0 hn HX1.out).mono ?_
        rintro e w2 ⟨rfl, hb2⟩
        have HB2 := hide (HBF.out.trans (hb2.mono hpr))
        cases hr : rightE x.n x.t with
        | false =>
          rw [hr] at HM
          have HF := hide (show mayB l x = false by rw [HM.out]; rfl)
          clear hr HM hb2
          go_wp2
          go_ret
          exact ⟨by rw [HF.out]; rfl, by rw [HPS.out]; exact HB2.out⟩
        | true =>
          rw [hr] at HM
          have HX2 := hide (rx_below hb2 _ _ _ HX1.out)
          have HRI := hide hr
          obtain ⟨r0, r1, r2, r3, r4, -⟩ := st5_cells (st5_below HST1.out hb2 (st5_lt HST1.out))
          have hpr2 : p ≤ w2.heap.size := Nat.le_trans hpr hb2.size
          clear hr hb2 q0 q1 q2 q3 q4 HX1
          go_wp2_with fail
          refine (has_any [] x.n x.t _ none 0 0 w2 rfl (by omega) HX2.out (right_shapes HRI.out) (fun i c hc => by simp at hc)).mono ?_
          rintro e w3 ⟨rfl, hb3⟩
          rw [has_empty]
          have HB3 := hide (HB2.out.trans (hb3.mono hpr2))
          clear hb3
          cases he : emptyE x.n x.t with
          | false =>
            rw [he] at HM
            have HF := hide (show mayB l x = true by rw [HM.out]; rfl)
            clear he HM
            go_wp2
            go_ret
            exact ⟨by rw [HF.out]; rfl, by rw [HPS.out]; exact HB3.out⟩
          | true =>
            rw [he] at HM
            have HF := hide (show mayB l x = false by rw [HM.out]; rfl)
            clear he HM
            go_wp2
            go_ret
            exact ⟨by rw [HF.out]; rfl, by rw [HPS.out]; exact HB3.out⟩

set_option maxHeartbeats 3200000 in
theorem rrightG_any (a : Option Addr) (len cap : Nat) (l : List Rl) (w : World) (hlc : len ≤ cap) (hcm : cap ≤ maxLen) (hn : ∀ x ∈ l, x.n ≤ 1000) (h : Rs w a len l) :
    Calls Tryd.prog 10 #[.slice a len cap] w fun e w' => e = .returned (.bool (rightG l)) ∧ Below w.heap.size w w' := by
  have hlm := Nat.le_trans hlc hcm
  have HLM := hide hlm
  unfold maxLen at hcm hlm
  have HRS := hide h
  have HNN := hide hn
  have HL := hide h.1
  have HG := hide (show rightG l = (decide (1 ≤ len) && decide (len ≤ 16) && goodL [] l) by unfold rightG; rw [h.1])
  clear h hn
  by_cases h1 : 1 ≤ len
  · have h1' : ¬ (len : Int) < 1 := by omega
    by_cases h16 : len ≤ 16
    · have h16' : ¬ (16 : Int) < (len : Int) := by omega
      have HG2 := hide (show rightG l = goodL [] l by rw [HG.out]; simp [h1, h16])
      clear HG
      go_enter Tryd.func10, Tryd.ntmps10
      go_wp2_with fail
      go_loopw [3] (fun u wr => ∃ i : Nat, i ≤ len ∧ u = .int .i64 i ∧ goodL (l.take i) (l.drop i) = goodL [] l ∧ Below w.heap.size w wr) (fun u _ => len - (intOf u).toNat)
      case atStart => exact ⟨0, Nat.zero_le _, rfl, by simp, Below.refl _ _⟩
      case round =>
        obtain ⟨i, hi, rfl, hd, hb⟩ := hrel
        have HD := hide hd
        have HBW := hide hb
        clear hd
        by_cases hlt : i < len
        · have hrs := rs_below hb HRS.out
          obtain ⟨x, b, off, k, s, a', l', c, rfl, hx, p0, p1, p2, p3, p4, p5, p6⟩ := rs_open hrs hlt
          have HRT := hide (rs_take hrs i (by omega))
          have HRU := hide (show Ru wr x (.agg #[.string x.nm, .int .u8 k, .int .u16 s, .slice a' l' c, .bool x.br]) from ⟨k, s, a', l', c, rfl, p5, p6⟩)
          have HXN := hide (HNN.out x (List.mem_of_getElem? hx))
          have HD2 := hide (show (mayB (l.take i) x && goodL (l.take (i + 1)) (l.drop (i + 1))) = goodL [] l from by rw [← HD.out, drop_at hx, take_at hx]; rfl)
          have i3 : (0 : Int) ≤ (i : Int) := by omega
          have i4 : (i : Int) < (len : Int) := by omega
          have i5 : (i : Int) ≤ (cap : Int) := by omega
          clear hx p6 hb hrs HD
          go_wp2_with fail
          go_region_held3 (fun w' => w'.cell? ⟨b, off + i * 5, none⟩ = some (.string x.nm) ∧ w'.cell? ⟨b, off + i * 5 + 1, none⟩ = some (.int .u8 k) ∧ w'.cell? ⟨b, off + i * 5 + 2, none⟩ = some (.int .u16 s) ∧ w'.cell? ⟨b, off + i * 5 + 3, none⟩ = some (.slice a' l' c) ∧ w'.cell? ⟨b, off + i * 5 + 4, none⟩ = some (.bool x.br)) (first | assumption | go_keep) ((go_at_call 20; refine (rmay_any _ i cap (l.take i) x _ _ (by have := HLM.out; omega) HXN.out (rs_below (below_drew1 wr) HRT.out) (ru_below (below_drew1 wr) HRU.out)).mono ?_; rintro e w2 ⟨rfl, hb2⟩; have k9 := And.intro ((hb2.cell (p := ⟨b, off + i * 5, none⟩) (cell_lt p0)).trans p0) (And.intro ((hb2.cell (p := ⟨b, off + i * 5 + 1, none⟩) (cell_lt p1)).trans p1) (And.intro ((hb2.cell (p := ⟨b, off + i * 5 + 2, none⟩) (cell_lt p2)).trans p2) (And.intro ((hb2.cell (p := ⟨b, off + i * 5 + 3, none⟩) (cell_lt p3)).trans p3) ((hb2.cell (p := ⟨b, off + i * 5 + 4, none⟩) (cell_lt p4)).trans p4))))))
          have HB3 := hide (HBW.out.trans (((below_drew1 wr).mono HBW.out.size).trans (hb2.mono HBW.out.size)))
          clear hb2 k9 p0 p1 p2 p3 p4
          cases hm : mayB (l.take i) x with
          | false =>
            rw [hm] at HD2
            have HF := hide (show rightG l = false by rw [HG2.out, ← HD2.out]; rfl)
            clear hm HD2
            go_wp2
            go_ret
            exact ⟨by rw [HF.out]; rfl, HB3.out⟩
          | true =>
            rw [hm] at HD2
            have HF := hide (show goodL (l.take (i + 1)) (l.drop (i + 1)) = goodL [] l from HD2.out)
            clear hm HD2
            go_wp2
            go_roundw
            case rel => exact ⟨i + 1, by omega, by go_num, HF.out, HB3.out⟩
            case measure => simp [intOf]; omega
        · have e : i = len := by omega
          subst e
          have HF := hide (show rightG l = true by rw [HG2.out, ← HD.out, List.drop_of_length_le (by have := HL.out; omega)]; rfl)
          clear hb HD
          go_wp2
          go_ret
          exact ⟨by rw [HF.out]; rfl, HBW.out⟩
    · have h16' : (16 : Int) < (len : Int) := by omega
      have HF := hide (show rightG l = false by rw [HG.out]; simp [h16])
      clear HG
      go_enter Tryd.func10, Tryd.ntmps10
      go_wp2
      go_ret
      exact ⟨by rw [HF.out]; rfl, Below.refl _ _⟩
  · have h1' : (len : Int) < 1 := by omega
    have HF := hide (show rightG l = false by rw [HG.out]; simp [h1])
    clear HG
    go_enter Tryd.func10, Tryd.ntmps10
    go_wp2
    go_ret
    exact ⟨by rw [HF.out]; rfl, Below.refl _ _⟩
end Go.Proofs.YtgjjmcgmdlfdaaaDoor.A
