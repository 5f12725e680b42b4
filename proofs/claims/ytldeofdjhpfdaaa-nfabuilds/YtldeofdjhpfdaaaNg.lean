/- Ahead of layer 6: the document's Right of a machine. -/
import Derived.Test.YtldeofdjhpfdaaaNe
namespace Go.Proofs.Ytldeofdjhpfdaaa.A
open Go.RowKit

/-- A state that may be, among N. -/
def okS (N : Nat) (r : Int) (s : Nat) (t : Int) (l : List Int) : Bool := decide (-1 ≤ r) && (decide (r ≤ 15) && ((s == 0 || (decide (0 ≤ t) && decide (t < (N : Int)))) && l.all fun z => decide (0 ≤ z) && decide (z < (N : Int))))
def okSt (fs : List (List Int)) (ss : List Nat) (ts rs : List Int) (N i : Nat) : Bool := match rs[i]?, ss[i]?, ts[i]?, fs[i]? with
  | some r, some s, some t, some l => okS N r s t l
  | _, _, _, _ => false
/-- May a machine be? -/
def rightN (fs : List (List Int)) (ss : List Nat) (ts rs : List Int) : Bool := decide (1 ≤ fs.length) && (decide (fs.length ≤ 3300) && (decide (ss.length = fs.length) && (decide (ts.length = fs.length) && (decide (rs.length = fs.length) && (List.range fs.length).all (okSt fs ss ts rs fs.length)))))
theorem okSt_at {fs : List (List Int)} {ss : List Nat} {ts rs : List Int} {N i : Nat} {r : Int} {s : Nat} {t : Int} {l : List Int} (hr : rs[i]? = some r) (hs : ss[i]? = some s) (ht : ts[i]? = some t) (hl : fs[i]? = some l) : okSt fs ss ts rs N i = okS N r s t l := by
  unfold okSt; rw [hr, hs, ht, hl]
theorem right_not {fs : List (List Int)} {ss : List Nat} {ts rs : List Int} {i : Nat} (hi : i < fs.length) (h : okSt fs ss ts rs fs.length i = false) : rightN fs ss ts rs = false := by
  have : (List.range fs.length).all (okSt fs ss ts rs fs.length) = false := by
    rw [List.all_eq_false]; exact ⟨i, by simp [hi], by simp [h]⟩
  unfold rightN; rw [this]; simp
theorem right_yes {fs : List (List Int)} {ss : List Nat} {ts rs : List Int} (h1 : 1 ≤ fs.length) (h2 : fs.length ≤ 3300) (h3 : ss.length = fs.length) (h4 : ts.length = fs.length) (h5 : rs.length = fs.length) (h : ∀ i, i < fs.length → okSt fs ss ts rs fs.length i = true) : rightN fs ss ts rs = true := by
  unfold rightN
  have : (List.range fs.length).all (okSt fs ss ts rs fs.length) = true := by
    rw [List.all_eq_true]; intro i hi; exact h i (by simpa using hi)
  rw [this]; simp [h1, h2, h3, h4, h5]

set_option maxRecDepth 100000 in
set_option maxHeartbeats 6400000 in
theorem nright_any (a0 a1 a2 a3 : Option Addr) (n0 n1 n2 n3 c0 c1 c2 c3 : Nat) (fs : List (List Int)) (ss : List Nat) (ts rs : List Int) (w : World) (h0 : fs.length = n0) (h1 : ss.length = n1) (h2 : ts.length = n2) (h3 : rs.length = n3)
    (hll : ∀ (i : Nat) (l : List Int), fs[i]? = some l → l.length ≤ maxLen) (hF : Fs w a0 fs) (hS : Sts w a1 ss) (hT : Wd w a2 ts) (hR : Wd w a3 rs) :
    Calls Try.prog 14 #[.agg #[.slice a0 n0 c0, .slice a1 n1 c1, .slice a2 n2 c2, .slice a3 n3 c3]] w fun e w' => e = .returned (.bool (rightN fs ss ts rs)) ∧ Below w.heap.size w w' := by
  have HF := hide hF
  have HS := hide hS
  have HT := hide hT
  have HR := hide hR
  have H0 := hide h0
  have H1 := hide h1
  have H2 := hide h2
  have H3 := hide h3
  have HLL := hide hll
  clear hF hS hT hR h0 h1 h2 h3 hll
  obtain ⟨p0, p1, p2, p3⟩ := box4 w (.slice a0 n0 c0) (.slice a1 n1 c1) (.slice a2 n2 c2) (.slice a3 n3 c3) 29
  have hb0 := ((Below.refl w.heap.size w).alloc (Nat.le_refl _) (.cells #[.slice a0 n0 c0, .slice a1 n1 c1, .slice a2 n2 c2, .slice a3 n3 c3] 29))
  by_cases g0 : n0 < 1
  · have HE := hide (show rightN fs ss ts rs = false by unfold rightN; rw [H0.out]; have : decide (1 ≤ n0) = false := by simp; omega
                                                        rw [this]; rfl)
    go_enter Try.func14, Try.ntmps14
    go_wp2
    go_ret
    exact ⟨by rw [HE.out]; rfl, hb0⟩
  by_cases g1 : 3300 < n0
  · have HE := hide (show rightN fs ss ts rs = false by unfold rightN; rw [H0.out]; have : decide (n0 ≤ 3300) = false := by simp; omega
                                                        rw [this]; simp)
    go_enter Try.func14, Try.ntmps14
    go_wp2
    go_ret
    exact ⟨by rw [HE.out]; rfl, hb0⟩
  by_cases g2 : n1 = n0
  case neg =>
    have HE := hide (show rightN fs ss ts rs = false by unfold rightN; rw [H0.out, H1.out]; have : decide (n1 = n0) = false := by simp [g2]
                                                        rw [this]; simp)
    have y : ((n1 : Int) != (n0 : Int)) = true := by simp; omega
    go_enter Try.func14, Try.ntmps14
    go_wp2
    go_ret
    exact ⟨by rw [HE.out]; rfl, hb0⟩
  subst g2
  by_cases g3 : n2 = n1
  case neg =>
    have HE := hide (show rightN fs ss ts rs = false by unfold rightN; rw [H0.out, H2.out]; have : decide (n2 = n1) = false := by simp [g3]
                                                        rw [this]; simp)
    have y : ((n2 : Int) != (n1 : Int)) = true := by simp; omega
    go_enter Try.func14, Try.ntmps14
    go_wp2
    go_ret
    exact ⟨by rw [HE.out]; rfl, hb0⟩
  subst g3
  by_cases g4 : n3 = n2
  case neg =>
    have HE := hide (show rightN fs ss ts rs = false by unfold rightN; rw [H0.out, H3.out]; have : decide (n3 = n2) = false := by simp [g4]
                                                        rw [this]; simp)
    have y : ((n3 : Int) != (n2 : Int)) = true := by simp; omega
    go_enter Try.func14, Try.ntmps14
    go_wp2
    go_ret
    exact ⟨by rw [HE.out]; rfl, hb0⟩
  subst g4
  have HF0 := hide (fs_below hb0 HF.out)
  have HS0 := hide (sts_below hb0 HS.out)
  have HT0 := hide (wd_below hb0 HT.out)
  have HR0 := hide (wd_below hb0 HR.out)
  have HB := hide hb0
  clear hb0 HF HS HT HR
  go_enter Try.func14, Try.ntmps14
  go_wp2_with fail
  generalize w.alloc (.cells #[.slice a0 n3 c0, .slice a1 n3 c1, .slice a2 n3 c2, .slice a3 n3 c3] 29) = W0 at *
  generalize hB : w.heap.size = B at *
  generalize decide ((n3 : Int) < 1) = dd1
  generalize decide (3300 < (n3 : Int)) = dd2
  go_loopw [4] (fun i wr => ∃ k : Nat, k ≤ n3 ∧ i = .int .i64 k ∧ (∀ j, j < k → okSt fs ss ts rs n3 j = true) ∧ wr = W0) (fun i _ => n3 - (intOf i).toNat)
  case atStart => exact ⟨0, Nat.zero_le _, rfl, fun j hj => by omega, rfl⟩
  case round =>
    obtain ⟨k, hk, rfl, hall, rfl⟩ := hrel
    have HA := hide hall
    clear hall
    by_cases hlt : k < n3
    · obtain ⟨r, hcr⟩ : ∃ r, rs[k]? = some r := ⟨_, List.getElem?_eq_getElem (by rw [H3.out]; exact hlt)⟩
      obtain ⟨s, hcs⟩ : ∃ s, ss[k]? = some s := ⟨_, List.getElem?_eq_getElem (by rw [H1.out]; exact hlt)⟩
      obtain ⟨t, hct⟩ : ∃ t, ts[k]? = some t := ⟨_, List.getElem?_eq_getElem (by rw [H2.out]; exact hlt)⟩
      obtain ⟨l, hcl⟩ : ∃ l, fs[k]? = some l := ⟨_, List.getElem?_eq_getElem (by rw [H0.out]; exact hlt)⟩
      obtain ⟨rb, ro, rfl, kr⟩ := HR0.out k r hcr
      obtain ⟨sb, so, rfl, ks, hs16⟩ := HS0.out k s hcs
      obtain ⟨tb, to, rfl, kt⟩ := HT0.out k t hct
      obtain ⟨fb, fo, fa, fc, rfl, kf, hwd⟩ := HF0.out k l hcl
      have HK := hide (okSt_at (N := n3) hcr hcs hct hcl)
      have hlm := HLL.out k l hcl
      unfold maxLen at hlm
      have HW := hide hwd
      have i1 : (0 : Int) ≤ (k : Int) := by omega
      have i2 : (k : Int) < (n3 : Int) := by omega
      have HBAD := hide (show okS n3 r s t l = false → rightN fs ss ts rs = false from fun e => right_not (i := k) (by rw [H0.out]; exact hlt) (by rw [H0.out, HK.out, e]))
      clear hcr hcs hct hcl hwd
      by_cases r0 : r < -1
      · have HE := hide (HBAD.out (by unfold okS; have : decide (-1 ≤ r) = false := by simp; omega
                                      rw [this]; rfl))
        go_wp2
        go_ret
        exact ⟨by rw [HE.out]; rfl, hB ▸ HB.out⟩
      by_cases r1 : 15 < r
      · have HE := hide (HBAD.out (by unfold okS; have : decide (r ≤ 15) = false := by simp; omega
                                      rw [this]; simp))
        go_wp2
        go_ret
        exact ⟨by rw [HE.out]; rfl, hB ▸ HB.out⟩
      have HGOOD : Hid ((s = 0 ∨ (0 ≤ t ∧ t < n3)) → okS n3 r s t l = l.all fun z => decide (0 ≤ z) && decide (z < (n3 : Int))) := hide (fun e => by
        unfold okS
        have y1 : decide (-1 ≤ r) = true := by simp; omega
        have y2 : decide (r ≤ 15) = true := by simp; omega
        rw [y1, y2]
        rcases e with rfl | ⟨e1, e2⟩
        · simp
        · simp [e1, e2])
      by_cases s0 : 0 < s
      case neg =>
        have e : s = 0 := by omega
        subst e
        have HG := hide (HGOOD.out (.inl rfl))
        clear HGOOD
        go_wp2_with fail
        go_loopw [5] (fun i wr' => ∃ p : Nat, p ≤ l.length ∧ i = .int .i64 p ∧ (l.take p).all (fun z => decide (0 ≤ z) && decide (z < (n3 : Int))) = true ∧ wr' = wr) (fun i _ => l.length - (intOf i).toNat)
        case atStart => exact ⟨0, Nat.zero_le _, rfl, by simp, rfl⟩
        case round =>
          obtain ⟨p, hp, rfl, hal, rfl⟩ := hrel
          have HAL := hide hal
          clear hal
          by_cases hlt2 : p < l.length
          · obtain ⟨z, hz⟩ : ∃ z, l[p]? = some z := ⟨_, List.getElem?_eq_getElem hlt2⟩
            obtain ⟨zb, zo, rfl, kz⟩ := HW.out p z hz
            have i3 : (p : Int) < (l.length : Int) := by omega
            have i4 : (0 : Int) ≤ (p : Int) := by omega
            have HZ := hide hz
            clear hz
            by_cases z0 : z < 0
            · have HE := hide (HBAD.out (by
                rw [HG.out, List.all_eq_false]
                exact ⟨z, List.mem_of_getElem? HZ.out, by simp; omega⟩))
              go_wp2
              go_ret
              exact ⟨by rw [HE.out]; rfl, hB ▸ HB.out⟩
            by_cases z1 : (n3 : Int) ≤ z
            · have HE := hide (HBAD.out (by
                rw [HG.out, List.all_eq_false]
                exact ⟨z, List.mem_of_getElem? HZ.out, by simp; omega⟩))
              go_wp2
              go_ret
              exact ⟨by rw [HE.out]; rfl, hB ▸ HB.out⟩
            have HN := hide (show (l.take (p + 1)).all (fun z => decide (0 ≤ z) && decide (z < (n3 : Int))) = true by
              rw [take_at HZ.out, List.all_append, HAL.out]; simp; omega)
            go_wp2
            go_roundw
            case rel => exact ⟨p + 1, by omega, by go_num, HN.out, trivial⟩
            case measure => simp [intOf]; omega
          · have e : p = l.length := by omega
            have HN := hide (show ∀ j, j < k + 1 → okSt fs ss ts rs n3 j = true from fun j hj => by
              by_cases ej : j = k
              · subst ej; rw [HK.out, HG.out]; have := HAL.out; rw [e, List.take_length] at this; exact this
              · exact HA.out j (by omega))
            subst e
            go_wp2
            go_roundw
            case rel => exact ⟨k + 1, by omega, by go_num, HN.out, trivial⟩
            case measure => simp [intOf]; omega
      by_cases t0 : t < 0
      · have HE := hide (HBAD.out (by unfold okS; have y1 : decide (0 ≤ t) = false := by simp; omega
                                      have y2 : (s == 0) = false := by simp; omega
                                      rw [y1, y2]; simp))
        go_wp2
        go_ret
        exact ⟨by rw [HE.out]; rfl, hB ▸ HB.out⟩
      by_cases t1 : (n3 : Int) ≤ t
      · have HE := hide (HBAD.out (by unfold okS; have y1 : decide (t < (n3 : Int)) = false := by simp; omega
                                      have y2 : (s == 0) = false := by simp; omega
                                      rw [y1, y2]; simp))
        go_wp2
        go_ret
        exact ⟨by rw [HE.out]; rfl, hB ▸ HB.out⟩
      have HG := hide (HGOOD.out (.inr ⟨by omega, by omega⟩))
      clear HGOOD
      go_wp2_with fail
      go_loopw [5] (fun i wr' => ∃ p : Nat, p ≤ l.length ∧ i = .int .i64 p ∧ (l.take p).all (fun z => decide (0 ≤ z) && decide (z < (n3 : Int))) = true ∧ wr' = wr) (fun i _ => l.length - (intOf i).toNat)
      case atStart => exact ⟨0, Nat.zero_le _, rfl, by simp, rfl⟩
      case round =>
        obtain ⟨p, hp, rfl, hal, rfl⟩ := hrel
        have HAL := hide hal
        clear hal
        by_cases hlt2 : p < l.length
        · obtain ⟨z, hz⟩ : ∃ z, l[p]? = some z := ⟨_, List.getElem?_eq_getElem hlt2⟩
          obtain ⟨zb, zo, rfl, kz⟩ := HW.out p z hz
          have i3 : (p : Int) < (l.length : Int) := by omega
          have i4 : (0 : Int) ≤ (p : Int) := by omega
          have HZ := hide hz
          clear hz
          by_cases z0 : z < 0
          · have HE := hide (HBAD.out (by
              rw [HG.out, List.all_eq_false]
              exact ⟨z, List.mem_of_getElem? HZ.out, by simp; omega⟩))
            go_wp2
            go_ret
            exact ⟨by rw [HE.out]; rfl, hB ▸ HB.out⟩
          by_cases z1 : (n3 : Int) ≤ z
          · have HE := hide (HBAD.out (by
              rw [HG.out, List.all_eq_false]
              exact ⟨z, List.mem_of_getElem? HZ.out, by simp; omega⟩))
            go_wp2
            go_ret
            exact ⟨by rw [HE.out]; rfl, hB ▸ HB.out⟩
          have HN := hide (show (l.take (p + 1)).all (fun z => decide (0 ≤ z) && decide (z < (n3 : Int))) = true by
            rw [take_at HZ.out, List.all_append, HAL.out]; simp; omega)
          go_wp2
          go_roundw
          case rel => exact ⟨p + 1, by omega, by go_num, HN.out, trivial⟩
          case measure => simp [intOf]; omega
        · have e : p = l.length := by omega
          have HN := hide (show ∀ j, j < k + 1 → okSt fs ss ts rs n3 j = true from fun j hj => by
            by_cases ej : j = k
            · subst ej; rw [HK.out, HG.out]; have := HAL.out; rw [e, List.take_length] at this; exact this
            · exact HA.out j (by omega))
          subst e
          go_wp2
          go_roundw
          case rel => exact ⟨k + 1, by omega, by go_num, HN.out, trivial⟩
          case measure => simp [intOf]; omega
    · have e : k = n3 := by omega
      subst e
      have HE := hide (show rightN fs ss ts rs = true from right_yes (by rw [H0.out]; omega) (by rw [H0.out]; omega) (by rw [H0.out, H1.out]) (by rw [H0.out, H2.out]) (by rw [H0.out, H3.out]) (by rw [H0.out]; exact HA.out))
      go_wp2
      go_ret
      exact ⟨by rw [HE.out]; rfl, hB ▸ HB.out⟩

end Go.Proofs.Ytldeofdjhpfdaaa.A
