/- The program's Right of a machine. -/
import Derived.Test.YtldeofdjhpfdaaaPa
import Derived.Test.YtldeofdjhpfdaaaNg
namespace Go.Proofs.Ytldeofdjhpfdaaa.A
open Go.RowKit

theorem any_not_all (n : Nat) (l : List Int) : l.any (fun z => !isSt n z) = !(l.all fun z => decide (0 ≤ z) && decide (z < (n : Int))) := by
  induction l with
  | nil => rfl
  | cons a r ih => rw [List.any_cons, List.all_cons, ih, Bool.not_and]; rfl
theorem okS_free {N : Nat} {r : Int} {s : Nat} {t : Int} {l : List Int} (h : l.any (fun z => !isSt N z) = true) : okS N r s t l = false := by
  rw [any_not_all] at h
  unfold okS
  rw [show (l.all fun z => decide (0 ≤ z) && decide (z < (N : Int))) = false by simpa using h]
  simp
theorem okS_to {N : Nat} {r : Int} {s : Nat} {t : Int} {l : List Int} (h : isSt N t = false) (hs : s ≠ 0) : okS N r s t l = false := by
  unfold okS
  unfold isSt at h
  rw [h, show (s == 0) = false by simpa using hs]
  simp
theorem okS_low {N : Nat} {r : Int} {s : Nat} {t : Int} {l : List Int} (h : r < -1) : okS N r s t l = false := by
  unfold okS
  rw [show decide (-1 ≤ r) = false by simp; omega]
  rfl
theorem okS_high {N : Nat} {r : Int} {s : Nat} {t : Int} {l : List Int} (h : 16 ≤ r) : okS N r s t l = false := by
  unfold okS
  rw [show decide (r ≤ 15) = false by simp; omega]
  simp
theorem okS_yes {N : Nat} {r : Int} {s : Nat} {t : Int} {l : List Int} (h1 : l.any (fun z => !isSt N z) = false) (h2 : s = 0 ∨ isSt N t = true) (h3 : ¬ r < -1) (h4 : ¬ 16 ≤ r) : okS N r s t l = true := by
  rw [any_not_all] at h1
  unfold okS
  unfold isSt at h2
  rw [show (l.all fun z => decide (0 ≤ z) && decide (z < (N : Int))) = true by simpa using h1, show decide (-1 ≤ r) = true by simp; omega, show decide (r ≤ 15) = true by simp; omega]
  rcases h2 with rfl | h2
  · simp
  · rw [h2]; simp

set_option maxRecDepth 100000 in
set_option maxHeartbeats 6400000 in
theorem pright_any (a0 a1 a2 a3 : Option Addr) (n0 n1 n2 n3 c0 c1 c2 c3 : Nat) (fs : List (List Int)) (ss : List Nat) (ts rs : List Int) (w : World) (h0 : fs.length = n0) (h1 : ss.length = n1) (h2 : ts.length = n2) (h3 : rs.length = n3)
    (hll : ∀ (i : Nat) (l : List Int), fs[i]? = some l → l.length ≤ maxLen) (hF : Fs w a0 fs) (hS : Sts w a1 ss) (hT : Wd w a2 ts) (hR : Wd w a3 rs) :
    Calls Try.prog 15 #[.agg #[.slice a0 n0 c0, .slice a1 n1 c1, .slice a2 n2 c2, .slice a3 n3 c3]] w fun e w' => e = .returned (.bool (rightN fs ss ts rs)) ∧ Below w.heap.size w w' := by
  have hmf : ∀ (fn : Fn) (first cap : Array Value) (w : World), (Instr.makeFunc fn first cap).run Try.prog w = .ok (.func fn first cap) w := fun _ _ _ _ => rfl
  have HF := hide hF
  have HS := hide hS
  have HT := hide hT
  have HR := hide hR
  have H0 := hide h0
  have H1 := hide h1
  have H2 := hide h2
  have H3 := hide h3
  have HLL := hide hll
  clear hF hS hT hR h0 h1 h2 h3 hll
  have HBX := hide (bx_new w (.slice a0 n0 c0) (.slice a1 n1 c1) (.slice a2 n2 c2) (.slice a3 n3 c3))
  obtain ⟨p0, p1, p2, p3⟩ := HBX.out
  have hb0 := ((Below.refl w.heap.size w).alloc (Nat.le_refl _) (.cells #[.slice a0 n0 c0, .slice a1 n1 c1, .slice a2 n2 c2, .slice a3 n3 c3] 29))
  by_cases g0 : n0 < 1
  · have HE := hide (show rightN fs ss ts rs = false by unfold rightN; rw [H0.out]; have : decide (1 ≤ n0) = false := by simp; omega
                                                        rw [this]; rfl)
    go_enter Try.func15, Try.ntmps15
    go_wp2
    go_ret
    exact ⟨by rw [HE.out]; rfl, hb0⟩
  by_cases g1 : 3300 < n0
  · have HE := hide (show rightN fs ss ts rs = false by unfold rightN; rw [H0.out]; have : decide (n0 ≤ 3300) = false := by simp; omega
                                                        rw [this]; simp)
    go_enter Try.func15, Try.ntmps15
    go_wp2
    go_ret
    exact ⟨by rw [HE.out]; rfl, hb0⟩
  by_cases g2 : n1 = n0
  case neg =>
    have HE := hide (show rightN fs ss ts rs = false by unfold rightN; rw [H0.out, H1.out]; have : decide (n1 = n0) = false := by simp [g2]
                                                        rw [this]; simp)
    have y : ((n1 : Int) != (n0 : Int)) = true := by simp; omega
    go_enter Try.func15, Try.ntmps15
    go_wp2
    go_ret
    exact ⟨by rw [HE.out]; rfl, hb0⟩
  subst g2
  by_cases g3 : n2 = n1
  case neg =>
    have HE := hide (show rightN fs ss ts rs = false by unfold rightN; rw [H0.out, H2.out]; have : decide (n2 = n1) = false := by simp [g3]
                                                        rw [this]; simp)
    have y : ((n2 : Int) != (n1 : Int)) = true := by simp; omega
    go_enter Try.func15, Try.ntmps15
    go_wp2
    go_ret
    exact ⟨by rw [HE.out]; rfl, hb0⟩
  subst g3
  by_cases g4 : n3 = n2
  case neg =>
    have HE := hide (show rightN fs ss ts rs = false by unfold rightN; rw [H0.out, H3.out]; have : decide (n3 = n2) = false := by simp [g4]
                                                        rw [this]; simp)
    have y : ((n3 : Int) != (n2 : Int)) = true := by simp; omega
    go_enter Try.func15, Try.ntmps15
    go_wp2
    go_ret
    exact ⟨by rw [HE.out]; rfl, hb0⟩
  subst g4
  have HF0 := hide (fs_below hb0 HF.out)
  have HS0 := hide (sts_below hb0 HS.out)
  have HT0 := hide (wd_below hb0 HT.out)
  have HR0 := hide (wd_below hb0 HR.out)
  have HB := hide hb0
  have HZ := hide (show (w.alloc (.cells #[.slice a0 n3 c0, .slice a1 n3 c1, .slice a2 n3 c2, .slice a3 n3 c3] 29)).heap.size = w.heap.size + 1 by simp)
  clear hb0 HF HS HT HR
  go_enter Try.func15, Try.ntmps15
  go_wp2_with fail
  clear p0 p1 p2 p3
  generalize w.alloc (.cells #[.slice a0 n3 c0, .slice a1 n3 c1, .slice a2 n3 c2, .slice a3 n3 c3] 29) = W0 at *
  generalize hB : w.heap.size = B at *
  generalize decide ((n3 : Int) < 1) = dd1
  generalize decide (3300 < (n3 : Int)) = dd2
  go_loopw [5, 38] (fun _ i wr => ∃ k : Nat, k ≤ n3 ∧ i = .int .i64 k ∧ (∀ j, j < k → okSt fs ss ts rs n3 j = true) ∧ Below W0.heap.size W0 wr) (fun _ i _ => n3 - (intOf i).toNat)
  case atStart => exact ⟨0, Nat.zero_le _, rfl, fun j hj => by omega, Below.refl _ _⟩
  case round =>
    obtain ⟨k, hk, rfl, hall, hb⟩ := hrel
    have HA := hide hall
    have HBW := hide hb
    have HBB := hide (HB.out.trans (hb.mono (by rw [← hB]; exact HB.out.size)))
    have HPB := hide (show B < W0.heap.size by rw [HZ.out]; omega)
    clear hall
    by_cases hlt : k < n3
    · obtain ⟨r, hcr⟩ : ∃ r, rs[k]? = some r := ⟨_, List.getElem?_eq_getElem (by rw [H3.out]; exact hlt)⟩
      obtain ⟨s, hcs⟩ : ∃ s, ss[k]? = some s := ⟨_, List.getElem?_eq_getElem (by rw [H1.out]; exact hlt)⟩
      obtain ⟨t, hct⟩ : ∃ t, ts[k]? = some t := ⟨_, List.getElem?_eq_getElem (by rw [H2.out]; exact hlt)⟩
      obtain ⟨l, hcl⟩ : ∃ l, fs[k]? = some l := ⟨_, List.getElem?_eq_getElem (by rw [H0.out]; exact hlt)⟩
      obtain ⟨rb, ro, rfl, _⟩ := HR0.out k r hcr
      obtain ⟨sb, so, rfl, _, hs16⟩ := HS0.out k s hcs
      obtain ⟨tb, to, rfl, _⟩ := HT0.out k t hct
      obtain ⟨fb, fo, fa, fc, rfl, kf, hwd⟩ := (fs_below hb HF0.out) k l hcl
      have HK := hide (okSt_at (N := n3) hcr hcs hct hcl)
      have HLM := hide (HLL.out k l hcl)
      have HW := hide hwd
      have HCR := hide hcr
      have HCS := hide hcs
      have HCT := hide hct
      have i1 : (0 : Int) ≤ (k : Int) := by omega
      have i2 : (k : Int) < (n3 : Int) := by omega
      have HBAD := hide (show okS n3 r s t l = false → rightN fs ss ts rs = false from fun e => right_not (i := k) (by rw [H0.out]; exact hlt) (by rw [H0.out, HK.out, e]))
      have HNXT := hide (show okS n3 r s t l = true → ∀ j, j < k + 1 → okSt fs ss ts rs n3 j = true from fun e j hj => by
        by_cases ej : j = k
        · subst ej; rw [HK.out, e]
        · exact HA.out j (by omega))
      clear hcr hcs hct hcl hwd
      have HX := hide (bx_below hb HPB.out HBX.out)
      obtain ⟨q0, q1, q2, q3⟩ := HX.out
      clear hb
      go_wp2_with fail
      refine (containsI_any B _ n3 c0 _ _ _ fa l.length fc l wr HLM.out rfl (by have := HBW.out.size; have := HPB.out; omega) HX.out HW.out).mono ?_
      rintro e w2 ⟨rfl, hb2⟩
      have HW2 := hide (HBW.out.trans (hb2.mono HBW.out.size))
      have HB2 := hide (HB.out.trans (HW2.out.mono (by rw [← hB]; exact HB.out.size)))
      clear hb2 q0 q1 q2 q3 kf
      have HX2 := hide (bx_below HW2.out HPB.out HBX.out)
      obtain ⟨q0, q1, q2, q3⟩ := HX2.out
      obtain ⟨b', o', e', kr⟩ := (wd_below HW2.out HR0.out) k r HCR.out
      obtain ⟨rfl, rfl⟩ : b' = rb ∧ o' = ro := by simp only [Option.some.injEq, Addr.mk.injEq] at e'; exact ⟨e'.1.symm, e'.2.1.symm⟩
      obtain ⟨b2', o2', e2', kss, _⟩ := (sts_below HW2.out HS0.out) k s HCS.out
      obtain ⟨rfl, rfl⟩ : b2' = sb ∧ o2' = so := by simp only [Option.some.injEq, Addr.mk.injEq] at e2'; exact ⟨e2'.1.symm, e2'.2.1.symm⟩
      obtain ⟨b3', o3', e3', kt⟩ := (wd_below HW2.out HT0.out) k t HCT.out
      obtain ⟨rfl, rfl⟩ : b3' = tb ∧ o3' = to := by simp only [Option.some.injEq, Addr.mk.injEq] at e3'; exact ⟨e3'.1.symm, e3'.2.1.symm⟩
      clear e' e2' e3'
      cases hfr : l.any (fun z => !isSt n3 z)
      case true =>
        have HE := hide (HBAD.out (okS_free hfr))
        clear hfr
        go_wp2
        go_ret
        exact ⟨by rw [HE.out]; rfl, hB ▸ HB2.out⟩
      have HFR := hide hfr
      clear hfr
      by_cases s0 : s = 0
      · subst s0
        by_cases r0 : r < -1
        · have HE := hide (HBAD.out (okS_low r0))
          have y1 : decide (r < -1) = true := by simp [r0]
          go_wp2
          go_ret
          exact ⟨by rw [HE.out]; rfl, hB ▸ HB2.out⟩
        have y1 : decide (r < -1) = false := by simp; omega
        by_cases r1 : 16 ≤ r
        · have HE := hide (HBAD.out (okS_high r1))
          have y2 : decide (16 ≤ r) = true := by simp [r1]
          go_wp2
          go_ret
          exact ⟨by rw [HE.out]; rfl, hB ▸ HB2.out⟩
        have y2 : decide (16 ≤ r) = false := by simp; omega
        have HN := hide (HNXT.out (okS_yes HFR.out (.inl rfl) r0 r1))
        go_wp2
        go_roundw
        case rel => exact ⟨k + 1, by omega, by go_num, HN.out, HW2.out⟩
        case measure => simp [intOf]; omega
      · have ys : ((s : Int) != 0) = true := by simp; omega
        go_wp2_with fail
        refine (none_any B _ n3 c0 _ _ _ t w2 HX2.out).mono ?_
        rintro e w3 ⟨rfl, hb3⟩
        have HW3 := hide (HW2.out.trans (hb3.mono HW2.out.size))
        have HB3 := hide (HB.out.trans (HW3.out.mono (by rw [← hB]; exact HB.out.size)))
        have q3' := (HW3.out.cell (p := ⟨B, 3, none⟩) HPB.out).trans HBX.out.2.2.2
        obtain ⟨b4', o4', e4', kr'⟩ := (wd_below HW3.out HR0.out) k r HCR.out
        obtain ⟨rfl, rfl⟩ : b4' = b' ∧ o4' = o' := by simp only [Option.some.injEq, Addr.mk.injEq] at e4'; exact ⟨e4'.1.symm, e4'.2.1.symm⟩
        clear hb3 q0 q1 q2 q3 kr kss kt e4'
        cases hto : isSt n3 t
        case false =>
          have HE := hide (HBAD.out (okS_to hto s0))
          clear hto
          go_wp2
          go_ret
          exact ⟨by rw [HE.out]; rfl, hB ▸ HB3.out⟩
        have HTO := hide hto
        clear hto
        by_cases r0 : r < -1
        · have HE := hide (HBAD.out (okS_low r0))
          have y1 : decide (r < -1) = true := by simp [r0]
          go_wp2
          go_ret
          exact ⟨by rw [HE.out]; rfl, hB ▸ HB3.out⟩
        have y1 : decide (r < -1) = false := by simp; omega
        by_cases r1 : 16 ≤ r
        · have HE := hide (HBAD.out (okS_high r1))
          have y2 : decide (16 ≤ r) = true := by simp [r1]
          go_wp2
          go_ret
          exact ⟨by rw [HE.out]; rfl, hB ▸ HB3.out⟩
        have y2 : decide (16 ≤ r) = false := by simp; omega
        have HN := hide (HNXT.out (okS_yes HFR.out (.inr HTO.out) r0 r1))
        go_wp2
        go_roundw
        case rel => exact ⟨k + 1, by omega, by go_num, HN.out, HW3.out⟩
        case measure => simp [intOf]; omega
    · have e : k = n3 := by omega
      subst e
      have HE := hide (show rightN fs ss ts rs = true from right_yes (by rw [H0.out]; omega) (by rw [H0.out]; omega) (by rw [H0.out, H1.out]) (by rw [H0.out, H2.out]) (by rw [H0.out, H3.out]) (by rw [H0.out]; exact HA.out))
      clear hb
      go_wp2
      go_ret
      exact ⟨by rw [HE.out]; rfl, hB ▸ HBB.out⟩

end Go.Proofs.Ytldeofdjhpfdaaa.A
