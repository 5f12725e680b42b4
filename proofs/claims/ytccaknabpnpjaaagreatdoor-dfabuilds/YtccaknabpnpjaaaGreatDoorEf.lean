/- The document's Build, walked. -/
import Derived.Test.YtccaknabpnpjaaaGreatDoorEd
import Derived.Test.YtccaknabpnpjaaaGreatDoorEb
import Derived.Test.YtccaknabpnpjaaaGreatDoorTk
import Derived.Deep.Cut
import Derived.Deep.CutRange
import Derived.Deep.RegionHeld3
import Derived.Deep.RegionLaw
import Derived.Deep.AppendLies
namespace Go.Proofs.YtccaknabpnpjaaaGreatDoor.A
open Go.RowKit
set_option linter.unusedVariables false
attribute [local go_sem ↓] wp_build25s wp_load63s
attribute [local go_sem] isBlk_agg cells_agg rowM_drew rowMok_drew

set_option maxRecDepth 100000 in
set_option maxHeartbeats 6400000 in
theorem rbuild_yes (n : Nat) (hn : n ≤ 900) (a : Option Addr) (len cap : Nat) (l : List (Ex n)) (w : World) (hl : len ≤ maxLen) (h6 : l.length = len) (hkids : Kids w n a len l) (hyes : mayB l = true)
    (fs : List (List Int)) (ss : List Nat) (ts rs : List Int) (N : Nat) (tr : List Int → Nat → List Int) (g0 : Nat → Bool) (hi : Is (FrA l) (SpA l) N fs ss ts) (hr : RsI l len rs) (hrl : rs.length = N) (hN : N = posE 1 l len) (htr : TrS fs ss ts N tr) (hg0 : IsCl fs N (tblB [0] 1) g0) :
    Calls Tryz.prog 8 #[.slice a len cap] w (OutD w (stF tr (lstR rs) (lstL g0 N) 201)) := by
  obtain ⟨hl1, hl2, hful, hsh⟩ := may_open hyes hkids h6
  obtain ⟨i63, hi63, hz63, hs63, hb63⟩ := info_parts (show (Tryz.prog.info? 63).map (fun i => (i.zero, i.size, i.bytes)) = some (some (.agg (Array.replicate 16 (.int .i64 0))), 16, 128) by kernel_rfl)
  obtain ⟨i68, hi68, hz68, hs68, hb68⟩ := info_parts (show (Tryz.prog.info? 68).map (fun i => (i.zero, i.size, i.bytes)) = some (some (.slice none 0 0), 1, 24) by kernel_rfl)
  obtain ⟨i3, hi3, hz3, hs3, hb3⟩ := info_parts info3
  have hN3 : N ≤ 3300 := by rw [hN]; exact pos_most hyes hkids h6
  have hb0 := (Below.refl w.heap.size w).alloc (Nat.le_refl _) (.cells #[.slice none 0 0, .slice none 0 0] 28)
  have HB0 := hide hb0
  have HN2 := hide (nil2 w)
  have HC := hide (dbuild_yes n hn (fun w0 qF qS qT B N x3 hN h1 h2 h3 t => lay_any w0 qF qS qT B N x3 hN h1 h2 h3 n hn t) a len cap l _ hl h6 (kids_below hb0 hkids) hyes)
  have HM := hide (build_mach hful h6 hl2 hi hr hrl hN hN3)
  have HLS := hide (fun (g : Nat → Bool) => least_same (g := g) hrl HM.out.rule)
  have HI := hide hi
  have HR := hide hr
  have HRL := hide hrl
  have HNP := hide hN
  have HTR := hide htr
  have HG0 := hide hg0
  have HFUL := hide hful
  have HSH := hide hsh
  clear hkids h6 hyes hb0 hi hr hrl hN htr hg0 hful hsh
  go_enter Tryz.func8, Tryz.ntmps8
  go_wp2_with fail
  generalize w.alloc (.cells #[.slice none 0 0, .slice none 0 0] 28) = W at *
  generalize hP : w.heap.size = P at *
  refine HC.out.mono ?_
  rintro e w1 ⟨a0, a1, a2, a3, N', c0, c1, c2, c3, fs', ss', ts', rs', rfl, hnm, hi', hr', hrl', hN', hb1⟩
  obtain rfl : N' = N := hN'.trans HNP.out.symm
  obtain ⟨rfl, rfl, rfl⟩ := is_one HFUL.out HSH.out hi' HI.out
  obtain rfl := rs_one HFUL.out (hrl'.trans HRL.out.symm) hr' HR.out
  have HPW := hide (show P < w1.heap.size from by
    have h1 := (Array.getElem?_eq_some_iff.1 HN2.out).1
    have h2 := hb1.size
    omega)
  have hb4 := (Below.refl w1.heap.size w1).alloc (Nat.le_refl _) (.cells #[.slice a0 N' c0, .slice a1 N' c1, .slice a2 N' c2, .slice a3 N' c3] 55)
  have HB4 := hide hb4
  have HP4 := hide ((hb4.block P HPW.out).trans ((hb1.block P (by have h1 := (Array.getElem?_eq_some_iff.1 HN2.out).1; omega)).trans HN2.out))
  have HN4 := hide (heap_alloc_last w1 (.cells #[.slice a0 N' c0, .slice a1 N' c1, .slice a2 N' c2, .slice a3 N' c3] 55))
  have HNB := hide (show NmB (w1.heap.size + 1) (w1.alloc (.cells #[.slice a0 N' c0, .slice a1 N' c1, .slice a2 N' c2, .slice a3 N' c3] 55)) a0 a1 a2 a3 fs' ss' ts' rs' from fun w' hb' => nm_below (hb4.trans (hb'.mono (Nat.le_succ _))) hnm)
  have HB1 := hide (show Below P w w1 from HB0.out.trans (hb1.mono (by have := HB0.out.size; omega)))
  have HS4 := hide (show (w1.alloc (.cells #[.slice a0 N' c0, .slice a1 N' c1, .slice a2 N' c2, .slice a3 N' c3] 55)).heap.size = w1.heap.size + 1 by simp)
  obtain ⟨p0, p1, p2, p3⟩ := blk4 HN4.out
  clear hi' hr' hrl' hN' hnm hb1 hb4 HC HI HR HRL HNP HFUL HSH HN2
  go_upto_region 5 with fail
  generalize w1.alloc (.cells #[.slice a0 N' c0, .slice a1 N' c1, .slice a2 N' c2, .slice a3 N' c3] 55) = W4 at *
  generalize hp : w1.heap.size = p at *
  have HQ := hide (show ∀ w', Below (p + 1) W4 w' → w'.cell? ⟨p, 0, none⟩ = some (.slice a0 N' c0) ∧ w'.cell? ⟨p, 1, none⟩ = some (.slice a1 N' c1) ∧ w'.cell? ⟨p, 2, none⟩ = some (.slice a2 N' c2) ∧ w'.cell? ⟨p, 3, none⟩ = some (.slice a3 N' c3) from fun w' hb' => blk4 ((hb'.block p (Nat.lt_succ_self p)).trans HN4.out))
  go_cut [7] from 27 to 32 (fun s7 wx => ∃ (F b : Nat) (g : Nat → Bool), s7 = .slice (some ⟨b, 0, none⟩) 1 1 ∧ wx.ownsRow (p + 1) 68 1 (.slice (some ⟨b, 0, none⟩) 1 1) 1 [.slice (some ⟨F, 0, none⟩) N' N'] ∧ Mk wx F N' g ∧ IsCl fs' N' (tblB [0] 1) g ∧ Below (p + 1) W4 wx)
  case first =>
    have hs4 := HS4.out
    have HDA := hide (show Below (p + 1) W4 (W4.alloc (.cells #[.int .i64 0] 3)).drew from ((Below.refl (p + 1) W4).alloc (by omega) _).drew)
    have HWO := hide (show Wd (W4.alloc (.cells #[.int .i64 0] 3)).drew (some ⟨p + 1, 0, none⟩) [0] from hs4 ▸ wd_one W4 0)
    go_region_held3 (fun w' => w'.cell? ⟨p, 0, none⟩ = some (.slice a0 N' c0) ∧ w'.cell? ⟨p, 1, none⟩ = some (.slice a1 N' c1) ∧ w'.cell? ⟨p, 2, none⟩ = some (.slice a2 N' c2) ∧ w'.cell? ⟨p, 3, none⟩ = some (.slice a3 N' c3)) (first | assumption | go_keep) ((first
      | (go_at_call 25; refine (close_any _ _ _ a0 N' c0 F2 fs' (tblB [0] 1) w2 (by omega) HM.out.lf (HNB.out w2 HB2.out).len (HNB.out w2 HB2.out).free HM.out.free HM2.out).mono ?_; rintro e w3 ⟨g3, hcl3, F3, hF3, rfl, hm3, hb3⟩; have HCL3 := hide hcl3; have HM3 := hide hm3; have HB3 := hide (HB2.out.trans (hb3.mono (by have := HB2.out.size; omega))); have k8 := HQ.out w3 HB3.out)
      | (go_at_call 26; refine (table_any (some ⟨p + 1, 0, none⟩) 1 1 N' [0] (W4.alloc (.cells #[.int .i64 0] 3)).drew rfl (by decide) (by omega) HWO.out).mono ?_; rintro e w2 ⟨F2, hF2, rfl, hm2, hb2⟩; have HM2 := hide hm2; have HB2 := hide (HDA.out.trans (hb2.mono (by have := HDA.out.size; omega))); have k7 := HQ.out w2 HB2.out)))
    all_goals
      go_wp2_with fail
      go_meet
      exact ⟨F3, _, g3, rfl, own_one w3 (p + 1) _ 68 (by have := HB3.out.size; omega), mk_old HM3.out _, HCL3.out, HB3.out.alloc (by have := HB3.out.size; omega) _⟩
  case rest =>
  obtain ⟨wP, rfl⟩ : ∃ y, y = wc := ⟨_, rfl⟩
  obtain ⟨F5, b5, g5, rfl, ho5, hm5, hcl5, hb5⟩ := hcut
  have e5 : lstL g5 N' = lstL g0 N' := lst_congr (isCl_one hcl5 HG0.out)
  have hp5 : p + 1 ≤ wP.heap.size := by have h1 := hb5.size; have h2 := HS4.out; omega
  have HBY := hide (show By (wP.alloc (.cells #[.slice none 0 0, .slice none 0 0] 28)) (p + 1) N' wP.heap.size (.slice (some ⟨b5, 0, none⟩) 1 1) (.slice none 0 0) (.slice none 0 0) [.slice (some ⟨F5, 0, none⟩) N' N'] [lstL g0 N'] [] [] from
    ⟨ho5.alloc _, rfl, fun i v s hv hs => by
      cases i with
      | zero =>
        have h1 : .slice (some ⟨F5, 0, none⟩) N' N' = v := by simpa using hv
        have h2 : lstL g0 N' = s := by simpa using hs
        exact ⟨F5, g5, h1.symm, mk_old hm5 _, h2.symm.trans e5.symm⟩
      | succ i => simp at hv, heap_alloc_last _ _, hp5, World.ownsRow_nil _ _ _ _, World.ownsRow_nil _ _ _ _⟩)
  have HB7 := hide (hb5.alloc hp5 (.cells #[.slice none 0 0, .slice none 0 0] 28))
  clear ho5 hm5 hcl5 hb5 e5 p0 p1 p2 p3
  go_wp2_with fail
  generalize wP.alloc (.cells #[.slice none 0 0, .slice none 0 0] 28) = W7 at *
  generalize wP.heap.size = d at *
  generalize hst : lstL g0 N' = start at *
  generalize hls : lstR rs' = ls at *
  go_loopw [7, 9] (fun sv i wr => ∃ (k : Nat) (nv rv : Value) (vs : List Value), i = .int .i64 k ∧ k ≤ 200 ∧ (∀ j, j < k → j < (stF tr ls start j).1.length) ∧ (stF tr ls start k).1.length ≤ 200 ∧ By wr (p + 1) N' d sv nv rv vs (stF tr ls start k).1 (stF tr ls start k).2.1 (stF tr ls start k).2.2 ∧ Below (p + 1) W4 wr) (fun _ i _ => 201 - (intOf i).toNat)
  case atStart => exact ⟨0, _, _, _, rfl, by omega, fun j hj => by omega, by simp [stF], HBY.out, HB7.out⟩
  case round =>
    obtain ⟨k, nv, rv, vs, rfl, hk2, hlow, hlen, hby, hbw⟩ := hrel
    have HBY' := hide hby
    have HBW := hide hbw
    have HLOW := hide hlow
    obtain ⟨hl1', hl2'⟩ := st_len k hlow
    have HL1 := hide hl1'
    have HL2 := hide hl2'
    have HPX := hide ((hbw.block P (by have h1 := HPW.out; omega)).trans HP4.out)
    clear hby hbw hlow HBY HB7 hl1' hl2'
    by_cases hlt : k < (stF tr ls start k).1.length
    · obtain ⟨s, hsk⟩ : ∃ s, (stF tr ls start k).1[k]? = some s := ⟨_, List.getElem?_eq_getElem hlt⟩
      have hvl := HBY'.out.len
      obtain ⟨v, hvk⟩ : ∃ v, vs[k]? = some v := ⟨_, List.getElem?_eq_getElem (by rw [hvl]; exact hlt)⟩
      have HST := hide (st_some (ls := ls) hsk)
      have HHS := hide hsk
      have HVK := hide hvk
      have HKL := hide hlt
      have HNV := hide (show nv.ownBlock ≠ some wr.heap.size from fun e => by
        have := (own_type HBY'.out.n e).2.1
        omega)
      obtain ⟨hv63, hi63'⟩ := zero_of_info zero63
      rw [rowG_zero] at hv63
      have HRB := hide (show p + 1 ≤ wr.heap.size from by have h1 := HBW.out.size; have h2 := HS4.out; omega)
      have HBYA := hide (by_below ((Below.refl _ _).alloc (Nat.le_refl _) (.cells (rowG fun _ => 0) 63)) HBY'.out)
      have HBWA := hide (HBW.out.alloc (show p + 1 ≤ wr.heap.size by have h1 := HBW.out.size; have h2 := HS4.out; omega) (.cells (rowG fun _ => 0) 63))
      have HRGA := hide (show Rg (wr.alloc (.cells (rowG fun _ => 0) 63)) wr.heap.size (fun _ => 0) from heap_alloc_last _ _)
      obtain ⟨ns, hns⟩ : ∃ ns, vs.length = ns := ⟨_, rfl⟩
      have i4'' : (k : Int) < (ns : Int) := by omega
      obtain ⟨xs0, xc0, hsv⟩ := own_form HBY'.out.own
      rw [hns] at hsv
      subst hsv
      clear hsk hvk
      go_wp2_with fail
      generalize hwr : wr.alloc (.cells (rowG fun _ => 0) 63) = WA at *
      generalize hrb : wr.heap.size = rb at *
      clear hv63 hi63' hwr i4'' hvl hlt hns
      go_loopw [7, 11] (fun sv2 c wr2 => ∃ (m : Nat) (vs2 : List Value), m ≤ 16 ∧ c = .int .i64 m ∧ Rg wr2 rb (fnL (rowF tr s (stF tr ls start k).1 m).2) ∧ By wr2 (p + 1) N' d sv2 nv rv vs2 (rowF tr s (stF tr ls start k).1 m).1 (stF tr ls start k).2.1 (stF tr ls start k).2.2 ∧ vs2[k]? = some v ∧ Below (p + 1) W4 wr2) (fun _ c _ => 16 - (intOf c).toNat)
      case atStart => exact ⟨0, vs, by omega, rfl, HRGA.out, HBYA.out, HVK.out, HBWA.out⟩
      case round =>
        obtain ⟨m, vs2, hm16, rfl, hrg, hby2, hvk2, hbw2⟩ := hrel
        have HRG := hide hrg
        have HBY2 := hide hby2
        have HVK2 := hide hvk2
        have HBW2 := hide hbw2
        clear hrg hby2 hvk2 hbw2 HRGA HBYA HBWA
        by_cases hmlt : m < 16
        · have i5 : (0 : Int) ≤ (m : Int) := by omega
          have i6 : (m : Int) < 16 := by omega
          obtain ⟨r5, f5⟩ := rg_cell HRG.out hmlt
          have HRG1 := hide (rg_set HRG.out hmlt (-1))
          have HBY3 := hide (by_row HBY2.out HRG.out HNV.out m (.int .i64 (-1)))
          have HBW3 := hide (HBW2.out.setCell (p := ⟨rb, m, none⟩) HRB.out (.int .i64 (-1)))
          obtain ⟨n2, hn2⟩ : ∃ n2, vs2.length = n2 := ⟨_, rfl⟩
          have hkn : k < n2 := by rw [← hn2]; exact (List.getElem?_eq_some_iff.1 HVK2.out).1
          have hs2 : (rowF tr s (stF tr ls start k).1 m).1[k]? = some s := by
            obtain ⟨r, hr, _⟩ := row_pre tr s (stF tr ls start k).1 m
            rw [hr, List.getElem?_append_left (List.getElem?_eq_some_iff.1 HHS.out).1]; exact HHS.out
          have hn216 : n2 ≤ 216 := by
            obtain ⟨r, hr, hrl⟩ := row_pre tr s (stF tr ls start k).1 m
            have h1 := HBY3.out.len
            rw [hr, List.length_append, hn2] at h1
            omega
          obtain ⟨gs, cs, esv, hbgs, hlgs⟩ := HBY3.out.own.form (by omega)
          rw [hn2] at esv
          subst esv
          have ho2 := HBY3.out.own
          rw [hn2] at ho2
          have ek := ho2.cellAt k (by omega)
          rw [HVK2.out] at ek
          obtain ⟨F1, g1, ev, hmk, es⟩ := HBY3.out.set k v s HVK2.out hs2
          subst ev
          have HMK := hide hmk
          have HES := hide es
          have HN2' := hide hn2
          have i7 : (0 : Int) ≤ (k : Int) := by omega
          have i8 : (k : Int) < (n2 : Int) := by omega
          clear hmk es hn2 hs2 ho2
          go_upto_region 15 with fail
          generalize wr.setCell ⟨rb, m, none⟩ (.int .i64 (-1)) = wA at *
          clear r5 f5 HRG HBY2 HBW2
          go_cut [12] from 45 to 51 (fun s12 wx => ∃ F2 : Nat, s12 = .slice (some ⟨F2, 0, none⟩) N' N' ∧ Mk wx F2 N' (stpB ss' ts' (m : Int) g1 N') ∧ Below wA.heap.size wA wx)
          case first =>
            obtain ⟨p0, p1, p2, p3⟩ := HQ.out wA HBW3.out
            have HBD := hide (HBW3.out.drew)
            have HMKD := hide (show Mk wA.drew F1 N' g1 from HMK.out)
            have HCK := hide (fun (w2 : World) (hb2 : Below wA.drew.heap.size wA.drew w2) => (hb2.cell (p := ⟨gs, k, none⟩) hlgs).trans ek)
            have hpA : p + 1 ≤ wA.drew.heap.size := by have h1 := HBD.out.size; have h2 := HS4.out; omega
            go_region_held3 (fun w' => (w'.cell? ⟨p, 0, none⟩ = some (.slice a0 N' c0) ∧ w'.cell? ⟨p, 1, none⟩ = some (.slice a1 N' c1) ∧ w'.cell? ⟨p, 2, none⟩ = some (.slice a2 N' c2) ∧ w'.cell? ⟨p, 3, none⟩ = some (.slice a3 N' c3)) ∧ w'.cell? ⟨gs, k, none⟩ = some (.slice (some ⟨F1, 0, none⟩) N' N')) (first | assumption | go_keep) ((go_at_call 27; refine (step_any (.slice a0 N' c0) (.slice a3 N' c3) a1 a2 N' c1 c2 F1 ss' ts' (m : Int) g1 wA.drew (by omega) HM.out.ls HM.out.lt (HNB.out _ HBD.out).set (HNB.out _ HBD.out).to HM.out.to HMKD.out).mono ?_; rintro e w2 ⟨F2, hF2, rfl, hm2, hb2⟩; have HM2 := hide hm2; have HB2 := hide hb2; have k8 := And.intro (HQ.out w2 (HBD.out.trans (hb2.mono hpA))) (HCK.out w2 hb2)))
            all_goals
              go_wp2_with fail
              go_meet
              exact ⟨F2, rfl, HM2.out, (below_drew1 wA).trans HB2.out⟩
          case rest =>
          obtain ⟨F2, rfl, hm2, hb2⟩ := hcut
          have HM2 := hide hm2
          have HBY4 := hide (by_below hb2 HBY3.out)
          have HRG4 := hide (rg_below hb2 HRG1.out)
          have HBW4 := hide (HBW3.out.trans (hb2.mono (by have h1 := HBW3.out.size; have h2 := HS4.out; omega)))
          obtain ⟨o, ho⟩ : ∃ o, stpB ss' ts' (m : Int) g1 N' = o := ⟨_, rfl⟩
          have HO := hide ho
          rw [ho] at HM2
          clear hm2 hb2 ho HBY3 HRG1 HBW3 ek HMK hlgs
          obtain ⟨wB, rfl⟩ : ∃ y, y = wc := ⟨_, rfl⟩
          go_wp2_with fail
          go_loopw [13, 14] (fun b q wr3 => ∃ x : Nat, x ≤ N' ∧ q = .int .i64 x ∧ b = .bool (anyM o x) ∧ wr3 = wB) (fun _ q _ => N' - (intOf q).toNat)
          case atStart => exact ⟨0, Nat.zero_le _, rfl, rfl, rfl⟩
          case round =>
            obtain ⟨x, hx, rfl, rfl, rfl⟩ := hrel
            by_cases hxl : x < N'
            · obtain ⟨f6, _⟩ := mk_cell HM2.out hxl
              have HSTP := hide (anyM_step o x)
              have i1 : (0 : Int) ≤ (x : Int) := by omega
              have i2 : (x : Int) < (N' : Int) := by omega
              cases hany : anyM o x
              · cases hox : o x
                · rw [hox] at f6
                  have HS2 := hide (show anyM o (x + 1) = false by rw [HSTP.out, hany, hox]; rfl)
                  clear hany hox
                  go_wp2
                  go_roundw
                  case rel => exact ⟨x + 1, by omega, by go_num, by rw [HS2.out], trivial⟩
                  case measure => simp [intOf]; omega
                · rw [hox] at f6
                  have HS2 := hide (show anyM o (x + 1) = true by rw [HSTP.out, hany, hox]; rfl)
                  clear hany hox
                  go_wp2
                  go_roundw
                  case rel => exact ⟨x + 1, by omega, by go_num, by rw [HS2.out], trivial⟩
                  case measure => simp [intOf]; omega
              · have HS2 := hide (show anyM o (x + 1) = true by rw [HSTP.out, hany]; rfl)
                clear hany f6
                go_wp2
                go_roundw
                case rel => exact ⟨x + 1, by omega, by go_num, by rw [HS2.out], trivial⟩
                case measure => simp [intOf]; omega
            · have e : x = N' := by omega
              subst e
              cases hany : anyM o x
              · have htr : tr s m = [] := by rw [HES.out]; exact tr_nil HTR.out hmlt (by rw [HO.out]; exact hany)
                have HFN := hide (find_none (rowF tr s (stF tr ls start k).1 m).1 htr)
                clear hany htr
                go_wp2
                go_roundw
                case rel => exact ⟨m + 1, vs2, by omega, by go_num, rg_step HFN.out HRG4.out (fun j _ => rfl), by rw [row_step HFN.out]; exact HBY4.out, HVK2.out, HBW4.out⟩
                case measure => simp [intOf]; omega
              · have HANY := hide hany
                obtain ⟨p0, p1, p2, p3⟩ := HQ.out wr HBW4.out
                clear hany
                go_wp2_with fail
                refine (close_any (.slice a1 x c1) (.slice a2 x c2) (.slice a3 x c3) a0 x c0 F2 fs' o wr (by omega) HM.out.lf (HNB.out wr HBW4.out).len (HNB.out wr HBW4.out).free HM.out.free HM2.out).mono ?_
                rintro e wC ⟨h, hcl, F3, hF3, rfl, hm3, hb3⟩
                have hcl' : IsCl fs' x (stpB ss' ts' (m : Int) g1 x) h := by rw [HO.out]; exact hcl
                have HTM := hide (show tr s m = lstL h x by rw [HES.out]; exact tr_at HTR.out hmlt hcl')
                have HNE := hide (show lstL h x ≠ [] from tr_some hcl' (by rw [HO.out]; exact HANY.out))
                have HBY5 := hide (by_below hb3 HBY4.out)
                have HRG5 := hide (rg_below hb3 HRG4.out)
                have HBW5 := hide (HBW4.out.trans (hb3.mono (by have h1 := HBW4.out.size; have h2 := HS4.out; omega)))
                have HM3 := hide hm3
                clear hcl hcl' hm3 hb3 p0 p1 p2 p3 HBY4 HRG4 HBW4 HM2
                obtain ⟨t, ht⟩ : ∃ t, lstL h x = t := ⟨_, rfl⟩
                have HT := hide ht
                rw [ht] at HTM HNE
                clear ht
                have hlen5 := HBY5.out.len
                rw [HN2'.out] at hlen5
                have HL5 := hide hlen5
                clear hlen5
                go_wp2_with fail
                go_loopw [15] (fun j wr4 => ∃ (y : Nat) (z : Int), y ≤ n2 ∧ j = .int .i64 y ∧ Seen (rowF tr s (stF tr ls start k).1 m).1 t y z ∧ Rg wr4 rb (fun i => if i = m then z else fnL (rowF tr s (stF tr ls start k).1 m).2 i) ∧ By wr4 (p + 1) x d (.slice (some ⟨gs, 0, none⟩) n2 cs) nv rv vs2 (rowF tr s (stF tr ls start k).1 m).1 (stF tr ls start k).2.1 (stF tr ls start k).2.2 ∧ Mk wr4 F3 x h ∧ Below (p + 1) W4 wr4) (fun j _ => n2 - (intOf j).toNat)
                case atStart => exact ⟨0, -1, Nat.zero_le _, rfl, seen_zero _ _, HRG5.out, HBY5.out, HM3.out, HBW5.out⟩
                case round =>
                  obtain ⟨y, z, hy, rfl, hseen, hrg, hby, hmk, hbw⟩ := hrel
                  obtain ⟨r6, f6⟩ := rg_cell hrg hmlt
                  rw [if_pos rfl] at r6
                  have HSN := hide hseen
                  have HRG6 := hide hrg
                  have HBY6 := hide hby
                  have HM6 := hide hmk
                  have HBW6 := hide hbw
                  obtain ⟨hz1, hz2⟩ := seen_rng hseen
                  clear hseen hrg hby hmk hbw HRG5 HBY5 HM3 HBW5
                  by_cases hz0 : z < 0
                  · obtain rfl : z = -1 := by omega
                    by_cases hyl : y < n2
                    · obtain ⟨vx, hvx⟩ : ∃ vx, vs2[y]? = some vx := ⟨_, List.getElem?_eq_getElem (by rw [HN2'.out]; exact hyl)⟩
                      obtain ⟨sx, hsx⟩ : ∃ sx, (rowF tr s (stF tr ls start k).1 m).1[y]? = some sx := ⟨_, List.getElem?_eq_getElem (by rw [← HL5.out]; exact hyl)⟩
                      obtain ⟨Fx, gx, rfl, hmx, hsxe⟩ := HBY6.out.set y vx sx hvx hsx
                      have ho6 := HBY6.out.own
                      rw [HN2'.out] at ho6
                      have ex := ho6.cellAt y (by omega)
                      rw [hvx] at ex
                      have HSX := hide hsx
                      have HSXE := hide hsxe
                      have HMX := hide hmx
                      have j1 : (0 : Int) ≤ (y : Int) := by omega
                      have j2 : (y : Int) < (n2 : Int) := by omega
                      clear ho6 hvx hsx hsxe hmx
                      go_wp2_with fail
                      refine (dsame_any x Fx F3 gx h wr (by omega) HMX.out HM6.out).mono ?_
                      rintro e wD ⟨rfl, hb7⟩
                      rw [eqB_lst, ← HSXE.out, HT.out]
                      have HRG7 := hide (rg_below hb7 HRG6.out)
                      have HBY7 := hide (by_below hb7 HBY6.out)
                      have HM7 := hide (show Mk wD F3 x h from (hb7.block F3 (mk_lt HM6.out)).trans HM6.out)
                      have HBW7 := hide (HBW6.out.trans (hb7.mono (by have h1 := HBW6.out.size; have h2 := HS4.out; omega)))
                      obtain ⟨r7, f7⟩ := rg_cell HRG7.out hmlt
                      rw [if_pos rfl] at r7
                      clear hb7 r6 f6 ex HRG6 HBY6 HM6 HBW6
                      by_cases c : sx = t
                      · rw [decide_eq_true c]
                        subst c
                        have HSN2 := hide (seen_yes HSN.out HSX.out)
                        have HRG8 := hide (rg_congr (rg_set HRG7.out hmlt (y : Int)) (f' := fun i => if i = m then (y : Int) else fnL (rowF tr s (stF tr ls start k).1 m).2 i) (fun j _ => by by_cases e : j = m <;> simp [e]))
                        have HBY8 := hide (by_row HBY7.out HRG7.out HNV.out m (.int .i64 (y : Int)))
                        have HM8 := hide (mk_other HM7.out (B := rb) (fun q => by
                          have h1 := HM7.out
                          have h2 := HRG7.out
                          unfold Mk at h1
                          unfold Rg at h2
                          rw [q, h2] at h1
                          simp at h1) m (.int .i64 (y : Int)))
                        have HBW8 := hide (HBW7.out.setCell (p := ⟨rb, m, none⟩) HRB.out (.int .i64 (y : Int)))
                        clear HRG7 HBY7 HM7 HBW7 HSN
                        go_wp2
                        go_roundw
                        case rel => exact ⟨y + 1, (y : Int), by omega, by go_num, HSN2.out, HRG8.out, HBY8.out, HM8.out, HBW8.out⟩
                        case measure => simp [intOf]; omega
                      · rw [decide_eq_false c]
                        have HSN2 := hide (seen_no HSN.out HSX.out c)
                        clear c
                        go_wp2
                        go_roundw
                        case rel => exact ⟨y + 1, -1, by omega, by go_num, HSN2.out, HRG7.out, HBY7.out, HM7.out, HBW7.out⟩
                        case measure => simp [intOf]; omega
                    · have ey : y = n2 := by omega
                      subst ey
                      have HFN := hide (show findF (rowF tr s (stF tr ls start k).1 m).1 (tr s m) = ((rowF tr s (stF tr ls start k).1 m).1 ++ [t], (y : Int)) by
                        rw [HTM.out, HL5.out]
                        exact seen_end HNE.out (by rw [← HL5.out]; exact HSN.out))
                      have HRG8 := hide (rg_congr (rg_set HRG6.out hmlt (y : Int)) (f' := fun i => if i = m then (y : Int) else fnL (rowF tr s (stF tr ls start k).1 m).2 i) (fun j _ => by by_cases e : j = m <;> simp [e]))
                      have HBY8 := hide (by_row HBY6.out HRG6.out HNV.out m (.int .i64 (y : Int)))
                      have HM8 := hide (mk_other HM6.out (B := rb) (fun q => by
                        have h1 := HM6.out
                        have h2 := HRG6.out
                        unfold Mk at h1
                        unfold Rg at h2
                        rw [q, h2] at h1
                        simp at h1) m (.int .i64 (y : Int)))
                      have HBW8 := hide (HBW6.out.setCell (p := ⟨rb, m, none⟩) HRB.out (.int .i64 (y : Int)))
                      go_upto_region 30 with fail
                      generalize wr.setCell ⟨rb, m, none⟩ (.int .i64 (y : Int)) = wE at *
                      clear r6 f6 HRG6 HBY6 HM6 HBW6
                      have HOW := hide (show wE.ownsRow (p + 1) 68 1 (.slice (some ⟨gs, 0, none⟩) y cs) y vs2 from by
                        have := HBY8.out.own
                        rw [HN2'.out] at this
                        exact this)
                      have HSZ := hide (show p + 1 ≤ (wE.alloc (.cells #[.slice (some ⟨F3, 0, none⟩) x x] 68)).heap.size by have h1 := HBW8.out.size; have h2 := HS4.out; simp; omega)
                      go_wp2_with (first
                        | (at_builtin; refine wpList_append_lies _ rfl _ _ 71 rfl (p + 1) 68 i68 (.slice none 0 0) 1 24 Tryz.underlying71 hi68 hz68 hs68 hb68 rfl (by decide) _ y vs2 rfl (HOW.out.alloc _) ⟨_, 0, none⟩ 1 1 [.slice (some ⟨F3, 0, none⟩) x x] rfl rfl (one_new _ _ _) (fun u hu => by simp only [List.mem_singleton] at hu; subst hu; rfl) (by decide) (by unfold maxLen; omega) (by omega) HSZ.out _ rfl ?_; intro g' cap' w3 hown3 hg3 hat3 hlt3))
                      have hby9 := by_app HBY8.out HM8.out hg3 (by rw [HN2'.out]; exact hown3)
                      rw [HN2'.out, HT.out] at hby9
                      have HBY9 := hide hby9
                      have HRG9 := hide (show Rg w3 rb _ from ((hg3.block rb (by have := rg_lt HRG8.out; simp; omega) (fun e => own_not HOW.out HRG8.out (by decide) e.symm)).trans (Below.heap_alloc _ _ _ (rg_lt HRG8.out))).trans HRG8.out)
                      have HBW9 := hide ((HBW8.out.alloc (by have h1 := HBW8.out.size; have h2 := HS4.out; omega) (.cells #[.slice (some ⟨F3, 0, none⟩) x x] 68)).grown hg3 HSZ.out (fun kk hkk => (HOW.out.lt kk hkk).1))
                      clear hby9 hown3 hg3
                      go_roundw
                      case rel => exact ⟨m + 1, _, by omega, by go_num, rg_step HFN.out HRG9.out (fun j _ => rfl), by rw [row_step HFN.out]; exact HBY9.out, by rw [List.getElem?_append_left (List.getElem?_eq_some_iff.1 HVK2.out).1]; exact HVK2.out, HBW9.out⟩
                      case measure => simp [intOf]; omega
                  · have hzf : decide (z < 0) = false := by simp; omega
                    have HFN := hide (show findF (rowF tr s (stF tr ls start k).1 m).1 (tr s m) = ((rowF tr s (stF tr ls start k).1 m).1, z) by rw [HTM.out]; exact seen_found HNE.out (by omega) HSN.out)
                    by_cases hyl : y < n2
                    · go_wp2
                      go_roundw
                      case rel => exact ⟨m + 1, vs2, by omega, by go_num, rg_step HFN.out HRG6.out (fun j _ => rfl), by rw [row_step HFN.out]; exact HBY6.out, HVK2.out, HBW6.out⟩
                      case measure => simp [intOf]; omega
                    · go_wp2
                      go_roundw
                      case rel => exact ⟨m + 1, vs2, by omega, by go_num, rg_step HFN.out HRG6.out (fun j _ => rfl), by rw [row_step HFN.out]; exact HBY6.out, HVK2.out, HBW6.out⟩
                      case measure => simp [intOf]; omega
        · have em : m = 16 := by omega
          subst em
          obtain ⟨n2, hn2⟩ : ∃ n2, vs2.length = n2 := ⟨_, rfl⟩
          have hs2 : (rowF tr s (stF tr ls start k).1 16).1[k]? = some s := by
            obtain ⟨r, hr, _⟩ := row_pre tr s (stF tr ls start k).1 16
            rw [hr, List.getElem?_append_left (List.getElem?_eq_some_iff.1 HHS.out).1]; exact HHS.out
          have hl2 := HBY2.out.len
          rw [hn2] at hl2
          have HL2' := hide (show n2 = (stF tr ls start (k + 1)).1.length by rw [HST.out]; exact hl2)
          have hkn : k < n2 := by rw [← hn2]; exact (List.getElem?_eq_some_iff.1 HVK2.out).1
          obtain ⟨gs, cs, esv, hbgs, hlgs⟩ := HBY2.out.own.form (by omega)
          rw [hn2] at esv
          subst esv
          have HN2' := hide hn2
          have HPX2 := hide ((HBW2.out.block P (by have h1 := HPW.out; omega)).trans HP4.out)
          clear hn2 hl2
          by_cases hbig : 200 < n2
          · have d1 : decide ((200 : Int) < (n2 : Int)) = true := by simp; omega
            have hPX := HPX2.out
            have HWF := hide (set2 (x := .slice none 0 0) (y := .slice none 0 0) hPX)
            have HBF := hide (below_set2 (x := .slice none 0 0) (y := .slice none 0 0) (HB1.out.trans ((HB4.out.mono (by have h1 := HPW.out; omega)).trans (HBW2.out.mono (by have h1 := HPW.out; omega)))) (Nat.le_refl P))
            obtain ⟨q0, q1, qz⟩ := d_cells hPX
            have y0 := qz 0
            have y1 := qz 1
            have HBIG := hide (show 200 < (stF tr ls start 201).1.length from st_big (k := k) (by rw [← HL2'.out]; exact hbig) (by omega))
            clear qz hPX hbig hs2
            go_wp2
            obtain ⟨m0, m1, -⟩ := d_cells HWF.out
            refine bodyPost_ret (v := noDf 7) (by simp [noDf, results, Tryz.results8, go_sem, m0, m1]) rfl ?_
            unfold OutD
            rw [if_pos HBIG.out]
            exact ⟨rfl, hP ▸ HBF.out⟩
          · have d1 : decide ((200 : Int) < (n2 : Int)) = false := by simp; omega
            obtain ⟨an, cn, hnv⟩ := own_form HBY2.out.n
            rw [HL1.out] at hnv
            subst hnv
            obtain ⟨e0, e1, ez⟩ := d_cells HBY2.out.db
            have f0 := ez 0
            have hrl16 := row_len tr s (stF tr ls start k).1 16
            obtain ⟨rM1, rM2⟩ := rowM_at (rg_range HRG.out hrl16) (by rw [cI_len]; exact hrl16)
            have hcl : (cI (rowF tr s (stF tr ls start k).1 16).2).length = 16 := by rw [cI_len]; exact hrl16
            have hone : ∀ u ∈ cI (rowF tr s (stF tr ls start k).1 16).2, u.oneCell' = true := fun u hu => by
              obtain ⟨z, _, rfl⟩ := List.mem_map.1 hu
              rfl
            have HON := hide (show wr.ownsRow (p + 1) 63 16 (.slice an k cn) k (cellsR (stF tr ls start k).2.1) from by
              have := HBY2.out.n
              rw [HL1.out] at this
              exact this)
            obtain ⟨cx, hcx⟩ : ∃ cx, cI (rowF tr s (stF tr ls start k).1 16).2 = cx := ⟨_, rfl⟩
            have HCX := hide hcx
            rw [hcx] at rM1 hcl hone
            have HSZ := hide (show p + 1 ≤ (wr.alloc (.cells cx.toArray 63)).heap.size by have h1 := HBW2.out.size; have h2 := HS4.out; simp; omega)
            have HDC := hide (fun (w3 : World) (hgr : (wr.alloc (.cells cx.toArray 63)).grownBy w3 (Value.slice an k cn).ownBlock) => show w3.cell? ⟨d, 0, none⟩ = some (.slice an k cn) ∧ w3.frozen? ⟨d, 0, none⟩ = false from by
              have hdl := by_lt HBY2.out
              have h2 : w3.heap[d]? = some (.cells #[.slice an k cn, rv] 28 (0, 0)) := by
                rw [hgr.block d (by simp; omega) (fun e => own_not HON.out HBY2.out.db (by decide) e.symm), Below.heap_alloc _ _ _ hdl]; exact HBY2.out.db
              exact ⟨(d_cells h2).1, (d_cells h2).2.2 0⟩)
            have HS2 := hide hs2
            have HBG := hide hbig
            clear hcx hrl16 ez hs2 hbig
            go_upto_region 34 with (first
              | (at_builtin; refine wpList_append_lies _ rfl _ _ 25 rfl (p + 1) 63 i63 (.agg (Array.replicate 16 (.int .i64 0))) 16 128 Tryz.underlying25 hi63 hz63 hs63 hb63 (by simp [Value.cells]) (by decide) _ k (cellsR (stF tr ls start k).2.1) rfl (HON.out.alloc _) ⟨_, 0, none⟩ 1 1 cx rfl (by omega) (World.news_of_block (cs := cx.toArray) (heap_alloc_last wr _)) hone (by decide) (by unfold maxLen; omega) (by omega) HSZ.out _ rfl ?_; intro g' cap' w3 hown3 hg3 hat3 hlt3; obtain ⟨g5, g6⟩ := HDC.out w3 hg3))
            have hbyN := by_next (l := (rowF tr s (stF tr ls start k).1 16).2) HBY2.out hg3 (by rw [HL1.out, HCX.out]; exact hown3)
            rw [HL1.out] at hbyN
            have HBYN := hide hbyN
            have HBWN := hide (((HBW2.out.alloc (by have h1 := HBW2.out.size; have h2 := HS4.out; omega) (.cells cx.toArray 63)).grown hg3 HSZ.out (fun kk hkk => (HON.out.lt kk hkk).1)).setCell (p := ⟨d, 0, none⟩) (show p + 1 ≤ d from HBY2.out.dlow) (.slice (some ⟨g', 0, none⟩) (k + 1) cap'))
            clear hbyN hown3 hg3 hat3 hlt3 e0 e1 f0 rM1 rM2 g5 g6 hcl hone HON HSZ HDC
            generalize w3.setCell ⟨d, 0, none⟩ (.slice (some ⟨g', 0, none⟩) (k + 1) cap') = wF at *
            clear HPX HPX2 HBY2 HBW2 HRG
            obtain ⟨ar, cr, hrv⟩ := own_form HBYN.out.r
            rw [HL2.out] at hrv
            obtain ⟨e0, e1, ez⟩ := d_cells HBYN.out.db
            have f1 := ez 1
            obtain ⟨F1, g1, ev, hmk, es⟩ := HBYN.out.set k v s HVK2.out HS2.out
            subst ev
            have ho2 := HBYN.out.own
            rw [HN2'.out] at ho2
            have ek := ho2.cellAt k (by omega)
            rw [HVK2.out] at ek
            have i7 : (0 : Int) ≤ (k : Int) := by omega
            have i8 : (k : Int) < (n2 : Int) := by omega
            obtain ⟨p0, p1, p2, p3⟩ := HQ.out wF HBWN.out
            have hpw5 : p + 1 ≤ wF.heap.size := by have h1 := HBWN.out.size; have h2 := HS4.out; omega
            have hls2 : endR rs' g1 N' = ls s := by rw [es]; exact (HLS.out g1).symm
            have HLE := hide (nends_any (.slice a0 N' c0) (.slice a1 N' c1) (.slice a2 N' c2) a3 N' c3 F1 rs' g1 wF.drew (by omega) HM.out.lr (HNB.out _ (HBWN.out.trans ((below_drew1 wF).mono hpw5))).rule (show Mk wF.drew F1 N' g1 from hmk))
            rw [hls2] at HLE
            have HRVB := hide (fun (w6 : World) (hb6 : Below wF.drew.heap.size wF.drew w6) => own_move (w' := w6) HBYN.out.r (fun kk hkk => (hb6.block kk (own_type HBYN.out.r hkk).2.1)))
            rw [HL2.out] at HRVB
            have HDC := hide (fun (w6 : World) (hb6 : Below wF.drew.heap.size wF.drew w6) (o : Obj) (w7 : World) (hgr : (w6.alloc o).grownBy w7 rv.ownBlock) => show w7.cell? ⟨d, 1, none⟩ = some rv ∧ w7.frozen? ⟨d, 1, none⟩ = false from by
              have hd5 := HBYN.out.db
              have hdl := (Array.getElem?_eq_some_iff.1 hd5).1
              have h1 := (hb6.block d hdl).trans hd5
              have h2 : w7.heap[d]? = some (.cells #[.slice (some ⟨g', 0, none⟩) (k + 1) cap', rv] 28 (0, 0)) := by
                rw [hgr.block d (by have := (Array.getElem?_eq_some_iff.1 h1).1; simp; omega) (fun e => own_not HBYN.out.r hd5 (by decide) e.symm), Below.heap_alloc _ _ _ (Array.getElem?_eq_some_iff.1 h1).1]; exact h1
              exact ⟨(d_cells h2).2.1, (d_cells h2).2.2 1⟩)
            have HSZ := hide (fun (w6 : World) (hb6 : Below wF.drew.heap.size wF.drew w6) (o : Obj) => show p + 1 ≤ (w6.alloc o).heap.size from by have := hb6.size; simp at this ⊢; omega)
            have HPW5 := hide hpw5
            clear ez ho2 hmk es hls2 hpw5
            subst hrv
            go_region_law ((first
              | (refine step_append_lies _ (by rfl) (.tmp 113) (.tmp 120) 26 (by rfl) (p + 1) 3 i3 (.int .i64 0) 1 8 Tryz.underlying26 hi3 hz3 hs3 hb3 rfl (by omega) (.slice ar k cr) k ((stF tr ls start k).2.2.map (Value.int .i64)) (by rfl) ((HRVB.out w6 hb6).alloc _) ⟨w6.heap.size, 0, none⟩ 1 1 [.int .i64 (ls s)] (by rfl) (by rfl) (one_new _ _ _) (fun u hu => by simp only [List.mem_singleton] at hu; subst hu; rfl) (by omega) (by unfold maxLen; omega) (by omega) (HSZ.out w6 hb6 _) (w6.heap.size + 1) (by simp) ?_; intro g'' cap'' w7 hown7 hgrow7 hat7 hlt7; obtain ⟨g5, g6⟩ := HDC.out w6 hb6 _ w7 hgrow7)
              | (go_simp; go_at_call 29; refine HLE.out.mono ?_; rintro e w6 ⟨rfl, hb6⟩; have u2 := (hb6.cell (p := ⟨d, 1, none⟩) (cell_lt e1)).trans e1; have u3 := fun o => cell_alloc u2 o; go_simp)))
            all_goals
              have hbd4 := by_rule (by_below hb6 (by_below (below_drew1 wF) HBYN.out)) hgrow7 (by rw [HL2.out]; exact hown7)
              rw [HL2.out] at hbd4
              have hbw4 := (((HBWN.out.trans ((below_drew1 wF).mono HPW5.out)).trans (hb6.mono (show p + 1 ≤ wF.drew.heap.size from HPW5.out))).alloc (show p + 1 ≤ w6.heap.size by have := hb6.size; have := HPW5.out; simp at *; omega) (.cells #[.int .i64 (ls s)] 3)).grown hgrow7 (HSZ.out w6 hb6 _) (fun kk hkk => ((HRVB.out w6 hb6).lt kk hkk).1) |>.setCell (p := ⟨d, 1, none⟩) (show p + 1 ≤ d from HBYN.out.dlow) (.slice (some ⟨g'', 0, none⟩) (k + 1) cap'')
              have HBY5 := hide hbd4
              have HBW5 := hide hbw4
              clear hbd4 hbw4
              go_wp2
              go_roundw
              case rel => exact ⟨k + 1, _, _, vs2, by go_num, by have := HKL.out; omega, fun j hj => by
                by_cases e : j = k
                · subst e; exact HKL.out
                · exact HLOW.out j (by omega), by rw [← HL2'.out]; have := HBG.out; omega, by rw [HST.out]; exact HBY5.out, HBW5.out⟩
              case measure => simp [intOf]; omega
    · have hke : (stF tr ls start k).1.length = k := by
        rcases Nat.eq_zero_or_pos k with h0 | h0
        · subst h0; simp [stF] at hlt
        · have h1 := HLOW.out (k - 1) (by omega)
          have h2 := st_mono (tr := tr) (ls := ls) (start := start) (show k - 1 ≤ k by omega)
          omega
      have HEND := hide (st_end hke hk2)
      obtain ⟨xs2, xc2, hsv2⟩ := own_form HBY'.out.own
      obtain ⟨n2, hn2⟩ : ∃ n2, vs.length = n2 := ⟨_, rfl⟩
      have hl2 := HBY'.out.len
      rw [hn2] at hsv2
      rw [hn2, hke] at hl2
      subst hl2
      subst hsv2
      obtain ⟨an, cn, rfl, hdr⟩ := own_dr HBY'.out.n (fun x hx => by
        obtain ⟨i, hi, e⟩ := List.getElem_of_mem hx
        obtain ⟨s, row, _, h2, h3, _⟩ := st_means n2 HLOW.out i (by have := HL1.out; omega)
        rw [List.getElem?_eq_getElem hi, e] at h2
        rw [Option.some.inj h2]; exact h3)
      obtain ⟨ar, cr, rfl, hwr⟩ := own_len HBY'.out.r
      obtain ⟨e0, e1, ez⟩ := d_cells HBY'.out.db
      have hPX := HPX.out
      obtain ⟨q0, q1, qz⟩ := d_cells hPX
      have y0 := qz 0
      have y1 := qz 1
      have HDR := hide (hdr rfl)
      rw [HL1.out] at e0
      rw [HL2.out] at e1
      have hbf : ∀ x y, Below P w ((wr.setCell ⟨P, 0, none⟩ x).setCell ⟨P, 1, none⟩ y) := fun x y => below_set2 (HB1.out.trans ((HB4.out.mono (by have h1 := HPW.out; omega)).trans (HBW.out.mono (by have h1 := HPW.out; omega)))) (Nat.le_refl P)
      have HBF := hide hbf
      have HWF := hide (set2 (x := .slice an n2 cn) (y := .slice ar n2 cr) hPX)
      have HWR := hide hwr
      have HPD := hide (show ∀ (b i : Nat) (v : Value) (x y : Value), b ≠ P → wr.cell? ⟨b, i, none⟩ = some v → ((wr.setCell ⟨P, 0, none⟩ x).setCell ⟨P, 1, none⟩ y).cell? ⟨b, i, none⟩ = some v from fun b i v x y hb h => by
        rw [World.cell?_setCell_other _ _ _ _ (fun e => hb (by cases e; rfl)), World.cell?_setCell_other _ _ _ _ (fun e => hb (by cases e; rfl))]; exact h)
      clear qz ez hn2 hlt hdr hwr hPX hbf
      go_wp2
      obtain ⟨m0, m1, -⟩ := d_cells HWF.out
      refine bodyPost_ret (v := .tuple #[.agg #[.slice an n2 cn, .slice ar n2 cr], .int .i64 0]) (by simp [results, Tryz.results8, go_sem, m0, m1]) rfl ?_
      unfold OutD
      rw [HEND.out, if_neg (by omega)]
      have hPp : P < p := HPW.out
      refine ⟨an, ar, cn, cr, by rw [HL1.out, HL2.out], fun i row hr => ?_, fun i z hz => ?_, hP ▸ HBF.out _ _⟩
      · obtain ⟨h1, b, off, e, h2⟩ := HDR.out i row hr
        have hb := (own_type HBY'.out.n (k := b) (by rw [e]; rfl)).1
        exact ⟨h1, b, off, e, fun j v hj => HPD.out b _ v _ _ (by omega) (h2 j v hj)⟩
      · obtain ⟨b, off, e, h2⟩ := HWR.out i z hz
        have hb := (own_type HBY'.out.r (k := b) (by rw [e]; rfl)).1
        exact ⟨b, off, e, HPD.out b _ _ _ _ (by omega) h2⟩
end Go.Proofs.YtccaknabpnpjaaaGreatDoor.A
