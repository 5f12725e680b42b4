/- The law on what is left, walked. -/
import Derived.Test.YtbbfjjjnifomgaaGreatDoorK50
import Derived.Test.YtbbfjjjnifomgaaGreatDoorK43
import Derived.Deep.RegionHeld3
namespace Go.Proofs.YtbbfjjjnifomgaaGreatDoor.A
open Go.RowKit
set_option linter.unusedVariables false

theorem cut_rng {lg : Nat → Int × Int} {len : Nat} (h : LgOk lg len) : ∀ (f a : Nat), ∀ p ∈ cutF lg len f a, ∃ u v : Nat, p.f = (u : Int) ∧ p.t = (v : Int) ∧ u < v ∧ v ≤ len
  | 0, a, p, hp => by simp [cutF] at hp
  | f + 1, a, p, hp => by
    unfold cutF at hp
    by_cases c : a < len
    · rw [if_pos c] at hp
      obtain ⟨t, e, h1, h2⟩ := piece_to h c
      rcases List.mem_cons.1 hp with rfl | hp
      · refine ⟨a, t, ?_, e, h1, h2⟩
        unfold pieceF
        split <;> rfl
      · rw [e, show ((t : Nat) : Int).toNat = t by omega] at hp
        exact cut_rng h f t p hp
    · rw [if_neg c] at hp; simp at hp

theorem cutc_any (a0 a1 : Option Addr) (n0 n1 c0 c1 : Nat) (nx : List (List Int)) (ru : List Int) (a : Option Addr) (len cap : Nat) (word : List Int) (w : World) (hd : Dm w a0 a1 n0 n1 nx ru) (hz : word.length = len) (hl : len ≤ cap) (hc : cap ≤ maxLen) (hlen : len ≤ 100000) (hW : Wd w a word) :
    ∃ ps : List Pc, ps.length ≤ len ∧ ps = (if rightD nx ru = true then cutW (fun a => longR nx ru word (a : Int)) len else []) ∧ Calls Tryz.prog 8 #[.agg #[.slice a0 n0 c0, .slice a1 n1 c1], .slice a len cap] w fun e w' => ∃ pa pc, e = .returned (.slice pa ps.length pc) ∧ SegP w' pa ps ∧ Below w.heap.size w w' := by
  cases hr : rightD nx ru with
  | false => exact ⟨[], by simp, by simp, (cut_no a0 a1 n0 n1 c0 c1 nx ru a len cap w hd hr).mono fun e w' ⟨he, hb⟩ => ⟨none, 0, he, fun i p hp => by simp at hp, hb⟩⟩
  | true =>
    have hlo : LgOk (fun a => longR nx ru word (a : Int)) len := by have h := long_ok nx ru word; rw [hz] at h; exact h
    refine ⟨cutW (fun a => longR nx ru word (a : Int)) len, by have := cut_count hlo len 0; unfold cutW; omega, by simp, (cut_any a0 a1 n0 n1 c0 c1 nx ru a len cap word w hd hr hz hl hc hlen hW _ (fun _ => rfl)).mono fun e w' ⟨v, he, ho, hb⟩ => ?_⟩
    obtain ⟨pa, pc, rfl, hseg⟩ := own_segP ho rfl
    exact ⟨pa, pc, he, hseg, hb⟩

set_option maxRecDepth 100000 in
set_option maxHeartbeats 6400000 in
theorem walkRest (a0 a1 : Option Addr) (n0 n1 c0 c1 : Nat) (nx : List (List Int)) (ru : List Int) (a : Option Addr) (len cap : Nat) (word : List Int) (kk : Nat) (m : Int) (w : World) (hm : w.cell? ⟨0, 0, none⟩ = some (.int .i64 m)) (ht : Tab w.heap.size w)
    (hd : Dm w a0 a1 n0 n1 nx ru) (hW : Wd w a word) (hz : word.length = len) (hl : len ≤ cap) (hc : cap ≤ maxLen) (hkk : kk < 256) :
    Calls Tryz.prog 6 #[.agg #[.slice a0 n0 c0, .slice a1 n1 c1], .slice a len cap, .int .u8 kk] w fun e w' => e = .returned (.bool true) ∧ Below w.heap.size w w' := by
  have hb0 := (Below.refl w.heap.size w).alloc (Nat.le_refl _) (.cells #[.slice a0 n0 c0, .slice a1 n1 c1] 25)
  have HB0 := hide hb0
  have HD := hide (dm_below' hb0 hd)
  have HW := hide (wd_below hb0 hW)
  have HM := hide ((hb0.cell (p := ⟨0, 0, none⟩) (cell_lt hm)).trans hm)
  have HT := hide (tab_up (tab_on ht hb0) hb0.size)
  have HBX := hide (heap_alloc_last w (.cells #[.slice a0 n0 c0, .slice a1 n1 c1] 25))
  have HSZ := hide (show (w.alloc (.cells #[.slice a0 n0 c0, .slice a1 n1 c1] 25)).heap.size = w.heap.size + 1 by simp)
  have HZ := hide hz
  clear hb0 hd hW hm ht hz
  go_enter Tryz.func6, Tryz.ntmps6
  go_wp2_with fail
  generalize w.alloc (.cells #[.slice a0 n0 c0, .slice a1 n1 c1] 25) = W at *
  refine (alive_any9 m W HM.out HT.out).mono ?_
  rintro e w1 ⟨rfl, hb1⟩
  have HB1 := hide (HB0.out.trans (hb1.mono (by rw [HSZ.out]; omega)))
  have HD1 := hide (dm_below' hb1 HD.out)
  have HW1 := hide (wd_below hb1 HW.out)
  have HX1 := hide ((hb1.block w.heap.size (by rw [HSZ.out]; omega)).trans HBX.out)
  obtain ⟨B, hB⟩ : ∃ B, w.heap.size = B := ⟨_, rfl⟩
  rw [hB] at HX1 HB1 ⊢
  have HBB := hide hB
  have HQ1 := hide (show B < w1.heap.size from (Array.getElem?_eq_some_iff.1 HX1.out).1)
  clear hb1 HM HT HD HW HBX HSZ HB0 hB
  obtain ⟨p0, p1, -⟩ := d_cells HX1.out
  by_cases h1 : 300 < n0
  · have d1 : decide ((300 : Int) < (n0 : Int)) = true := by simp; omega
    clear h1
    go_wp2
    go_ret
    exact ⟨rfl, by first | exact HB1.out | (rw [HBB.out]; exact HB1.out)⟩
  have d1 : decide ((300 : Int) < (n0 : Int)) = false := by simp; omega
  by_cases h2 : 100 < len
  · have d2 : decide ((100 : Int) < (len : Int)) = true := by simp; omega
    clear h1 h2
    go_wp2
    go_ret
    exact ⟨rfl, by first | exact HB1.out | (rw [HBB.out]; exact HB1.out)⟩
  have d2 : decide ((100 : Int) < (len : Int)) = false := by simp; omega
  have hl100 : len ≤ 100 := by omega
  clear h1 h2
  obtain ⟨ps, hpl, hps, hcall⟩ := cutc_any a0 a1 n0 n1 c0 c1 nx ru a len cap word w1 HD1.out HZ.out hl hc (by omega) HW1.out
  have HC := hide hcall
  have HPS := hide hps
  clear hcall hps
  go_wp2_with fail
  refine HC.out.mono ?_
  rintro e w2 ⟨pa, pc, rfl, hseg, hb2⟩
  have HB2 := hide (HB1.out.trans (hb2.mono (by have := HQ1.out; omega)))
  have HD2 := hide (dm_below' hb2 HD1.out)
  have HW2 := hide (wd_below hb2 HW1.out)
  have HX2 := hide ((hb2.block B HQ1.out).trans HX1.out)
  have HP2 := hide hseg
  have HQ2 := hide (show B < w2.heap.size by have := hb2.size; have := HQ1.out; omega)
  clear hb2 hseg HC p0 p1
  obtain ⟨n, hn⟩ : ∃ n, ps.length = n := ⟨_, rfl⟩
  have HN := hide hn
  rw [hn] at hpl
  rw [hn]
  clear hn
  by_cases hn0 : n = 0
  · have z0 : ((n : Int) == 0) = true := by simp [hn0]
    subst hn0
    go_wp2
    go_ret
    exact ⟨rfl, by first | exact HB2.out | (rw [HBB.out]; exact HB2.out)⟩
  have z0 : ((n : Int) == 0) = false := by simp [hn0]
  obtain ⟨i, hi⟩ : ∃ i, kk % n = i := ⟨_, rfl⟩
  have hin : i < n := by rw [← hi]; exact Nat.mod_lt _ (by omega)
  have hrem : Int.tmod (kk : Int) (n : Int) = (i : Int) := by rw [← hi]; exact (Int.ofNat_tmod kk n).symm
  have hrt : rightD nx ru = true := by
    cases hr : rightD nx ru with
    | true => rfl
    | false =>
      have := HPS.out
      rw [hr] at this
      have e := HN.out
      rw [this] at e
      simp at e; omega
  have hpw : ps = cutW (fun a => longR nx ru word (a : Int)) len := by have := HPS.out; rw [hrt, if_pos rfl] at this; exact this
  obtain ⟨p, hp⟩ : ∃ p, ps[i]? = some p := ⟨_, List.getElem?_eq_getElem (by rw [HN.out]; exact hin)⟩
  obtain ⟨t, hpt, htl, hdrop⟩ := cut_rest (nx := nx) (ru := ru) (word := word) (i := i) (p := p) (by rw [HZ.out, ← hpw]; exact hp)
  rw [HZ.out, ← hpw] at hdrop
  rw [HZ.out] at htl
  obtain ⟨pb, po, rfl, q0, q1, q2⟩ := HP2.out i p hp
  rw [hpt] at q1
  have HDR := hide hdrop
  have hlen0 : 0 < len := by omega
  obtain ⟨wb, wo, hwb, -⟩ := HW2.out 0 (word[0]'(by rw [HZ.out]; exact hlen0)) (List.getElem?_eq_getElem _)
  subst hwb
  have i1 : (0 : Int) ≤ (i : Int) := by omega
  have i2 : (i : Int) < (n : Int) := by omega
  have i3 : (0 : Int) ≤ (t : Int) := by omega
  have i4 : (t : Int) ≤ (len : Int) := by omega
  have i5 : (len : Int) ≤ (cap : Int) := by omega
  have i6 : (t : Int) ≤ (cap : Int) := by omega
  clear hdrop hp hpt hi
  go_wp2_with fail
  have HWT := hide (show ∃ ta : Option Addr, ta = (if cap = t then some ⟨wb, wo, none⟩ else some ⟨wb, wo + t, none⟩) ∧ Wd w2.drew ta (word.drop t) from by
    refine ⟨_, rfl, ?_⟩
    by_cases hct : cap = t
    · have : word.drop t = [] := List.drop_of_length_le (by rw [HZ.out]; omega)
      rw [this]
      exact fun i c hc => by simp at hc
    · rw [if_neg hct]
      have h1 := wd_drop HW2.out t
      rw [Option.map_some, add_at] at h1
      exact h1)
  obtain ⟨ta, hta, hWT⟩ := HWT.out
  have hLT : (word.drop t).length = len - t := by rw [List.length_drop, HZ.out]
  obtain ⟨cx, hcx⟩ : ∃ cx, cx = (if cap = t then 0 else cap - t) := ⟨_, rfl⟩
  have hcx1 : len - t ≤ cx ∧ cx ≤ maxLen := by rw [hcx]; split <;> omega
  obtain ⟨qs, hql, hqs, hcall2⟩ := cutc_any a0 a1 n0 n1 c0 c1 nx ru ta (len - t) cx (word.drop t) w2.drew (dm_below' (ubelow_drew1 w2) HD2.out) hLT hcx1.1 hcx1.2 (by omega) hWT
  rw [hrt, if_pos rfl] at hqs
  have HQS := hide hqs
  have HC2 := hide hcall2
  have HTA := hide (And.intro hta hcx)
  have HLO2 := hide (show LgOk (fun a => longR nx ru (word.drop t) (a : Int)) (len - t) from by have h := long_ok nx ru (word.drop t); rw [hLT] at h; exact h)
  have HDR2 := hide (show ps.drop (i + 1) = qs.map (shP t) from by rw [HDR.out, hLT, ← hqs])
  clear hqs hcall2 hta hcx hcx1 hWT HWT HDR q0 q1 q2
  obtain ⟨p0, p1, -⟩ := d_cells HX2.out
  obtain ⟨hta2, hcx2⟩ := HTA.out
  clear HTA
  by_cases hct : cap = t
  all_goals
    simp [hct] at hta2 hcx2
    subst hta2 hcx2
    go_region_held3 (fun w' => w'.cell? ⟨B, 0, none⟩ = some (.slice a0 n0 c0) ∧ w'.cell? ⟨B, 1, none⟩ = some (.slice a1 n1 c1)) (first | assumption | go_keep) ((go_at_call 8; refine HC2.out.mono ?_; rintro e w3 ⟨qa, qc, rfl, hseg3, hb3⟩; have HX3 := hide (((ubelow_drew1 w2).trans hb3).block B HQ2.out |>.trans HX2.out); have k8 := d_cells HX3.out; have k9 := And.intro k8.1 k8.2.1))
    have HP3 := hide (segP_below ((ubelow_drew1 w2).trans hb3) HP2.out)
    have HB3 := hide (HB2.out.trans (((ubelow_drew1 w2).trans hb3).mono (by have := HQ2.out; omega)))
    have HQ3 := hide hseg3
    have HBQ3 := hide (show B ≤ w3.heap.size by have := HB3.out.size; have := hb3.size; have := HQ2.out; simp at *; omega)
    have hlen2 : qs.length + i + 1 = n := by
      have := congrArg List.length HDR2.out
      rw [List.length_drop, List.length_map, HN.out] at this
      omega
    obtain ⟨nq, hnq⟩ : ∃ nq, qs.length = nq := ⟨_, rfl⟩
    have HNQ := hide hnq
    rw [hnq] at hlen2
    have hql2 : nq ≤ len - t := by rw [← hnq]; exact hql
    have hne : ((nq : Int) != (n : Int) - (i : Int) - 1) = false := by simp; omega
    rw [hnq]
    clear hb3 hseg3 k9 p0 p1 HC2 hnq
    go_wp2_with fail
    go_loopw [11] (fun u wr => ∃ j : Nat, j ≤ nq ∧ u = .int .i64 j ∧ Below w3.heap.size w3 wr) (fun u _ => nq - (intOf u).toNat)
    case atStart => exact ⟨0, Nat.zero_le _, rfl, Below.refl _ _⟩
    case round =>
      obtain ⟨j, hj, rfl, hb⟩ := hrel
      have HBW := hide hb
      clear hb
      by_cases hlt : j < nq
      · first
          | (exfalso; omega)
          | (obtain ⟨y, hy⟩ : ∃ y, qs[j]? = some y := ⟨_, List.getElem?_eq_getElem (by rw [HNQ.out]; exact hlt)⟩
             obtain ⟨fu, tu, hfu, htu, huv, huv2⟩ := cut_rng HLO2.out (len - t) 0 y (by have := List.mem_of_getElem? hy; rw [HQS.out] at this; exact this)
             have hx : ps[i + 1 + j]? = some (shP t y) := by
               have h := congrArg (fun l => l[j]?) HDR2.out
               simp only [List.getElem?_drop, List.getElem?_map, hy, Option.map_some] at h
               exact h
             obtain ⟨yf, yt, yr⟩ := y
             simp only at hfu htu
             subst hfu htu
             obtain ⟨b2, o2, e2, c0, c1, c2⟩ := segP_below HBW.out HQ3.out j _ hy
             obtain ⟨b3, o3, e3, d0, d1, d2⟩ := segP_below HBW.out HP3.out (i + 1 + j) _ hx
             obtain ⟨rfl, rfl, -⟩ := Addr.mk.inj (Option.some.inj e3)
             subst e2
             have d0' : wr.cell? ⟨pb, po + (i + 1 + j) * 3, none⟩ = some (.int .i64 ((fu : Int) + (t : Int))) := d0
             have d1' : wr.cell? ⟨pb, po + (i + 1 + j) * 3 + 1, none⟩ = some (.int .i64 ((tu : Int) + (t : Int))) := d1
             have d2' : wr.cell? ⟨pb, po + (i + 1 + j) * 3 + 2, none⟩ = some (.int .i64 yr) := d2
             obtain ⟨ix, hix⟩ : ∃ ix, i + 1 + j = ix := ⟨_, rfl⟩
             have hix2 : (i : Int) + 1 + (j : Int) = (ix : Int) := by omega
             rw [hix] at d0' d1' d2'
             have j1 : (0 : Int) ≤ (ix : Int) := by omega
             have j2 : (ix : Int) < (n : Int) := by omega
             have j3 : (0 : Int) ≤ (j : Int) := by omega
             have j4 : (j : Int) < (nq : Int) := by omega
             have HX4 := hide (heap_alloc_last wr (.cells #[.int .i64 ((fu : Int) + (t : Int)), .int .i64 ((tu : Int) + (t : Int)), .int .i64 yr] 30))
             have HB4 := hide (HBW.out.alloc HBW.out.size (.cells #[.int .i64 ((fu : Int) + (t : Int)), .int .i64 ((tu : Int) + (t : Int)), .int .i64 yr] 30))
             have c0' := cell_allocU c0 (.cells #[.int .i64 ((fu : Int) + (t : Int)), .int .i64 ((tu : Int) + (t : Int)), .int .i64 yr] 30)
             have c1' := cell_allocU c1 (.cells #[.int .i64 ((fu : Int) + (t : Int)), .int .i64 ((tu : Int) + (t : Int)), .int .i64 yr] 30)
             have c2' := cell_allocU c2 (.cells #[.int .i64 ((fu : Int) + (t : Int)), .int .i64 ((tu : Int) + (t : Int)), .int .i64 yr] 30)
             have bn1 : (((fu : Int) + (t : Int)) != ((fu : Int) + (t : Int))) = false := by simp
             have bn2 : (((tu : Int) + (t : Int)) != ((tu : Int) + (t : Int))) = false := by simp
             have bn3 : (yr != yr) = false := by simp
             clear hy hx d0 d1 d2 c0 c1 c2
             go_wp2_with fail
             generalize wr.alloc (.cells #[.int .i64 ((fu : Int) + (t : Int)), .int .i64 ((tu : Int) + (t : Int)), .int .i64 yr] 30) = wX at *
             obtain ⟨zz, hzz⟩ : ∃ zz, wr.heap.size = zz := ⟨_, rfl⟩
             rw [hzz] at HX4 ⊢
             clear hzz
             obtain ⟨e0, e1, e2, -⟩ := p_cells HX4.out
             clear d0' d1' d2'
             go_quiet (fail)
             go_wp2
             go_roundw
             case rel => exact ⟨j + 1, by omega, by go_num, below_drewN HB4.out _⟩
             case measure => simp [intOf]; omega)
      · have e : j = nq := by omega
        subst e
        have HF := hide (HB3.out.trans (HBW.out.mono HBQ3.out))
        go_wp2
        go_ret
        exact ⟨rfl, by first | exact HF.out | (rw [HBB.out]; exact HF.out)⟩
end Go.Proofs.YtbbfjjjnifomgaaGreatDoor.A
