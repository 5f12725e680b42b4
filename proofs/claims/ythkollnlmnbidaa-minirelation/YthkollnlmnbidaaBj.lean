/- The document's Small. -/
import Derived.Test.YthkollnlmnbidaaBi
namespace Go.Proofs.Ythkollnlmnbidaa.A
open Go.RowKit
set_option linter.unusedVariables false
attribute [local go_sem ↓] wp_build25s wp_load63s
attribute [local go_sem] isBlk_agg cells_agg rowM_drew rowMok_drew

/-- What Small tells. -/
def ResS (w : World) (σ : List (List Int) × List (List Int) × List Int) (e : Ending) (w' : World) : Prop :=
  ∃ b0 b1 d0 d1, e = .returned (.agg #[.slice b0 σ.2.1.length d0, .slice b1 σ.2.2.length d1]) ∧ Dr w' b0 σ.2.1 ∧ Wd w' b1 σ.2.2 ∧ Below w.heap.size w w'
theorem info41' : (Try.prog.info? 41).map (fun i => (i.zero, i.size, i.bytes)) = some (some (.agg (Array.replicate 16 (.int .i64 0))), 16, 128) := by kernel_rfl

set_option maxRecDepth 100000 in
set_option maxHeartbeats 6400000 in
theorem small_any (a0 a1 : Option Addr) (n c0 c1 : Nat) (nx : List (List Int)) (ru : List Int) (w : World) (hx : Mx nx ru n) (hm : Dm w a0 a1 n n nx ru) :
    Calls Try.prog 17 #[.agg #[.slice a0 n c0, .slice a1 n c1]] w fun e w' => ∃ A g, IsAlk nx ru n A ∧ IsLive nx ru n g ∧ ResS w (stF (trM nx A g n) (lsM ru) (clsM A n 0) 201) e w' := by
  obtain ⟨i38, hi38, hz38, hs38, hb38⟩ := info_parts info41'
  obtain ⟨i3, hi3, hz3, hs3, hb3⟩ := info_parts info3
  have hn2 := hx.most
  have hn1 := hx.pos
  have HBX := hide (heap_alloc_last w (.cells #[.slice a0 n c0, .slice a1 n c1] 25))
  have hb0 := (Below.refl w.heap.size w).alloc (Nat.le_refl _) (.cells #[.slice a0 n c0, .slice a1 n c1] 25)
  have HB0 := hide hb0
  have HM := hide (dm_below' hb0 hm)
  have HX := hide hx
  have HS := hide (show (w.alloc (.cells #[.slice a0 n c0, .slice a1 n c1] 25)).heap.size = w.heap.size + 1 by simp)
  have HN2 := hide (nil2 (w.alloc (.cells #[.slice a0 n c0, .slice a1 n c1] 25)))
  have HBN := hide ((Below.refl (w.alloc (.cells #[.slice a0 n c0, .slice a1 n c1] 25)).heap.size (w.alloc (.cells #[.slice a0 n c0, .slice a1 n c1] 25))).alloc (Nat.le_refl _) (.cells #[.slice none 0 0, .slice none 0 0] 25))
  have HSN := hide (show ((w.alloc (.cells #[.slice a0 n c0, .slice a1 n c1] 25)).alloc (.cells #[.slice none 0 0, .slice none 0 0] 25)).heap.size = w.heap.size + 2 by simp)
  clear hb0 hm hx
  go_enter Try.func17, Try.ntmps17
  go_upto_region 1 with fail
  generalize w.alloc (.cells #[.slice a0 n c0, .slice a1 n c1] 25) = W1 at *
  generalize W1.alloc (.cells #[.slice none 0 0, .slice none 0 0] 25) = W2 at *
  rw [HS.out] at HN2 HBN
  have HW2 := hide (show ∀ wr, Below W2.heap.size W2 wr → (wr.cell? ⟨w.heap.size, 0, none⟩ = some (.slice a0 n c0) ∧ wr.cell? ⟨w.heap.size, 1, none⟩ = some (.slice a1 n c1)) ∧ Dm wr a0 a1 n n nx ru ∧ wr.heap[w.heap.size + 1]? = some (.cells #[.slice none 0 0, .slice none 0 0] 25 (0, 0)) from fun wr hb => by
    have hs := HSN.out
    have h0 : Below (w.heap.size + 1) W1 wr := HBN.out.trans (hb.mono (by omega))
    have h1 := (h0.block w.heap.size (by omega)).trans HBX.out
    obtain ⟨q0, q1, -⟩ := d_cells h1
    exact ⟨⟨q0, q1⟩, dm_below' (by rw [HS.out]; exact h0) HM.out, (hb.block _ (by omega)).trans HN2.out⟩)
  go_cut [3, 4] from 12 to 15 (fun s3 s4 wx => ∃ (A : Nat → Nat → Bool) (g : Nat → Bool) (va ad : Option Addr) (ca cd : Nat) (vs : List Value), IsAlk nx ru n A ∧ IsLive nx ru n g ∧ s3 = .slice va n ca ∧ s4 = .slice ad n cd ∧ Rows1 wx W2.heap.size n n (.slice va n ca) vs A ∧ Br wx ad n (fun j => !g j) ∧ Below W2.heap.size W2 wx)
  case first =>
    obtain ⟨⟨p0, p1⟩, -, -⟩ := HW2.out W2 (Below.refl _ _)
    go_region_held3 (fun w' => w'.cell? ⟨w.heap.size, 0, none⟩ = some (.slice a0 n c0) ∧ w'.cell? ⟨w.heap.size, 1, none⟩ = some (.slice a1 n c1)) (first | assumption | go_keep) ((first
      | (go_at_call 14; refine (dead_any a0 a1 n c0 c1 nx ru w5 HX.out (HW2.out w5 HB5.out).2.1).mono ?_; rintro e w6 ⟨g6, v6, hlv6, rfl, ho6, hb6⟩; obtain ⟨ad, cd, rfl, hbr6⟩ := own_br ho6; have HB6 := hide (HB5.out.trans (hb6.mono HB5.out.size)); have HRW6 := hide (rows1_below hb6 HRW5.out); have HLV6 := hide hlv6; have HBR6 := hide hbr6; have k9 := (HW2.out w6 HB6.out).1)
      | (go_at_call 13; refine (alike_any a0 a1 n c0 c1 nx ru W2.drew HX.out (HW2.out _ (below_drew1 W2)).2.1).mono ?_; rintro e w5 ⟨A5, v5, vs5, hal5, rfl, hrw5, hb5⟩; obtain ⟨va, ca, rfl⟩ := own_form hrw5.1; have HB5 := hide ((below_drew1 W2).trans hb5); have HRW5 := hide hrw5; have HAL5 := hide hal5; have k8 := (HW2.out w5 HB5.out).1)))
    all_goals
      go_wp2_with fail
      go_meet
      exact ⟨A5, g6, va, ad, ca, cd, vs5, HAL5.out, HLV6.out, rfl, rfl, HRW6.out, HBR6.out, HB6.out⟩
  case rest =>
  obtain ⟨wP, rfl⟩ : ∃ y, y = wc := ⟨_, rfl⟩
  obtain ⟨A, g, va, ad, ca, cd, vs, hal, hlv, rfl, rfl, hrw, hbr, hbc⟩ := hcut
  have HAL := hide hal
  have HLV := hide hlv
  have HBC := hide hbc
  have HW3 := hide (show ∀ wr, Below wP.heap.size wP wr → (wr.cell? ⟨w.heap.size, 0, none⟩ = some (.slice a0 n c0) ∧ wr.cell? ⟨w.heap.size, 1, none⟩ = some (.slice a1 n c1)) ∧ Dm wr a0 a1 n n nx ru ∧ wr.heap[w.heap.size + 1]? = some (.cells #[.slice none 0 0, .slice none 0 0] 25 (0, 0)) ∧ Rows1 wr W2.heap.size n n (.slice va n ca) vs A ∧ Br wr ad n (fun j => !g j) from fun wr hb => by
    obtain ⟨h1, h2, h3⟩ := HW2.out wr (hbc.trans (hb.mono hbc.size))
    exact ⟨h1, h2, h3, rows1_below hb hrw, br_below hb hbr⟩)
  have hs1 : (wP.alloc (.cells #[.int .i64 0] 3)).heap.size = wP.heap.size + 1 := by simp
  have HFV := hide (show ((wP.alloc (.cells #[.int .i64 0] 3)).alloc (.cells #[.slice none 0 0, .slice none 0 0] 25)).ownsRow wP.heap.size 3 1 (.slice (some ⟨wP.heap.size, 0, none⟩) 1 1) 1 [.int .i64 0] from (own_one wP wP.heap.size (.int .i64 0) 3 (Nat.le_refl _)).alloc _)
  have HSM := hide (show Sm ((wP.alloc (.cells #[.int .i64 0] 3)).alloc (.cells #[.slice none 0 0, .slice none 0 0] 25)) wP.heap.size n (wP.heap.size + 1) A (.slice (some ⟨wP.heap.size, 0, none⟩) 1 1) (.slice none 0 0) (.slice none 0 0) [0] [clsM A n 0] [] [] from
    ⟨HFV.out, rfl, fun i z s hz hs => by
      cases i with
      | zero =>
        have h1 : (0 : Int) = z := by simpa using hz
        have h2 : clsM A n 0 = s := by simpa using hs
        exact ⟨0, by omega, by omega, h2.symm⟩
      | succ i => simp at hz, by rw [← hs1]; exact heap_alloc_last _ _, by omega, World.ownsRow_nil _ _ _ _, World.ownsRow_nil _ _ _ _, fun k _ h => by simp [Value.ownBlock] at h⟩)
  have HB7 := hide (((Below.refl wP.heap.size wP).alloc (Nat.le_refl _) (.cells #[.int .i64 0] 3)).alloc (by simp) (.cells #[.slice none 0 0, .slice none 0 0] 25))
  have HS1 := hide hs1
  clear hal hlv hrw hbr hbc HFV hs1
  go_wp2_with fail
  generalize (wP.alloc (.cells #[.int .i64 0] 3)).alloc (.cells #[.slice none 0 0, .slice none 0 0] 25) = W7 at *
  clear HS1
  generalize hB : wP.heap.size = B at *
  generalize hd : B + 1 = d at *
  have HTR := hide (fun (s c : Nat) (hs : s < n) => trM_cls HX.out HAL.out HLV.out hs c)
  have HLN := hide (fun m => stM_len HX.out HAL.out HLV.out m)
  have HLS := hide (fun (s : Nat) (hs : s < n) (r : Int) (hr : ru[s]? = some r) => lsM_cls HX.out HAL.out hs hr)
  have HND := hide (fun m => st_nodup (tr := trM nx A g n) (ls := lsM ru) (start := clsM A n 0) m)
  generalize hst : clsM A n 0 = start at *
  generalize hls : lsM ru = ls at *
  generalize htr : trM nx A g n = tr at *
  go_loopw [5, 7] (fun fv i wr => ∃ (k : Nat) (nv rv : Value) (fd : List Int), i = .int .i64 k ∧ k ≤ 200 ∧ (∀ j, j < k → j < (stF tr ls start j).1.length) ∧ Sm wr B n d A fv nv rv fd (stF tr ls start k).1 (stF tr ls start k).2.1 (stF tr ls start k).2.2 ∧ Below B wP wr) (fun _ i _ => 201 - (intOf i).toNat)
  case atStart => exact ⟨0, _, _, _, rfl, by omega, fun j hj => by omega, HSM.out, HB7.out⟩
  case round =>
    obtain ⟨k, nv, rv, fd, rfl, hk2, hlow, hsm, hbw⟩ := hrel
    have HSM' := hide hsm
    have HBW := hide hbw
    have HLOW := hide hlow
    obtain ⟨hl1', hl2'⟩ := st_len k hlow
    have HL1 := hide hl1'
    have HL2 := hide hl2'
    have hlen := HLN.out k
    clear hsm hbw hlow HSM HB7 hl1' hl2'
    by_cases hlt : k < (stF tr ls start k).1.length
    · obtain ⟨s, hsk⟩ : ∃ s, (stF tr ls start k).1[k]? = some s := ⟨_, List.getElem?_eq_getElem hlt⟩
      have hvl := HSM'.out.len
      obtain ⟨z0, hvk⟩ : ∃ z, fd[k]? = some z := ⟨_, List.getElem?_eq_getElem (by rw [hvl]; exact hlt)⟩
      obtain ⟨t, rfl, htn, hst2⟩ := HSM'.out.cls k z0 s hvk hsk
      have HST := hide (st_some (ls := ls) hsk)
      have HHS := hide hsk
      have HVK := hide hvk
      have HKL := hide hlt
      have HSE := hide hst2
      have hBle : B ≤ wr.heap.size := by have h1 := HBW.out.size; omega
      have HRB := hide hBle
      have HNV := hide (show nv.ownBlock ≠ some wr.heap.size from fun e => by
        have := (own_type HSM'.out.n' e).2.1
        omega)
      obtain ⟨hv38, hi38'⟩ := zero_of_info zero63
      rw [rowG_zero] at hv38
      have HSMA := hide (sm_below ((Below.refl _ _).alloc (Nat.le_refl _) (.cells (rowG fun _ => 0) 41)) HSM'.out)
      have HBWA := hide (HBW.out.alloc hBle (.cells (rowG fun _ => 0) 41))
      have HRGA := hide (show Rg (wr.alloc (.cells (rowG fun _ => 0) 41)) wr.heap.size (fun _ => 0) from heap_alloc_last _ _)
      obtain ⟨ns, hns⟩ : ∃ ns, fd.length = ns := ⟨_, rfl⟩
      have i4'' : (k : Int) < (ns : Int) := by omega
      obtain ⟨xs0, xc0, hsv⟩ := own_form HSM'.out.f
      rw [hns] at hsv
      subst hsv
      clear hsk hvk hst2
      go_wp2_with fail
      generalize hwr : wr.alloc (.cells (rowG fun _ => 0) 41) = WA at *
      generalize hrb : wr.heap.size = rb at *
      clear hv38 hi38' hwr i4'' hvl hlt hns hBle
      go_loopw [5, 9] (fun fv2 c wr2 => ∃ (m : Nat) (fd2 : List Int), m ≤ 16 ∧ c = .int .i64 m ∧ Rg wr2 rb (fnL (rowF tr s (stF tr ls start k).1 m).2) ∧ Sm wr2 B n d A fv2 nv rv fd2 (rowF tr s (stF tr ls start k).1 m).1 (stF tr ls start k).2.1 (stF tr ls start k).2.2 ∧ fd2[k]? = some (t : Int) ∧ Below B wP wr2) (fun _ c _ => 16 - (intOf c).toNat)
      case atStart => exact ⟨0, fd, by omega, rfl, HRGA.out, HSMA.out, HVK.out, HBWA.out⟩
      case round =>
        obtain ⟨m, fd2, hm16, rfl, hrg, hsm2, hvk2, hbw2⟩ := hrel
        have HRG := hide hrg
        have HSM2 := hide hsm2
        have HVK2 := hide hvk2
        have HBW2 := hide hbw2
        clear hrg hsm2 hvk2 hbw2 HRGA HSMA HBWA
        by_cases hmlt : m < 16
        · have i5 : (0 : Int) ≤ (m : Int) := by omega
          have i6 : (m : Int) < 16 := by omega
          obtain ⟨r5, f5⟩ := rg_cell HRG.out hmlt
          have HRG1 := hide (rg_set HRG.out hmlt (-1))
          have HSM3 := hide (sm_row HSM2.out HRG.out HNV.out m (.int .i64 (-1)))
          have HBW3 := hide (HBW2.out.setCell (p := ⟨rb, m, none⟩) HRB.out (.int .i64 (-1)))
          obtain ⟨n2, hn2⟩ : ∃ n2, fd2.length = n2 := ⟨_, rfl⟩
          have hkn : k < n2 := by rw [← hn2]; exact (List.getElem?_eq_some_iff.1 HVK2.out).1
          have hn216 : n2 ≤ 216 := by
            obtain ⟨r, hr, hrl⟩ := row_pre tr s (stF tr ls start k).1 m
            have h1 := HSM3.out.len
            rw [hr, List.length_append, hn2] at h1
            omega
          obtain ⟨gs, cs, esv, hbgs, hlgs⟩ := HSM3.out.f.form (by omega)
          rw [hn2] at esv
          subst esv
          have ho2 := HSM3.out.f
          rw [hn2] at ho2
          have ek := ho2.cellAt k (by omega)
          rw [List.getElem?_map, HVK2.out] at ek
          replace ek : _ = some (Value.int .i64 (t : Int)) := ek
          have HN2' := hide hn2
          have i7 : (0 : Int) ≤ (k : Int) := by omega
          have i8 : (k : Int) < (n2 : Int) := by omega
          obtain ⟨row, z, hrow, hrl, hz, hz1, hz2, hstep⟩ := mx_next HX.out htn hmlt
          obtain ⟨⟨p0, p1⟩, hdm, -⟩ := HW3.out _ HBW3.out
          obtain ⟨b, off, rfl, k0⟩ := dr_cell hdm.dr hrow hz
          have HSTEP := hide hstep
          have i9 : (0 : Int) ≤ (t : Int) := by omega
          have i10 : (t : Int) < (n : Int) := by omega
          clear hn2 ho2 hrow hrl hz hstep hdm
          go_upto_region 12 with fail
          generalize wr.setCell ⟨rb, m, none⟩ (.int .i64 (-1)) = wA at *
          clear r5 f5 HRG HSM2 HBW2
          go_quiet (fail)
          have HDQ := hide (below_drewN (Below.refl wA.heap.size wA) nq)
          have HSM4 := hide (sm_below HDQ.out HSM3.out)
          have HRG4 := hide (rg_below HDQ.out HRG1.out)
          have HBW4 := hide (HBW3.out.trans (HDQ.out.mono (by have h1 := HBW3.out.size; omega)))
          generalize wA.drewN nq = wB at *
          clear HSM3 HRG1 HBW3 HDQ p0 p1 ek k0 hlgs
          have htr2 : tr s m = clsD A g n z := by rw [HSE.out, HTR.out t m htn, HSTEP.out]
          by_cases hz0 : z < 0
          · have dz : decide (z < 0) = true := by simp [hz0]
            have HFN := hide (find_none (rowF tr s (stF tr ls start k).1 m).1 (htr2.trans (clsD_nil (.inl hz0))))
            clear htr2
            go_wp2
            go_roundw
            case rel => exact ⟨m + 1, fd2, by omega, by go_num, rg_step HFN.out HRG4.out (fun j _ => rfl), by rw [row_step HFN.out]; exact HSM4.out, HVK2.out, HBW4.out⟩
            case measure => simp [intOf]; omega
          · obtain ⟨t', rfl⟩ : ∃ t' : Nat, z = t' := ⟨z.toNat, by omega⟩
            have htn' : t' < n := by omega
            have dz : decide ((t' : Int) < 0) = false := by simp
            have j1 : (0 : Int) ≤ (t' : Int) := by omega
            have j2 : (t' : Int) < (n : Int) := by omega
            obtain ⟨-, -, -, hrw4, hbr4⟩ := HW3.out wB HBW4.out
            obtain ⟨bd, od, rfl, k1⟩ := hbr4 t' htn'
            replace k1 : _ = some (Value.bool (!g t')) := k1
            clear hrw4 hbr4
            cases hgt : g t'
            · rw [hgt] at k1
              have HFN := hide (find_none (rowF tr s (stF tr ls start k).1 m).1 (htr2.trans (clsD_nil (.inr (by rw [show ((t' : Nat) : Int).toNat = t' by omega]; exact hgt)))))
              clear htr2 hgt
              go_wp2
              go_roundw
              case rel => exact ⟨m + 1, fd2, by omega, by go_num, rg_step HFN.out HRG4.out (fun j _ => rfl), by rw [row_step HFN.out]; exact HSM4.out, HVK2.out, HBW4.out⟩
              case measure => simp [intOf]; omega
            · rw [hgt] at k1
              have HTM := hide (htr2.trans (clsD_live HAL.out htn' hgt))
              have HNE := hide (show clsM A n t' ≠ [] from fun e => by have := cls_self HAL.out htn'; rw [e] at this; cases this)
              have HL5 := hide (show n2 = (rowF tr s (stF tr ls start k).1 m).1.length by have := HSM4.out.len; rw [HN2'.out] at this; exact this)
              have HNDR := hide (show (rowF tr s (stF tr ls start k).1 m).1.Nodup from row_nodup (HND.out k) s m)
              clear htr2 hgt
              go_wp2_with fail
              clear k1
              go_loopw [11] (fun j wr4 => ∃ (y : Nat) (z : Int), y ≤ n2 ∧ j = .int .i64 y ∧ Seen (rowF tr s (stF tr ls start k).1 m).1 (clsM A n t') y z ∧ Rg wr4 rb (fun i => if i = m then z else fnL (rowF tr s (stF tr ls start k).1 m).2 i) ∧ Sm wr4 B n d A (.slice (some ⟨gs, 0, none⟩) n2 cs) nv rv fd2 (rowF tr s (stF tr ls start k).1 m).1 (stF tr ls start k).2.1 (stF tr ls start k).2.2 ∧ Below B wP wr4) (fun j _ => n2 - (intOf j).toNat)
              case atStart => exact ⟨0, -1, Nat.zero_le _, rfl, seen_zero _ _, HRG4.out, HSM4.out, HBW4.out⟩
              case round =>
                obtain ⟨y, zz, hy, rfl, hseen, hrg, hsm, hbw⟩ := hrel
                obtain ⟨r6, f6⟩ := rg_cell hrg hmlt
                rw [if_pos rfl] at r6
                have HSN := hide hseen
                have HRG6 := hide hrg
                have HSM6 := hide hsm
                have HBW6 := hide hbw
                obtain ⟨hzz1, hzz2⟩ := seen_rng hseen
                clear hseen hrg hsm hbw HRG4 HSM4 HBW4
                by_cases hyl : y < n2
                · obtain ⟨fy, hfy⟩ : ∃ z, fd2[y]? = some z := ⟨_, List.getElem?_eq_getElem (by rw [HN2'.out]; exact hyl)⟩
                  obtain ⟨sy, hsy⟩ : ∃ sx, (rowF tr s (stF tr ls start k).1 m).1[y]? = some sx := ⟨_, List.getElem?_eq_getElem (by rw [← HL5.out]; exact hyl)⟩
                  obtain ⟨ty, rfl, hty, hsye⟩ := HSM6.out.cls y fy sy hfy hsy
                  have ho6 := HSM6.out.f
                  rw [HN2'.out] at ho6
                  have ex := ho6.cellAt y (by omega)
                  rw [List.getElem?_map, hfy] at ex
                  replace ex : _ = some (Value.int .i64 (ty : Int)) := ex
                  obtain ⟨-, -, -, hrw6, -⟩ := HW3.out wr HBW6.out
                  obtain ⟨ga, cga, eva, -, -⟩ := hrw6.1.form (by omega)
                  have hvs := hrw6.1
                  rw [eva] at hvs
                  have hvl : vs.length = n := by have := hrw6.1.1; omega
                  obtain ⟨u, hu⟩ : ∃ u, vs[ty]? = some u := ⟨_, List.getElem?_eq_getElem (by rw [hvl]; exact hty)⟩
                  obtain ⟨Fu, rfl, hmu⟩ := hrw6.2 ty u hu
                  have ev := hvs.cellAt ty (by omega)
                  rw [hu] at ev
                  obtain ⟨mu0, -⟩ := mk_cell hmu htn'
                  obtain ⟨rfl, -, rfl⟩ := Value.slice.inj eva
                  have j3 : (0 : Int) ≤ (y : Int) := by omega
                  have j4 : (y : Int) < (n2 : Int) := by omega
                  have j5 : (0 : Int) ≤ (ty : Int) := by omega
                  have j6 : (ty : Int) < (n : Int) := by omega
                  have HIF := hide (cls_iff HAL.out hty htn')
                  have HSY := hide hsy
                  have HSYE := hide hsye
                  clear hfy hsy hsye ho6 hrw6 eva hvs hvl hu hmu
                  cases hA : A ty t'
                  · rw [hA] at mu0
                    have hne : sy ≠ clsM A n t' := fun e => by
                      have := HIF.out.1 (HSYE.out.symm.trans e)
                      rw [hA] at this; cases this
                    have HSN2 := hide (show Seen (rowF tr s (stF tr ls start k).1 m).1 (clsM A n t') (y + 1) zz from by
                      by_cases h0 : 0 ≤ zz
                      · exact (seen_keep h0 HSN.out HNDR.out HSY.out).2
                      · have e : zz = -1 := by omega
                        rw [e]
                        exact seen_no (e ▸ HSN.out) HSY.out hne)
                    clear hA hne
                    go_wp2
                    go_roundw
                    case rel => exact ⟨y + 1, zz, by omega, by go_num, HSN2.out, HRG6.out, HSM6.out, HBW6.out⟩
                    case measure => simp [intOf]; omega
                  · rw [hA] at mu0
                    have hye : sy = clsM A n t' := HSYE.out.trans (HIF.out.2 hA)
                    have ezz : zz = -1 := by
                      by_cases h0 : 0 ≤ zz
                      · exact absurd hye (seen_keep h0 HSN.out HNDR.out HSY.out).1
                      · omega
                    have HSN2 := hide (seen_yes (ezz ▸ HSN.out) (hye ▸ HSY.out))
                    have HRG8 := hide (rg_congr (rg_set HRG6.out hmlt (y : Int)) (f' := fun i => if i = m then (y : Int) else fnL (rowF tr s (stF tr ls start k).1 m).2 i) (fun j _ => by by_cases e : j = m <;> simp [e]))
                    have HSM8 := hide (sm_row HSM6.out HRG6.out HNV.out m (.int .i64 (y : Int)))
                    have HBW8 := hide (HBW6.out.setCell (p := ⟨rb, m, none⟩) HRB.out (.int .i64 (y : Int)))
                    clear hA hye ezz
                    go_wp2
                    go_roundw
                    case rel => exact ⟨y + 1, (y : Int), by omega, by go_num, HSN2.out, HRG8.out, HSM8.out, HBW8.out⟩
                    case measure => simp [intOf]; omega
                · have ey : y = n2 := by omega
                  by_cases hzz : zz < 0
                  · have ezz : zz = -1 := by omega
                    subst ezz
                    have HFN := hide (show findF (rowF tr s (stF tr ls start k).1 m).1 (tr s m) = ((rowF tr s (stF tr ls start k).1 m).1 ++ [clsM A n t'], (y : Int)) by
                      rw [HTM.out, ey, HL5.out]
                      exact seen_end HNE.out (by rw [← HL5.out, ← ey]; exact HSN.out))
                    have HRG8 := hide (rg_congr (rg_set HRG6.out hmlt (y : Int)) (f' := fun i => if i = m then (y : Int) else fnL (rowF tr s (stF tr ls start k).1 m).2 i) (fun j _ => by by_cases e : j = m <;> simp [e]))
                    have HSM8 := hide (sm_row HSM6.out HRG6.out HNV.out m (.int .i64 (y : Int)))
                    have HBW8 := hide (HBW6.out.setCell (p := ⟨rb, m, none⟩) HRB.out (.int .i64 (y : Int)))
                    subst ey
                    go_upto_region 21 with fail
                    generalize wr.setCell ⟨rb, m, none⟩ (.int .i64 (y : Int)) = wE at *
                    clear r6 f6 HRG6 HSM6 HBW6
                    have HOW := hide (show wE.ownsRow B 3 1 (.slice (some ⟨gs, 0, none⟩) y cs) y (fd2.map (Value.int .i64)) from by
                      have := HSM8.out.f
                      rw [HN2'.out] at this
                      exact this)
                    have HSZ := hide (show B ≤ (wE.alloc (.cells #[.int .i64 (t' : Int)] 3)).heap.size by have h1 := HBW8.out.size; simp; omega)
                    go_wp2_with (first
                      | (at_builtin; refine wpList_append_lies _ rfl _ _ 23 rfl B 3 i3 (.int .i64 0) 1 8 Try.underlying23 hi3 hz3 hs3 hb3 rfl (by decide) _ y (fd2.map (Value.int .i64)) rfl (HOW.out.alloc _) ⟨_, 0, none⟩ 1 1 [.int .i64 (t' : Int)] rfl rfl (one_new _ _ _) (fun u hu => by simp only [List.mem_singleton] at hu; subst hu; rfl) (by decide) (by unfold maxLen; omega) (by omega) HSZ.out _ rfl ?_; intro g' cap' w3 hown3 hg3 hat3 hlt3))
                    have hsm9 := sm_app HSM8.out htn' hg3 (by rw [HN2'.out]; exact hown3) (by rcases hat3 with h | h; exact .inl h; right; have : (wE.alloc (.cells #[.int .i64 (t' : Int)] 3)).heap.size = wE.heap.size + 1 := by simp
                                                                                              omega)
                    rw [HN2'.out] at hsm9
                    have HSM9 := hide hsm9
                    have HRG9 := hide (show Rg w3 rb _ from ((hg3.block rb (by have := rg_lt HRG8.out; simp; omega) (fun e => own_not HOW.out HRG8.out (by decide) e.symm)).trans (Below.heap_alloc _ _ _ (rg_lt HRG8.out))).trans HRG8.out)
                    have HBW9 := hide ((HBW8.out.alloc (by have h1 := HBW8.out.size; omega) (.cells #[.int .i64 (t' : Int)] 3)).grown hg3 HSZ.out (fun kk hkk => (own_type HOW.out hkk).1))
                    clear hsm9 hown3 hg3 hat3
                    go_roundw
                    case rel => exact ⟨m + 1, _, by omega, by go_num, rg_step HFN.out HRG9.out (fun j _ => rfl), by rw [row_step HFN.out]; exact HSM9.out, by rw [List.getElem?_append_left (List.getElem?_eq_some_iff.1 HVK2.out).1]; exact HVK2.out, HBW9.out⟩
                    case measure => simp [intOf]; omega
                  · have hzf : decide (zz < 0) = false := by simp; omega
                    have HFN := hide (show findF (rowF tr s (stF tr ls start k).1 m).1 (tr s m) = ((rowF tr s (stF tr ls start k).1 m).1, zz) by rw [HTM.out]; exact seen_found HNE.out (by omega) HSN.out)
                    clear ey
                    go_wp2
                    go_roundw
                    case rel => exact ⟨m + 1, fd2, by omega, by go_num, rg_step HFN.out HRG6.out (fun j _ => rfl), by rw [row_step HFN.out]; exact HSM6.out, HVK2.out, HBW6.out⟩
                    case measure => simp [intOf]; omega
        · have em : m = 16 := by omega
          subst em
          obtain ⟨n2, hn2⟩ : ∃ n2, fd2.length = n2 := ⟨_, rfl⟩
          have hs2 : (rowF tr s (stF tr ls start k).1 16).1[k]? = some s := by
            obtain ⟨r, hr, _⟩ := row_pre tr s (stF tr ls start k).1 16
            rw [hr, List.getElem?_append_left (List.getElem?_eq_some_iff.1 HHS.out).1]; exact HHS.out
          have hkn : k < n2 := by rw [← hn2]; exact (List.getElem?_eq_some_iff.1 HVK2.out).1
          have hn216 : n2 ≤ 216 := by
            obtain ⟨r, hr, hrl⟩ := row_pre tr s (stF tr ls start k).1 16
            have h1 := HSM2.out.len
            rw [hr, List.length_append, hn2] at h1
            omega
          obtain ⟨gs, cs, esv, hbgs, hlgs⟩ := HSM2.out.f.form (by omega)
          rw [hn2] at esv
          subst esv
          have HN2' := hide hn2
          clear hn2
          obtain ⟨an, cn, hnv⟩ := own_form HSM2.out.n'
          rw [HL1.out] at hnv
          subst hnv
          obtain ⟨e0, e1, ez⟩ := d_cells HSM2.out.db
          have f0 := ez 0
          have hrl16 := row_len tr s (stF tr ls start k).1 16
          obtain ⟨rM1, rM2⟩ := rowM_at (rg_range HRG.out hrl16) (by rw [cI_len]; exact hrl16)
          have hcl : (cI (rowF tr s (stF tr ls start k).1 16).2).length = 16 := by rw [cI_len]; exact hrl16
          have hone : ∀ u ∈ cI (rowF tr s (stF tr ls start k).1 16).2, u.oneCell' = true := fun u hu => by
            obtain ⟨z, _, rfl⟩ := List.mem_map.1 hu
            rfl
          have HON := hide (show wr.ownsRow B 41 16 (.slice an k cn) k (cellsR (stF tr ls start k).2.1) from by
            have := HSM2.out.n'
            rw [HL1.out] at this
            exact this)
          obtain ⟨cx, hcx⟩ : ∃ cx, cI (rowF tr s (stF tr ls start k).1 16).2 = cx := ⟨_, rfl⟩
          have HCX := hide hcx
          rw [hcx] at rM1 hcl hone
          have HSZ := hide (show B ≤ (wr.alloc (.cells cx.toArray 41)).heap.size by have h1 := HBW2.out.size; simp; omega)
          have HDC := hide (fun (w3 : World) (hgr : (wr.alloc (.cells cx.toArray 41)).grownBy w3 (Value.slice an k cn).ownBlock) => show w3.cell? ⟨d, 0, none⟩ = some (.slice an k cn) ∧ w3.frozen? ⟨d, 0, none⟩ = false from by
            have hdl := sm_lt HSM2.out
            have h2 : w3.heap[d]? = some (.cells #[.slice an k cn, rv] 25 (0, 0)) := by
              rw [hgr.block d (by simp; omega) (fun e => own_not HON.out HSM2.out.db (by decide) e.symm), Below.heap_alloc _ _ _ hdl]; exact HSM2.out.db
            exact ⟨(d_cells h2).1, (d_cells h2).2.2 0⟩)
          have HS2 := hide hs2
          clear hcx hrl16 ez hs2
          go_upto_region 23 with (first
            | (at_builtin; refine wpList_append_lies _ rfl _ _ 22 rfl B 41 i38 (.agg (Array.replicate 16 (.int .i64 0))) 16 128 Try.underlying22 hi38 hz38 hs38 hb38 (by simp [Value.cells]) (by decide) _ k (cellsR (stF tr ls start k).2.1) rfl (HON.out.alloc _) ⟨_, 0, none⟩ 1 1 cx rfl (by omega) (World.news_of_block (cs := cx.toArray) (heap_alloc_last wr _)) hone (by decide) (by unfold maxLen; omega) (by omega) HSZ.out _ rfl ?_; intro g' cap' w3 hown3 hg3 hat3 hlt3; obtain ⟨g5, g6⟩ := HDC.out w3 hg3))
          have hsmN := sm_next (l := (rowF tr s (stF tr ls start k).1 16).2) HSM2.out hg3 (by rw [HL1.out, HCX.out]; exact hown3)
          rw [HL1.out] at hsmN
          have HSMN := hide hsmN
          have HBWN := hide (((HBW2.out.alloc (by have h1 := HBW2.out.size; omega) (.cells cx.toArray 41)).grown hg3 HSZ.out (fun kk hkk => (own_type HON.out hkk).1)).setCell (p := ⟨d, 0, none⟩) (show B ≤ d from HSM2.out.dlow) (.slice (some ⟨g', 0, none⟩) (k + 1) cap'))
          clear hsmN hown3 hg3 hat3 hlt3 e0 e1 f0 rM1 rM2 g5 g6 hcl hone HON HSZ HDC HSM2 HBW2 HRG
          generalize w3.setCell ⟨d, 0, none⟩ (.slice (some ⟨g', 0, none⟩) (k + 1) cap') = wF at *
          obtain ⟨ar, cr, hrv⟩ := own_form HSMN.out.r
          rw [HL2.out] at hrv
          obtain ⟨e0, e1, ez⟩ := d_cells HSMN.out.db
          have f1 := ez 1
          have ho2 := HSMN.out.f
          rw [HN2'.out] at ho2
          have ek := ho2.cellAt k (by omega)
          rw [List.getElem?_map, HVK2.out] at ek
          replace ek : _ = some (Value.int .i64 (t : Int)) := ek
          have i7 : (0 : Int) ≤ (k : Int) := by omega
          have i8 : (k : Int) < (n2 : Int) := by omega
          have i9 : (0 : Int) ≤ (t : Int) := by omega
          have i10 : (t : Int) < (n : Int) := by omega
          obtain ⟨⟨p0, p1⟩, hdm, -⟩ := HW3.out wF HBWN.out
          obtain ⟨r, hr, -, -, -⟩ := mx_rule HX.out htn
          obtain ⟨b2, o2, rfl, k2⟩ := hdm.wd t r hr
          have HLR := hide (show ls s = r from by rw [HSE.out]; exact HLS.out t htn r hr)
          have HRO := hide (show wF.ownsRow B 3 1 rv k ((stF tr ls start k).2.2.map (Value.int .i64)) from by
            have := HSMN.out.r
            rw [HL2.out] at this
            exact this)
          have HDC := hide (fun (o : Obj) (w7 : World) (hgr : (wF.alloc o).drew.grownBy w7 rv.ownBlock) => show w7.cell? ⟨d, 1, none⟩ = some rv ∧ w7.frozen? ⟨d, 1, none⟩ = false from by
            have hd5 := HSMN.out.db
            have hdl := (Array.getElem?_eq_some_iff.1 hd5).1
            have h2 : w7.heap[d]? = some (.cells #[.slice (some ⟨g', 0, none⟩) (k + 1) cap', rv] 25 (0, 0)) := by
              rw [hgr.block d (by show d < (wF.alloc o).heap.size; simp; omega) (fun e => own_not HSMN.out.r hd5 (by decide) e.symm)]
              exact (Below.heap_alloc wF o d hdl).trans hd5
            exact ⟨(d_cells h2).2.1, (d_cells h2).2.2 1⟩)
          have HSZ := hide (show B ≤ (wF.alloc (.cells #[.int .i64 r] 3)).drew.heap.size by have h1 := HBWN.out.size; show B ≤ (wF.alloc _).heap.size; simp; omega)
          clear ez ho2 hdm hr
          have u3 := fun o => cell_alloc e1 o
          subst hrv
          go_region_law ((refine step_append_lies _ (by rfl) (.tmp 85) (.tmp 94) 23 (by rfl) B 3 i3 (.int .i64 0) 1 8 Try.underlying23 hi3 hz3 hs3 hb3 rfl (by omega) (.slice ar k cr) k ((stF tr ls start k).2.2.map (Value.int .i64)) (by rfl) ((HRO.out.alloc _).drew) ⟨wF.heap.size, 0, none⟩ 1 1 [.int .i64 r] (by rfl) (by rfl) (fun j u h => one_new wF (.int .i64 r) 3 j u h) (fun u hu => by simp only [List.mem_singleton] at hu; subst hu; rfl) (by omega) (by unfold maxLen; omega) (by omega) HSZ.out (wF.heap.size + 1) (by simp) ?_; intro g'' cap'' w7 hown7 hgrow7 hat7 hlt7; obtain ⟨g5, g6⟩ := HDC.out _ w7 hgrow7))
          all_goals
            have hg7 : (wF.alloc (.cells #[.int .i64 r] 3)).grownBy w7 (Value.slice ar k cr).ownBlock := ⟨hgrow7.os, hgrow7.tape, hgrow7.output, hgrow7.size, hgrow7.block⟩
            have hsm8 := sm_rule HSMN.out hg7 (by rw [HL2.out]; exact hown7) (by rcases hat7 with h | h; exact .inl h; right; omega)
            rw [HL2.out] at hsm8
            have HSM8 := hide hsm8
            have HBW8 := hide (((HBWN.out.alloc (show B ≤ wF.heap.size by have h1 := HBWN.out.size; omega) (.cells #[.int .i64 r] 3)).grown hg7 HSZ.out (fun kk hkk => (own_type HRO.out hkk).1)).setCell (p := ⟨d, 1, none⟩) (show B ≤ d from HSMN.out.dlow) (.slice (some ⟨g'', 0, none⟩) (k + 1) cap''))
            have hk200 : k + 1 ≤ 200 := by have := HKL.out; have := HLN.out k; omega
            clear hsm8 hown7 hgrow7 hg7
            go_wp2
            go_roundw
            case rel => exact ⟨k + 1, _, _, fd2, by go_num, hk200, fun j hj => by
              by_cases e : j = k
              · subst e; exact HKL.out
              · exact HLOW.out j (by omega), by rw [HST.out, HLR.out]; exact HSM8.out, HBW8.out⟩
            case measure => simp [intOf]; omega
    · have hke : (stF tr ls start k).1.length = k := by
        rcases Nat.eq_zero_or_pos k with h0 | h0
        · subst h0; simp [stF] at hlt
        · have h1 := HLOW.out (k - 1) (by omega)
          have h2 := st_mono (tr := tr) (ls := ls) (start := start) (show k - 1 ≤ k by omega)
          omega
      have HEND := hide (st_end hke hk2)
      obtain ⟨xs2, xc2, hsv2⟩ := own_form HSM'.out.f
      obtain ⟨n2, hn2⟩ : ∃ n2, fd.length = n2 := ⟨_, rfl⟩
      have hl2 := HSM'.out.len
      rw [hn2] at hsv2
      rw [hn2, hke] at hl2
      subst hl2
      subst hsv2
      obtain ⟨an, cn, rfl, hdr⟩ := own_dr HSM'.out.n' (fun x hx => by
        obtain ⟨i, hi, e⟩ := List.getElem_of_mem hx
        obtain ⟨s, row, _, h2, h3, _⟩ := st_means n2 HLOW.out i (by have := HL1.out; omega)
        rw [List.getElem?_eq_getElem hi, e] at h2
        rw [Option.some.inj h2]; exact h3)
      obtain ⟨ar, cr, rfl, hwr⟩ := own_len HSM'.out.r
      obtain ⟨e0, e1, ez⟩ := d_cells HSM'.out.db
      obtain ⟨-, -, hPX, -⟩ := HW3.out wr HBW.out
      obtain ⟨q0, q1, qz⟩ := d_cells hPX
      have y0 := qz 0
      have y1 := qz 1
      have HDR := hide (hdr rfl)
      rw [HL1.out] at e0
      rw [HL2.out] at e1
      have hBP : w.heap.size + 2 ≤ B := by have h1 := HBC.out.size; have h2 := HSN.out; omega
      have hbf : ∀ x y, Below w.heap.size w ((wr.setCell ⟨w.heap.size + 1, 0, none⟩ x).setCell ⟨w.heap.size + 1, 1, none⟩ y) := fun x y => below_set2 ((((HB0.out.trans (HBN.out.mono (by omega))).trans (HBC.out.mono (by have := HSN.out; omega))).trans (HBW.out.mono (by omega)))) (by omega)
      have HBF := hide hbf
      have HWF := hide (set2 (x := .slice an n2 cn) (y := .slice ar n2 cr) hPX)
      have HWR := hide hwr
      have HPD := hide (show ∀ (b i : Nat) (v : Value) (x y : Value), b ≠ w.heap.size + 1 → wr.cell? ⟨b, i, none⟩ = some v → ((wr.setCell ⟨w.heap.size + 1, 0, none⟩ x).setCell ⟨w.heap.size + 1, 1, none⟩ y).cell? ⟨b, i, none⟩ = some v from fun b i v x y hb h => by
        rw [World.cell?_setCell_other _ _ _ _ (fun e => hb (by cases e; rfl)), World.cell?_setCell_other _ _ _ _ (fun e => hb (by cases e; rfl))]; exact h)
      clear qz ez hn2 hlt hdr hwr hPX hbf
      go_wp2
      obtain ⟨m0, m1, -⟩ := d_cells HWF.out
      refine bodyPost_ret (v := .agg #[.slice an n2 cn, .slice ar n2 cr]) (by simp [results, Try.results17, go_sem, m0, m1]) rfl ?_
      refine ⟨A, g, HAL.out, HLV.out, ?_⟩
      rw [htr, hls, hst, HEND.out]
      refine ⟨an, ar, cn, cr, by rw [HL1.out, HL2.out], fun i row hr => ?_, fun i z hz => ?_, HBF.out _ _⟩
      · obtain ⟨h1, b, off, e, h2⟩ := HDR.out i row hr
        have hb := (own_type HSM'.out.n' (k := b) (by rw [e]; rfl)).1
        exact ⟨h1, b, off, e, fun j v hj => HPD.out b _ v _ _ (by omega) (h2 j v hj)⟩
      · obtain ⟨b, off, e, h2⟩ := HWR.out i z hz
        have hb := (own_type HSM'.out.r (k := b) (by rw [e]; rfl)).1
        exact ⟨b, off, e, HPD.out b _ _ _ _ (by omega) h2⟩
end Go.Proofs.Ythkollnlmnbidaa.A
