/- Where a class goes: the program's row. -/
import Derived.Test.YthkollnlmnbidaaGj
namespace Go.Proofs.Ythkollnlmnbidaa.A
open Go.RowKit Go.Maps
set_option linter.unusedVariables false

theorem rowG_one (g : Nat → Int) : (rowG g).all (·.oneCell') = true := by
  rw [Array.all_eq_true_iff_forall_mem]
  intro v hv
  simp only [rowG, List.mem_toArray, List.mem_map] at hv
  obtain ⟨j, _, rfl⟩ := hv
  rfl

attribute [local go_sem ↓] wp_load63s
attribute [local go_sem] cells_agg
set_option maxRecDepth 100000 in
set_option maxHeartbeats 6400000 in
theorem srow_any (base n q m C d s : Nat) (cl : Nat → Int) (fv nv rv : Value) (fd : List Int) (nx : List (List Int)) (ru : List Int) (nx0 : List (List Int)) (ru0 : List Int) (row : List Int) (w : World) (hx : Mx nx0 ru0 n) (hcl : IsCls nx0 ru0 n cl) (h : Sn w base n q m C d cl fv nv rv fd nx ru) (hs : s < n) (hrow : nx0[s]? = some row) (hl : fd.length ≤ 4000) :
    Calls Try.prog 26 #[.pointer (some ⟨q, 0, none⟩), .agg (cI row).toArray] w fun e w' => e = .returned (.agg (cI (rowF (trM nx0 (AC cl) (GC cl) n) (clsM (AC cl) n s) (SL cl n fd) 16).2).toArray) ∧ (∃ fv' r, Sn w' base n q m C d cl fv' nv rv (fd ++ r) nx ru ∧ SL cl n (fd ++ r) = (rowF (trM nx0 (AC cl) (GC cl) n) (clsM (AC cl) n s) (SL cl n fd) 16).1 ∧ r.length ≤ 16) ∧ Kn base w w' := by
  obtain ⟨hv63, hi63⟩ := zero_of_info zero63
  rw [rowG_zero] at hv63
  have HX := hide hx
  have HCL := hide hcl
  have HROW := hide hrow
  have HI := hide hi63
  have hl16 : (cI row).length = 16 := by rw [cI_len]; exact hx.row row (List.mem_of_getElem? hrow)
  have hltw := sn_lt h
  have HBN := hide hltw.2.2.2.2.1
  have HNV := hide (fun (k : Nat) (hk : nv.ownBlock = some k) => show k < w.heap.size from (own_type h.n' hk).2.1)
  have hb1 := (Below.refl w.heap.size w).alloc (Nat.le_refl _) (.cells (cI row).toArray 41)
  have hbx := heap_alloc_last w (.cells (cI row).toArray 41)
  have hs1 : (w.alloc (.cells (cI row).toArray 41)).heap.size = w.heap.size + 1 := by simp
  have hb3 := (hb1.alloc (by simp) (.cells (rowG fun _ => 0) 41)).alloc (by simp; omega) (.cells (rowG fun _ => 0) 41)
  have HS1 := hide hs1
  have hA := heap_alloc_last (w.alloc (.cells (cI row).toArray 41)) (.cells (rowG fun _ => 0) 41)
  rw [hs1] at hA
  have hBr := heap_alloc_last ((w.alloc (.cells (cI row).toArray 41)).alloc (.cells (rowG fun _ => 0) 41)) (.cells (rowG fun _ => 0) 41)
  rw [show ((w.alloc (.cells (cI row).toArray 41)).alloc (.cells (rowG fun _ => 0) 41)).heap.size = w.heap.size + 1 + 1 by simp] at hBr
  have HA := hide (show Rg (((w.alloc (.cells (cI row).toArray 41)).alloc (.cells (rowG fun _ => 0) 41)).alloc (.cells (rowG fun _ => 0) 41)) (w.heap.size + 1) (fun _ => 0) from (Below.heap_alloc _ _ _ (by simp)).trans hA)
  have HBR := hide (show Rg (((w.alloc (.cells (cI row).toArray 41)).alloc (.cells (rowG fun _ => 0) 41)).alloc (.cells (rowG fun _ => 0) 41)) (w.heap.size + 1 + 1) (fun _ => 0) from hBr)
  have HBX := hide (show (((w.alloc (.cells (cI row).toArray 41)).alloc (.cells (rowG fun _ => 0) 41)).alloc (.cells (rowG fun _ => 0) 41)).heap[w.heap.size]? = some (.cells (cI row).toArray 41 (0, 0)) from (Below.heap_alloc _ _ _ (by simp; omega)).trans ((Below.heap_alloc _ _ _ (by simp)).trans hbx))
  have HSN := hide (sn_below hb3 h)
  have HK3 := hide (Kn.of_below (base := base) hb3)
  have hrg : (((w.alloc (.cells (cI row).toArray 41)).alloc (.cells (rowG fun _ => 0) 41)).alloc (.cells (rowG fun _ => 0) 41)).rangeAt w.heap.size 0 (cI row) := fun j u hu => by
    rw [Nat.zero_add, cell_of_row _ _ j _ _ _ HBX.out]; simpa using hu
  obtain ⟨hrv, hro⟩ := rowM_at hrg hl16
  clear h hx hcl hrow hi63 hb1 hbx hs1 hb3 hA hBr hrg hltw
  have HTR := hide (fun (c : Nat) => trM_cls HX.out (ac_alk HCL.out) (gc_live HCL.out) hs c)
  obtain ⟨L, hL⟩ : ∃ L, clsM (AC cl) n s = L := ⟨_, rfl⟩
  obtain ⟨tr, htr⟩ : ∃ tr, trM nx0 (AC cl) (GC cl) n = tr := ⟨_, rfl⟩
  obtain ⟨S, hS⟩ : ∃ S, SL cl n fd = S := ⟨_, rfl⟩
  have HSS := hide hS
  rw [hL, htr] at HTR
  rw [hL, htr, hS]
  clear hL htr hS
  go_enter Try.func26, Try.ntmps26
  go_wp2_with fail
  clear hrv hro
  generalize ((w.alloc (.cells (cI row).toArray 41)).alloc (.cells (rowG fun _ => 0) 41)).alloc (.cells (rowG fun _ => 0) 41) = W0 at *
  generalize w.alloc (.cells (cI row).toArray 41) = W1 at *
  generalize hP : w.heap.size = P at *
  go_loopw [6, 7, 9] (fun _ _ u wr => ∃ (k : Nat) (fv' : Value) (r : List Int), k ≤ 16 ∧ u = .int .i64 k ∧ Rg wr (P + 1) (fun _ => 0) ∧ Rg wr (P + 1 + 1) (fnL (rowF tr L S k).2) ∧ Sn wr base n q m C d cl fv' nv rv (fd ++ r) nx ru ∧ SL cl n (fd ++ r) = (rowF tr L S k).1 ∧ r.length ≤ k ∧ Kn base w wr) (fun _ _ u _ => 16 - (intOf u).toNat)
  case atStart => exact ⟨0, fv, [], by omega, rfl, HA.out, rg_congr HBR.out (fun j _ => rfl), by rw [List.append_nil]; exact HSN.out, by rw [List.append_nil]; exact HSS.out, by simp, HK3.out⟩
  case round =>
    obtain ⟨k, fv', r, hk, rfl, ha, hrg, hsn, hsl, hrl, hkn⟩ := hrel
    have HA2 := hide ha
    have HRG := hide hrg
    have HSN2 := hide hsn
    have HSL := hide hsl
    have HKN := hide hkn
    clear ha hrg hsn hsl hkn HA HBR HSN HK3
    by_cases hlt : k < 16
    · obtain ⟨row', z, hr', -, hz, hz1, hz2, hst⟩ := mx_next HX.out hs hlt
      have hrr : row' = row := by rw [HROW.out] at hr'; exact (Option.some.inj hr').symm
      subst hrr
      have hcz : (cI row')[k]? = some (.int .i64 z) := by simp [cI, hz]
      have hcz2 : (cI row')[k]'(by omega) = .int .i64 z := by
        have := List.getElem?_eq_getElem (l := cI row') (i := k) (by omega)
        rw [hcz] at this; exact (Option.some.inj this).symm
      have hrx := fun w => run_index63 w (cI row') k z hlt hcz
      have HFD := hide (sfind_any base n q m C d cl fv' nv rv (fd ++ r) nx ru nx0 ru0 z wr HCL.out HSN2.out hz1 hz2 (by rw [List.length_append]; omega))
      rw [← hst, ← HTR.out k, HSL.out] at HFD
      have HST := hide hst
      have i5 : (0 : Int) ≤ (k : Int) := by omega
      have i6 : (k : Int) < 16 := by omega
      obtain ⟨f0, f1⟩ := rg_cell HRG.out hlt
      clear hr' hz hst
      go_wp2_with fail
      rw [HST.out] at HFD
      refine HFD.out.mono ?_
      rintro e w2 ⟨rfl, ⟨fv2, r2, hsn2, hsl2, hr2⟩, hk2⟩
      have HA3 := hide (show Rg w2 (P + 1) (fun _ => 0) from hk2.heap HA2.out (by decide) (by decide))
      have HRG3 := hide (show Rg w2 (P + 1 + 1) _ from hk2.heap HRG.out (by decide) (by decide))
      have HSN3 := hide hsn2
      have HSL3 := hide hsl2
      have HKN3 := hide (HKN.out.trans hk2)
      obtain ⟨S', hS'⟩ : ∃ S', (findF (rowF tr L S k).1 (tr L k)).1 = S' := ⟨_, rfl⟩
      obtain ⟨z', hz'⟩ : ∃ z', (findF (rowF tr L S k).1 (tr L k)).2 = z' := ⟨_, rfl⟩
      have HFF := hide (show findF (rowF tr L S k).1 (tr L k) = (S', z') from by rw [← hS', ← hz'])
      rw [hS'] at HSL3
      rw [hz']
      obtain ⟨g0, g1⟩ := rg_cell HRG3.out hlt
      clear hsn2 hsl2 hk2 hS' hz' f0 f1 HFD
      have HR4 := hide (rg_step HFF.out (rg_set HRG3.out hlt z') (fun j _ => rfl))
      have HA4 := hide (show Rg (w2.setCell ⟨P + 1 + 1, k, none⟩ (.int .i64 z')) (P + 1) (fun _ => 0) from (Below.heap_setCell _ _ _ _ (by simp)).trans HA3.out)
      have HSN4 := hide (sn_else (w' := w2.setCell ⟨P + 1 + 1, k, none⟩ (.int .i64 z')) HSN3.out HRG3.out (fun e => by have := HNV.out _ e; omega) (fun j hj => Below.heap_setCell _ _ _ _ hj))
      have HK4 := hide (HKN3.out.set (p := ⟨P + 1 + 1, k, none⟩) (by rw [hP]; show P ≤ P + 1 + 1; omega) (.int .i64 z'))
      have HRS := hide (row_step HFF.out)
      go_wp2
      go_roundw
      case rel => exact ⟨k + 1, fv2, r ++ r2, by omega, by go_num, HA4.out, HR4.out, by rw [← List.append_assoc]; exact HSN4.out, by rw [← List.append_assoc, HSL3.out, HRS.out], by rw [List.length_append]; omega, HK4.out⟩
      case measure => simp [intOf]; omega
    · obtain rfl : k = 16 := by omega
      have hrw := row_len tr L S 16
      have HRW := hide hrw
      go_wp2_with (first
        | refine wpList_load_row rfl 41 _ rfl (P + 1 + 1) rfl 41 _ (0, 0) _ HRG.out Try.underlying41 rfl (by rw [rowG_size]; exact HI.out) ?_
        | refine wpList_store_row rfl 41 _ _ rfl (P + 1) _ rfl rfl 41 _ HA2.out (by rw [rowG_size]; exact HI.out) (by rw [rowG_size, rowG_size]) (rowG_one _) ?_)
      refine bodyPost_ret (results_cell_row rfl _ _ (P + 1) 41 (rowG (fnL (rowF tr L S 16).2)) (0, 0) _ rfl (setRow_heap _ _ _ _ _ _ HA2.out) Try.underlying41 rfl (by rw [rowG_size]; exact HI.out)) rfl ?_
      exact ⟨by rw [rowG_list HRW.out]; rfl, ⟨fv', r, sn_else HSN2.out HA2.out (fun e => by have := HNV.out _ e; omega) (fun j hj => setRow_other _ _ _ _ hj), HSL.out, hrl⟩, HKN.out.setRow (by omega) _⟩
end Go.Proofs.Ythkollnlmnbidaa.A
