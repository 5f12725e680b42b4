/- Ahead of layer 6: the document's tables of states. -/
import Derived.Test.YtccaknabpnpjaaaGreatDoorPk3
import Derived.Test.YtccaknabpnpjaaaGreatDoorPk5
import Derived.Deep.RegionHeld3
import Derived.Test.YtccaknabpnpjaaaGreatDoorPk4
namespace Go.Proofs.YtccaknabpnpjaaaGreatDoor.A
open Go.RowKit

theorem mk_new1 (w : World) (N : Nat) : Mk (w.alloc (.cells (rowB N fun _ => false) 4)) w.heap.size N (fun _ => false) := heap_alloc_last w _
/-- Which states are among the first k that are told. -/
def tblB (zs : List Int) (k j : Nat) : Bool := (zs.take k).any fun z => z == (j : Int)
theorem tblB_step {zs : List Int} {k : Nat} {z : Int} (h : zs[k]? = some z) (j : Nat) : tblB zs (k + 1) j = (tblB zs k j || z == (j : Int)) := by
  unfold tblB; rw [take_at h, List.any_append]; simp
theorem tblB_yes {zs : List Int} {k i : Nat} (h : zs[k]? = some (i : Int)) (j : Nat) : (if j = i then true else tblB zs k j) = tblB zs (k + 1) j := by
  rw [tblB_step h]
  by_cases e : j = i
  · subst e; simp
  · have : ((i : Int) == (j : Int)) = false := by simp; omega
    rw [if_neg e, this, Bool.or_false]
theorem tblB_no {zs : List Int} {k N : Nat} {z : Int} (h : zs[k]? = some z) (hz : ¬ (0 ≤ z ∧ z < N)) (j : Nat) (hj : j < N) : tblB zs k j = tblB zs (k + 1) j := by
  rw [tblB_step h]
  have : (z == (j : Int)) = false := by simp; omega
  rw [this, Bool.or_false]

set_option maxRecDepth 100000 in
set_option maxHeartbeats 3200000 in
theorem table_any (a : Option Addr) (len cap N : Nat) (zs : List Int) (w : World) (hz : zs.length = len) (hl : len ≤ 10000) (hN : N ≤ 10000) (hW : Wd w a zs) :
    Calls Tryz.prog 26 #[.slice a len cap, .int .i64 (N : Int)] w fun e w' => Gives w N (tblB zs len) e w' := by
  have hmk : ∀ w, (Instr.makeSlice 68 (.int .i64 (N : Int)) (.int .i64 (N : Int))).run Tryz.prog w = .ok (.slice (some ⟨w.heap.size, 0, none⟩) N N) (w.alloc (.cells (rowB N fun _ => false) 4)) := make39 N hN
  have HW := hide hW
  have HZ := hide hz
  clear hW hz
  go_enter Tryz.func26, Tryz.ntmps26
  go_wp2_with fail
  have hm0 : Mk (w.alloc (.cells (rowB N fun _ => false) 4)) w.heap.size N (tblB zs 0) := mk_congr (mk_new1 _ _) (fun j _ => by simp [tblB])
  have hb0 := (Below.refl w.heap.size w).alloc (Nat.le_refl _) (.cells (rowB N fun _ => false) 4)
  clear hmk
  generalize w.alloc (.cells (rowB N fun _ => false) 4) = W0 at *
  generalize hB : w.heap.size = B at *
  go_loopw [6] (fun i wr => ∃ k : Nat, k ≤ len ∧ i = .int .i64 k ∧ Mk wr B N (tblB zs k) ∧ Below B w wr) (fun i _ => len - (intOf i).toNat)
  case atStart => exact ⟨0, Nat.zero_le _, rfl, hm0, hb0⟩
  case round =>
    obtain ⟨k, hk, rfl, hm, hb⟩ := hrel
    clear hm0 hb0
    by_cases hlt : k < len
    · obtain ⟨z, hc⟩ : ∃ z, zs[k]? = some z := ⟨_, List.getElem?_eq_getElem (by rw [HZ.out]; exact hlt)⟩
      obtain ⟨b, off, rfl, k0⟩ := wd_below (hB ▸ hb) HW.out k z hc
      have i1 : (0 : Int) ≤ (k : Int) := by omega
      have i2 : (k : Int) < (len : Int) := by omega
      by_cases z0 : 0 ≤ z
      · by_cases z1 : z < N
        · obtain ⟨i, rfl⟩ : ∃ i : Nat, z = i := ⟨z.toNat, by omega⟩
          have hi : i < N := by omega
          obtain ⟨m0, m1⟩ := mk_cell hm hi
          have HM := hide hm
          have HN := hide (tblB_yes hc)
          clear hm hc
          go_wp2
          go_roundw
          case rel => exact ⟨k + 1, by omega, by go_num, mk_congr (mk_set HM.out hi true) (fun j _ => HN.out j), hb.setCell (by simp) _⟩
          case measure => simp [intOf]; omega
        · have HM := hide (mk_congr hm (tblB_no hc (fun q => z1 q.2)))
          have hz1 : decide (z < (N : Int)) = false := by simp; omega
          have hz0 : decide (0 ≤ z) = true := by simp; omega
          clear hm hc
          go_wp2
          go_roundw
          case rel => exact ⟨k + 1, by omega, by go_num, HM.out, hb⟩
          case measure => simp [intOf]; omega
      · have HM := hide (mk_congr hm (tblB_no hc (fun q => z0 q.1)))
        have hz0 : decide (0 ≤ z) = false := by simp; omega
        clear hm hc
        go_wp2
        go_roundw
        case rel => exact ⟨k + 1, by omega, by go_num, HM.out, hb⟩
        case measure => simp [intOf]; omega
    · have e : k = len := by omega
      subst e
      go_wp2
      go_ret
      exact ⟨B, by omega, rfl, hm, by rw [hB]; exact hb⟩

end Go.Proofs.YtccaknabpnpjaaaGreatDoor.A

/- The program's closed: free steps followed by a closure that calls itself. -/
namespace Go.Proofs.YtccaknabpnpjaaaGreatDoor.A
open Go.RowKit

theorem below_drew1 (V : World) : Below V.heap.size V V.drew := (Below.refl _ _).drew
/-- All but one block is as it was. -/
structure Kp (M : Nat) (w w' : World) : Prop where
  os : w'.os = w.os
  tape : w'.tape = w.tape
  output : w'.output = w.output
  size : w.heap.size ≤ w'.heap.size
  block : ∀ k, k < w.heap.size → k ≠ M → w'.heap[k]? = w.heap[k]?
theorem Kp.refl (M : Nat) (w : World) : Kp M w w := ⟨rfl, rfl, rfl, Nat.le_refl _, fun _ _ _ => rfl⟩
theorem Kp.trans {M : Nat} {a b c : World} (h : Kp M a b) (k : Kp M b c) : Kp M a c :=
  ⟨k.os.trans h.os, k.tape.trans h.tape, k.output.trans h.output, Nat.le_trans h.size k.size, fun i hi hn => (k.block i (Nat.lt_of_lt_of_le hi h.size) hn).trans (h.block i hi hn)⟩
theorem Kp.of_below {M : Nat} {w w' : World} (h : Below w.heap.size w w') : Kp M w w' := ⟨h.os, h.tape, h.output, h.size, fun k hk _ => h.block k hk⟩
theorem Kp.drew {M : Nat} {w w' : World} (h : Kp M w w') : Kp M w w'.drew := ⟨h.os, h.tape, h.output, h.size, h.block⟩
theorem Kp.set {M : Nat} {w w' : World} (h : Kp M w w') (i : Nat) (u : Value) : Kp M w (w'.setCell ⟨M, i, none⟩ u) :=
  ⟨h.os, h.tape, h.output, by simpa using h.size, fun k hk hn => (Below.heap_setCell _ _ _ _ hn).trans (h.block k hk hn)⟩
theorem Kp.cell {M : Nat} {w w' : World} (h : Kp M w w') {p : Addr} (hp : p.block < w.heap.size) (hn : p.block ≠ M) : w'.cell? p = w.cell? p := World.cell?_of_block (w := w) (h.block p.block hp hn)
theorem Kp.below {M B : Nat} {w0 w w' : World} (h : Kp M w w') (hb : Below B w0 w) (hB : B ≤ w.heap.size) (hM : B ≤ M) : Below B w0 w' :=
  hb.trans ⟨h.os, h.tape, h.output, h.size, fun k hk => h.block k (by omega) (by omega)⟩
theorem bx_kp {M p : Nat} {w w' : World} {x0 x1 x2 x3 : Value} (h : Kp M w w') (hn : p ≠ M) (b : Bx w p x0 x1 x2 x3) : Bx w' p x0 x1 x2 x3 := by
  have hl : p < w.heap.size := cell_lt b.1
  exact ⟨(h.cell (p := ⟨p, 0, none⟩) hl hn).trans b.1, (h.cell (p := ⟨p, 1, none⟩) hl hn).trans b.2.1, (h.cell (p := ⟨p, 2, none⟩) hl hn).trans b.2.2.1, (h.cell (p := ⟨p, 3, none⟩) hl hn).trans b.2.2.2⟩

/-- Marks that were added are closed. -/
def Fol (fs : List (List Int)) (N : Nat) (g g' : Nat → Bool) : Prop := (∀ j, j < N → g j = true → g' j = true) ∧ ∀ i, i < N → g i = false → ClAt fs g' i
/-- Those of the first k that are states are marked. -/
def Had (N : Nat) (g : Nat → Bool) (zs : List Int) (k : Nat) : Prop := ∀ p, p < k → ∀ z : Nat, zs[p]? = some (z : Int) → z < N → g z = true
theorem fol_refl (fs : List (List Int)) (N : Nat) (g : Nat → Bool) : Fol fs N g g := ⟨fun _ _ h => h, fun i _ h h' => by rw [h] at h'; cases h'⟩
theorem fol_step {fs : List (List Int)} {N z : Nat} {g g1 g2 : Nat → Bool} (hok : ∀ (i : Nat) (l : List Int), fs[i]? = some l → ∀ z ∈ l, 0 ≤ z ∧ z < (N : Int)) (h : Fol fs N g g1) (h2 : Fol fs N (fun j => if j = z then true else g1 j) g2) (hz : ∀ l, fs[z]? = some l → ∀ j : Nat, (j : Int) ∈ l → g2 j = true) : Fol fs N g g2 := by
  have up : ∀ j, j < N → g1 j = true → g2 j = true := fun j hj e => h2.1 j hj (by show (if j = z then true else g1 j) = true; rw [e]; simp)
  refine ⟨fun j hj e => up j hj (h.1 j hj e), fun i hi e => ?_⟩
  cases h1 : g1 i
  · by_cases q : i = z
    · subst q; exact fun _ l hl j hj => hz l hl j hj
    · exact h2.2 i hi (by show (if i = z then true else g1 i) = false; rw [if_neg q]; exact h1)
  · intro _ l hl j hj
    have hjN : j < N := by have := hok i l hl _ hj; omega
    exact up j hjN (h.2 i hi e h1 l hl j hj)
theorem had_mono {N : Nat} {g g' : Nat → Bool} {zs : List Int} {k : Nat} (h : Had N g zs k) (hg : ∀ j, j < N → g j = true → g' j = true) : Had N g' zs k := fun p hp z hz hN => hg z hN (h p hp z hz hN)
theorem had_one {N : Nat} {g : Nat → Bool} {zs : List Int} {k : Nat} (h : Had N g zs k) (hk : ∀ z : Nat, zs[k]? = some (z : Int) → z < N → g z = true) : Had N g zs (k + 1) := fun p hp z hz hN => by
  by_cases e : p = k
  · subst e; exact hk z hz hN
  · exact h p (by omega) z hz hN

set_option maxRecDepth 100000 in
set_option maxHeartbeats 6400000 in
theorem follow_any (w0 : World) (M p q r : Nat) (hM : w0.heap.size ≤ M) (hpM : p ≠ M) (hqM : q ≠ M) (hrM : r ≠ M) (a0 : Option Addr) (N c0 : Nat) (x1 x2 x3 : Value) (fs : List (List Int)) (R : Nat → Prop) (hR : ∀ (i j : Nat) (l : List Int), R i → fs[i]? = some l → (j : Int) ∈ l → R j)
    (hfl : fs.length = N) (hll : ∀ (i : Nat) (l : List Int), fs[i]? = some l → l.length ≤ maxLen) (hFs : Fs w0 a0 fs) (hok : ∀ (i : Nat) (l : List Int), fs[i]? = some l → ∀ z ∈ l, 0 ≤ z ∧ z < (N : Int)) :
    ∀ (m : Nat) (g : Nat → Bool) (zs : List Int) (a : Option Addr) (len cap : Nat) (w : World), cntF g N ≤ m → zs.length = len → len ≤ maxLen → Wd w0 a zs → Below w0.heap.size w0 w → Bx w p (.slice a0 N c0) x1 x2 x3 →
      w.cell? ⟨q, 0, none⟩ = some (.slice (some ⟨M, 0, none⟩) N N) → w.cell? ⟨r, 0, none⟩ = some (.func (.func 67) #[] #[.pointer (some ⟨p, 0, none⟩), .pointer (some ⟨q, 0, none⟩), .pointer (some ⟨r, 0, none⟩)]) → Mk w M N g →
      (∀ z : Nat, (z : Int) ∈ zs → z < N → R z) → (∀ j, j < N → g j = true → R j) →
      Calls Tryz.prog 67 #[.slice a len cap, .pointer (some ⟨p, 0, none⟩), .pointer (some ⟨q, 0, none⟩), .pointer (some ⟨r, 0, none⟩)] w fun e w' =>
        e = .returned (.tuple #[]) ∧ Kp M w w' ∧ ∃ g', Mk w' M N g' ∧ Fol fs N g g' ∧ Had N g' zs len ∧ ∀ j, j < N → g' j = true → R j := by
  intro m
  induction m using Nat.strongRecOn with
  | _ m ih =>
    intro g zs a len cap w hcnt hzl hlen hW hb0 hbx hcq hcr hmk hzR hgR
    have IH := hide ih
    have HW := hide hW
    have HB0 := hide hb0
    have HBX := hide hbx
    have HCQ := hide hcq
    have HCR := hide hcr
    have HMK := hide hmk
    have HZR := hide hzR
    have HGR := hide hgR
    have HZL := hide hzl
    have HCN := hide hcnt
    have HFS := hide hFs
    have HFL := hide hfl
    have HLL := hide hll
    have HOK := hide hok
    have HRR := hide hR
    clear ih hW hb0 hbx hcq hcr hmk hzR hgR hzl hcnt hFs hfl hll hok hR
    have hlen' := hlen
    unfold maxLen at hlen'
    have HLN := hide hlen
    clear hlen
    go_enter Tryz.func67, Tryz.ntmps67
    go_wp2_with fail
    go_loopw [6, 9] (fun _ i wr => ∃ k : Nat, k ≤ len ∧ i = .int .i64 k ∧ Kp M w wr ∧ ∃ g', Mk wr M N g' ∧ Fol fs N g g' ∧ Had N g' zs k ∧ ∀ j, j < N → g' j = true → R j) (fun _ i _ => len - (intOf i).toNat)
    case atStart => exact ⟨0, Nat.zero_le _, rfl, Kp.refl _ _, g, HMK.out, fol_refl _ _ _, fun p hp => by omega, HGR.out⟩
    case round =>
      obtain ⟨k, hk, rfl, hkp, g1, hm1, hf1, hh1, hr1⟩ := hrel
      have HKP := hide hkp
      have HM1 := hide hm1
      have HF1 := hide hf1
      have HH1 := hide hh1
      have HR1 := hide hr1
      clear hkp hm1 hf1 hh1 hr1
      by_cases hlt : k < len
      · obtain ⟨z, hz⟩ : ∃ z, zs[k]? = some z := ⟨_, List.getElem?_eq_getElem (by rw [HZL.out]; exact hlt)⟩
        have HBR := hide (HKP.out.below HB0.out HB0.out.size hM)
        obtain ⟨zb, zo, rfl, kz⟩ := wd_below HBR.out HW.out k z hz
        have HZ := hide hz
        have i1 : (0 : Int) ≤ (k : Int) := by omega
        have i2 : (k : Int) < (len : Int) := by omega
        have HXR := hide (bx_kp HKP.out hpM HBX.out)
        obtain ⟨p0, p1, p2, p3⟩ := HXR.out
        clear hz
        go_wp2_with fail
        refine (isState_any a0 N c0 x1 x2 x3 z wr).mono ?_
        rintro e w2 ⟨rfl, hb2⟩
        have HK2 := hide (HKP.out.trans (Kp.of_below hb2))
        have HM2 := hide (mk_below (mk_lt HM1.out) hb2 HM1.out)
        clear hb2 p0 p1 p2 p3 kz HXR
        cases hst : isSt N z
        · have HN := hide (had_one HH1.out (fun z' hz' hN' => by
            rw [HZ.out] at hz'
            have e : z = (z' : Int) := by simpa using hz'
            have : isSt N z = true := by unfold isSt; rw [e]; simp [hN']
            rw [hst] at this; cases this))
          clear hst
          go_wp2
          go_roundw
          case rel => exact ⟨k + 1, by omega, by go_num, HK2.out, g1, HM2.out, HF1.out, HN.out, HR1.out⟩
          case measure => simp [intOf]; omega
        · obtain ⟨y, rfl⟩ : ∃ y : Nat, z = y := ⟨z.toNat, by unfold isSt at hst; simp at hst; omega⟩
          have hy : y < N := by unfold isSt at hst; simp at hst; exact hst
          have HST := hide hst
          clear hst
          have hq2 := (HK2.out.cell (p := ⟨q, 0, none⟩) (cell_lt HCQ.out) hqM).trans HCQ.out
          obtain ⟨m0, m1⟩ := mk_cell HM2.out hy
          have i3 : (0 : Int) ≤ (y : Int) := by omega
          have i4 : (y : Int) < (N : Int) := by omega
          cases hgy : g1 y
          case true =>
            rw [hgy] at m0
            have HN := hide (had_one HH1.out (fun z' hz' hN' => by
              rw [HZ.out] at hz'
              have e : y = z' := by have h := Option.some.inj hz'; omega
              rw [← e]; exact hgy))
            clear hgy
            go_wp2
            go_roundw
            case rel => exact ⟨k + 1, by omega, by go_num, HK2.out, g1, HM2.out, HF1.out, HN.out, HR1.out⟩
            case measure => simp [intOf]; omega
          rw [hgy] at m0
          have HGY := hide hgy
          clear hgy
          obtain ⟨l, hl⟩ : ∃ l, fs[y]? = some l := ⟨_, List.getElem?_eq_getElem (by rw [HFL.out]; exact hy)⟩
          have HL := hide hl
          obtain ⟨fb, fo, fa, fc, hfa, kf0, hwd⟩ := HFS.out y l hl
          subst hfa
          have HWL := hide hwd
          have HKF := hide kf0
          clear hl hwd kf0
          have HM3 := hide (mk_set HM2.out hy true)
          have HK3 := hide (HK2.out.set y (.bool true))
          go_wp2_with fail
          clear m0 m1 hq2
          generalize w2.setCell ⟨M, y, none⟩ (.bool true) = w3 at *
          have HB3 := hide (HK3.out.below HB0.out HB0.out.size hM)
          have HX3 := hide (bx_kp HK3.out hpM HBX.out)
          have hr3 := (HK3.out.cell (p := ⟨r, 0, none⟩) (cell_lt HCR.out) hrM).trans HCR.out
          have HQ3 := hide ((HK3.out.cell (p := ⟨q, 0, none⟩) (cell_lt HCQ.out) hqM).trans HCQ.out)
          have hp3 := HX3.out.1
          have hf3 := (HB3.out.cell (p := ⟨fb, fo + y, none⟩) (cell_lt HKF.out)).trans HKF.out
          have hfM : fb ≠ M := by have := cell_lt HKF.out; simp at this; omega
          have HCL := hide (show cntF (fun j => if j = y then true else g1 j) N < m from by
            have h1 := cntF_lt (h := fun j => if j = y then true else g1 j) N (fun j _ e => by show (if j = y then true else g1 j) = true; rw [e]; simp) y hy HGY.out (by simp)
            have h2 := cntF_mono (g := g) (h := g1) N HF1.out.1
            have h3 := HCN.out
            omega)
          have HRy := hide (show R y from HZR.out y (List.mem_of_getElem? HZ.out) hy)
          have HC := hide (IH.out _ HCL.out (fun j => if j = y then true else g1 j) l fa l.length fc w3.drew (Nat.le_refl _) rfl (HLL.out y l HL.out) HWL.out HB3.out.drew HX3.out HQ3.out hr3 HM3.out (fun z hz _ => HRR.out y z l HRy.out HL.out hz) (fun j hj e => by
            by_cases ej : j = y
            · subst ej; exact HRy.out
            · exact HR1.out j hj (by simpa [ej] using e)))
          go_region_held3 (fun w' => w'.cell? ⟨r, 0, none⟩ = some (.func (.func 67) #[] #[.pointer (some ⟨p, 0, none⟩), .pointer (some ⟨q, 0, none⟩), .pointer (some ⟨r, 0, none⟩)]) ∧ w'.cell? ⟨p, 0, none⟩ = some (.slice (some ⟨fb, fo, none⟩) N c0) ∧ w'.cell? ⟨fb, fo + y, none⟩ = some (.slice fa l.length fc)) (first | assumption | go_keep) ((go_at_call 67; refine HC.out.mono ?_; rintro e w4 ⟨rfl, hk4, hg4⟩; have k9 := And.intro ((hk4.cell (p := ⟨r, 0, none⟩) (cell_lt hr3) hrM).trans hr3) (And.intro ((hk4.cell (p := ⟨p, 0, none⟩) (cell_lt hp3) hpM).trans hp3) ((hk4.cell (p := ⟨fb, fo + y, none⟩) (cell_lt hf3) hfM).trans hf3))))
          obtain ⟨g4, hm4, hf4, hh4, hr4⟩ := hg4
          have HK4 := hide (HK3.out.drew.trans hk4)
          have HM4 := hide hm4
          have HR4 := hide hr4
          have HF4 := hide (fol_step HOK.out HF1.out hf4 (fun l' hl' j hj => by
            rw [HL.out] at hl'
            cases hl'
            obtain ⟨pp, hpp, e⟩ := List.getElem_of_mem hj
            exact hh4 pp hpp j (by rw [List.getElem?_eq_getElem hpp, e]) (by have := HOK.out y l HL.out _ hj; omega)))
          have HN := hide (had_one (had_mono HH1.out (fun j hj e => hf4.1 j hj (by show (if j = y then true else g1 j) = true; rw [e]; simp))) (fun z' hz' hN' => by
            rw [HZ.out] at hz'
            have e : y = z' := by have h := Option.some.inj hz'; omega
            rw [← e]; exact hf4.1 y hy (by simp)))
          clear hm4 hf4 hh4 hr4 hk4 k9 hr3 hp3 hf3 HC
          go_wp2
          go_roundw
          case rel => exact ⟨k + 1, by omega, by go_num, HK4.out, g4, HM4.out, HF4.out, HN.out, HR4.out⟩
          case measure => simp [intOf]; omega
      · have e : k = len := by omega
        subst e
        go_wp2
        exact bodyPost_end (v := .tuple #[]) (by simp [results, Tryz.results67, go_sem]) rfl ⟨rfl, HKP.out, g1, HM1.out, HF1.out, HH1.out, HR1.out⟩

end Go.Proofs.YtccaknabpnpjaaaGreatDoor.A

/- Ahead of layer 6: the document's Close, walked. -/
namespace Go.Proofs.YtccaknabpnpjaaaGreatDoor.A
open Go.RowKit

/-- What is told of the first q steps of a list, while nothing was added. -/
def Told (g : Nat → Bool) (l : List Int) (q : Nat) : Prop := ∀ p, p < q → ∀ (z : Nat), l[p]? = some (z : Int) → g z = true
theorem told_cl {fs : List (List Int)} {g : Nat → Bool} {l : List Int} {i : Nat} (hl : fs[i]? = some l) (h : Told g l l.length) : ClAt fs g i := by
  intro _ l' hl' j hj
  rw [hl] at hl'
  cases hl'
  obtain ⟨p, hp, e⟩ := List.getElem_of_mem hj
  exact h p hp j (by rw [List.getElem?_eq_getElem hp, e])

set_option maxRecDepth 100000 in
set_option maxHeartbeats 6400000 in
theorem close_any (x1 x2 x3 : Value) (a0 : Option Addr) (N c0 F : Nat) (fs : List (List Int)) (o : Nat → Bool) (w : World) (hN : N ≤ 10000) (hf : fs.length = N) (hll : ∀ (i : Nat) (l : List Int), fs[i]? = some l → l.length ≤ maxLen)
    (hS : Fs w a0 fs) (hok : ∀ (i : Nat) (l : List Int), fs[i]? = some l → ∀ z ∈ l, 0 ≤ z ∧ z < (N : Int)) (hF : Mk w F N o) :
    Calls Tryz.prog 25 #[.agg #[.slice a0 N c0, x1, x2, x3], .slice (some ⟨F, 0, none⟩) N N] w fun e w' => ∃ g, IsCl fs N o g ∧ Gives w N g e w' := by
  have hmk : ∀ w, (Instr.makeSlice 68 (.int .i64 (N : Int)) (.int .i64 (N : Int))).run Tryz.prog w = .ok (.slice (some ⟨w.heap.size, 0, none⟩) N N) (w.alloc (.cells (rowB N fun _ => false) 4)) := make39 N hN
  have HF := hide hF
  have HFL := hide (mk_lt hF)
  have HS := hide hS
  have HSL := hide hf
  have HOK := hide hok
  have HLL := hide hll
  clear hF hS hf hok hll
  obtain ⟨p0, p1, p2, p3⟩ := box4 w (.slice a0 N c0) x1 x2 x3 55
  have HB0 := hide ((Below.refl w.heap.size w).alloc (Nat.le_refl _) (.cells #[.slice a0 N c0, x1, x2, x3] 55))
  go_enter Tryz.func25, Tryz.ntmps25
  go_wp2_with fail
  have hm0 : Mk ((w.alloc (.cells #[.slice a0 N c0, x1, x2, x3] 55)).alloc (.cells (rowB N fun _ => false) 4)) (w.heap.size + 1) N (fun j => decide (j < 0) && o j) := mk_congr (g := fun _ => false) (mk_new _ _ _) (by simp)
  have hb0 := HB0.out.alloc (by simp) (.cells (rowB N fun _ => false) 4)
  have hp0 : ((w.alloc (.cells #[.slice a0 N c0, x1, x2, x3] 55)).alloc (.cells (rowB N fun _ => false) 4)).cell? ⟨w.heap.size, 0, none⟩ = some (.slice a0 N c0) := by
    rw [← p0]; exact ((Below.refl (w.heap.size + 1) (w.alloc (.cells #[.slice a0 N c0, x1, x2, x3] 55))).alloc (by simp) (.cells (rowB N fun _ => false) 4)).cell (p := ⟨w.heap.size, 0, none⟩) (by simp)
  clear hmk p0 p1 p2 p3 HB0
  generalize (w.alloc (.cells #[.slice a0 N c0, x1, x2, x3] 55)).alloc (.cells (rowB N fun _ => false) 4) = W0 at *
  generalize hB : w.heap.size = B at *
  have HP0 := hide hp0
  clear hp0
  go_loopw [6] (fun i wr => ∃ k : Nat, k ≤ N ∧ i = .int .i64 k ∧ Mk wr (B + 1) N (fun j => decide (j < k) && o j) ∧ Below B w wr ∧ Below (B + 1) W0 wr) (fun i _ => N - (intOf i).toNat)
  case atStart => exact ⟨0, Nat.zero_le _, rfl, hm0, hb0, Below.refl _ _⟩
  case round =>
    obtain ⟨k, hk, rfl, hm, hb, hb2⟩ := hrel
    clear hm0 hb0
    by_cases hlt : k < N
    · obtain ⟨m0, m1⟩ := mk_cell hm hlt
      obtain ⟨f0, _⟩ := mk_cell (mk_below HFL.out hb HF.out) hlt
      have i1 : (0 : Int) ≤ (k : Int) := by omega
      have i2 : (k : Int) < (N : Int) := by omega
      have HM := hide hm
      clear hm
      go_wp2
      go_roundw
      case rel => exact ⟨k + 1, by omega, by go_num, mk_congr (mk_set HM.out hlt (o k)) (fun j _ => copy_set o k j), hb.setCell (by simp) _, hb2.setCell (by simp) _⟩
      case measure => simp [intOf]; omega
    · have e : k = N := by omega
      subst e
      go_wp2_with fail
      have hmo : Mk wr (B + 1) k o := mk_congr hm (fun j hj => by simp [hj])
      clear hm
      go_loopw [7] (fun m wr => ∃ (b : Bool) (g : Nat → Bool), m = .bool b ∧ Mk wr (B + 1) k g ∧ (∀ j, j < k → o j = true → g j = true) ∧ (∀ j, j < k → g j = true → Rch fs k o j) ∧ (b = false → ∀ i, i < k → ClAt fs g i) ∧ Below B w wr ∧ Below (B + 1) W0 wr) (fun m wr => undone wr (B + 1) k + (match m with | .bool true => 1 | _ => 0))
      case atStart => exact ⟨true, o, rfl, hmo, fun _ _ q => q, fun _ hj q => .here hj q, fun q => by simp at q, hb, hb2⟩
      case round =>
        clear hmo hb hb2
        obtain ⟨b, g0, rfl, hm, h0, h1, h2, hb, hb2⟩ := hrel
        have HU := hide (undone_of hm k (Nat.le_refl _))
        cases b
        · have HC := hide (closed_is h0 h1 (h2 rfl) HOK.out)
          clear h0 h1 h2
          go_wp2
          go_ret
          exact ⟨g0, HC.out, B + 1, by omega, rfl, hm, by rw [hB]; exact hb⟩
        · clear h2
          have H0 := hide h0
          have H1 := hide h1
          clear h0 h1
          go_wp2_with fail
          go_loopw [7, 8] (fun m i wr => ∃ (b : Bool) (g : Nat → Bool) (q : Nat), q ≤ k ∧ m = .bool b ∧ i = .int .i64 q ∧ Mk wr (B + 1) k g ∧ Rnd fs o k g0 b g ∧ (b = false → ∀ i, i < q → ClAt fs g0 i) ∧ Below B w wr ∧ Below (B + 1) W0 wr) (fun _ i _ => k - (intOf i).toNat)
          case atStart => exact ⟨false, g0, 0, Nat.zero_le _, rfl, rfl, hm, ⟨fun _ _ q => q, H1.out, fun q => by simp at q, fun _ _ _ => rfl⟩, fun _ i hi => by omega, hb, hb2⟩
          case round =>
            clear hm hb hb2
            obtain ⟨b, g, q, hq, rfl, rfl, hm, hr, hc, hb, hb2⟩ := hrel
            have HR := hide hr
            have HC := hide hc
            clear hr hc
            by_cases hlt2 : q < k
            · obtain ⟨l, hl⟩ : ∃ l, fs[q]? = some l := ⟨_, List.getElem?_eq_getElem (by rw [HSL.out]; exact hlt2)⟩
              have HL := hide hl
              have hlm := HLL.out q l hl
              unfold maxLen at hlm
              have i1 : (0 : Int) ≤ (q : Int) := by omega
              have i2 : (q : Int) < (k : Int) := by omega
              clear hl
              go_wp2_with fail
              go_loopw [7, 9] (fun m i wr => ∃ (b : Bool) (g : Nat → Bool) (p : Nat), p ≤ l.length ∧ m = .bool b ∧ i = .int .i64 p ∧ Mk wr (B + 1) k g ∧ Rnd fs o k g0 b g ∧ (b = false → ∀ i, i < q → ClAt fs g0 i) ∧ (b = false → Told g0 l p) ∧ Below B w wr ∧ Below (B + 1) W0 wr) (fun _ i _ => l.length - (intOf i).toNat)
              case atStart => exact ⟨b, g, 0, Nat.zero_le _, rfl, rfl, hm, HR.out, HC.out, fun _ p hp => by omega, hb, hb2⟩
              case round =>
                clear hm hb hb2 HR HC
                obtain ⟨b, g, p, hp, rfl, rfl, hm, hr, hc, ht, hb, hb2⟩ := hrel
                have HR := hide hr
                have HC := hide hc
                have HT := hide ht
                clear hr hc ht
                have r0 := (hb2.cell (p := ⟨B, 0, none⟩) (Nat.lt_succ_self _)).trans HP0.out
                obtain ⟨fb, foff, fa, fc, rfl, kf, hwd⟩ := fs_below (hB ▸ hb) HS.out q l HL.out
                obtain ⟨m0, m1⟩ := mk_cell hm hlt2
                by_cases hlt3 : p < l.length
                · cases hg : g q
                  · rw [hg] at m0
                    have HE := hide (show b = false → ∀ i, i < q + 1 → ClAt fs g0 i from fun e i hi => by
                      by_cases ei : i = q
                      · subst ei; intro y; rw [← HR.out.2.2.2 e i hlt2, hg] at y; simp at y
                      · exact HC.out e i (by omega))
                    clear hg
                    have HM := hide hm
                    clear hm hwd
                    go_wp2
                    go_roundw
                    case rel => exact ⟨b, g, q + 1, by omega, rfl, by go_num, HM.out, HR.out, HE.out, hb, hb2⟩
                    case measure => simp [intOf]; omega
                  · rw [hg] at m0
                    obtain ⟨z, hz⟩ : ∃ z, l[p]? = some z := ⟨_, List.getElem?_eq_getElem hlt3⟩
                    obtain ⟨z0, z1⟩ := HOK.out q l HL.out z (List.mem_of_getElem? hz)
                    obtain ⟨i, rfl⟩ : ∃ i : Nat, z = i := ⟨z.toNat, by omega⟩
                    have hi : i < k := by omega
                    obtain ⟨b', off', rfl, k1⟩ := hwd p (i : Int) hz
                    obtain ⟨n0, n1⟩ := mk_cell hm hi
                    have i3 : (p : Int) < (l.length : Int) := by omega
                    have i4 : (0 : Int) ≤ (p : Int) := by omega
                    have HNX := hide (rnd_set HR.out hi (.on (HR.out.2.1 q hlt2 hg) HL.out (List.mem_of_getElem? hz)))
                    have HZ := hide hz
                    have HM := hide hm
                    clear hm hz hwd hg
                    cases b
                    · cases hgi : g i
                      · rw [hgi] at n0 HNX
                        clear hgi
                        go_wp2
                        go_roundw
                        case rel => exact ⟨true, _, p + 1, by omega, rfl, by go_num, mk_set HM.out hi true, HNX.out, fun y => by simp at y, fun y => by simp at y, hb.setCell (by simp) _, hb2.setCell (by simp) _⟩
                        case measure => simp [intOf]; omega
                      · rw [hgi] at n0 HNX
                        have HG := hide hgi
                        clear hgi
                        have HTN := hide (show Told g0 l (p + 1) from fun p' hp' z' hz' => by
                          by_cases ep : p' = p
                          · subst ep; rw [HZ.out] at hz'; have : i = z' := by have := Option.some.inj hz'; omega
                            subst this; rw [← HR.out.2.2.2 rfl i hi]; exact HG.out
                          · exact HT.out rfl p' (by omega) z' hz')
                        go_wp2
                        go_roundw
                        case rel => exact ⟨false, _, p + 1, by omega, rfl, by go_num, mk_set HM.out hi true, HNX.out, HC.out, fun _ => HTN.out, hb.setCell (by simp) _, hb2.setCell (by simp) _⟩
                        case measure => simp [intOf]; omega
                    · rw [Bool.true_or] at HNX
                      go_wp2
                      go_roundw
                      case rel => exact ⟨true, _, p + 1, by omega, rfl, by go_num, mk_set HM.out hi true, HNX.out, fun y => by simp at y, fun y => by simp at y, hb.setCell (by simp) _, hb2.setCell (by simp) _⟩
                      case measure => simp [intOf]; omega
                · have e : p = l.length := by omega
                  have HE := hide (show b = false → ∀ i, i < q + 1 → ClAt fs g0 i from fun e' i hi => by
                    by_cases ei : i = q
                    · subst ei; exact told_cl HL.out (e ▸ HT.out e')
                    · exact HC.out e' i (by omega))
                  subst e
                  have HM := hide hm
                  clear hm hwd
                  go_wp2
                  go_roundw
                  case rel => exact ⟨b, g, q + 1, by omega, rfl, by go_num, HM.out, HR.out, HE.out, hb, hb2⟩
                  case measure => simp [intOf]; omega
            · have e : q = k := by omega
              have HE := hide (show (∀ j, j < k → o j = true → g j = true) from fun j hj y => HR.out.1 j hj (H0.out j hj y))
              have HF2 := hide (show b = false → ∀ i, i < k → ClAt fs g i from fun e' i hi y l' hl' j hj => by
                have hjk : j < k := by have := HOK.out i l' hl' _ hj; omega
                rw [HR.out.2.2.2 e' j hjk]
                exact HC.out e' i (by omega) (by rw [← HR.out.2.2.2 e' i hi]; exact y) l' hl' j hj)
              have HU2 := hide (undone_of hm k (Nat.le_refl _))
              subst e
              have HM := hide hm
              clear hm
              go_wp2
              go_roundw
              case rel => exact ⟨b, g, rfl, HM.out, HE.out, HR.out.2.1, HF2.out, hb, hb2⟩
              case measure =>
                rw [HU.out]
                cases b
                · have := HU2.out
                  have h5 := cntF_congr (g := g) q (HR.out.2.2.2 rfl)
                  simp_all
                · have := HU2.out
                  have h5 := HR.out.2.2.1 rfl
                  simp_all

end Go.Proofs.YtccaknabpnpjaaaGreatDoor.A
