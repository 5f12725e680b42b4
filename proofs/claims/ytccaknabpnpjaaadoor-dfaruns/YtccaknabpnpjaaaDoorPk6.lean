/- Ahead of layer 6: the document's tables of states. -/
import Derived.Test.YtccaknabpnpjaaaDoorPk3
import Derived.Test.YtccaknabpnpjaaaDoorPk5
import Derived.Deep.RegionHeld3
import Derived.Test.YtccaknabpnpjaaaDoorPk4
namespace Go.Proofs.YtccaknabpnpjaaaDoor.A
open Go.RowKit

theorem mk_new1 (w : World) (N : Nat) : Mk (w.alloc (.cells (rowB N fun _ => false) 4)) w.heap.size N (fun _ => false) := heap_alloc_last w _
/-- Which states are among the first k that are told. -/
def tblB (zs : List Int) (k j : Nat) : Bool := (zs.take k).any fun z => z == (j : Int)
theorem tblB_step {zs : List Int} {k : Nat} {z : Int} (h : zs[k]? = some z) (j : Nat) : tblB zs (k + 1) j = (tblB zs k j || z == (j : Int)) := by
  unfold tblB; rw [take_at h, List.any_append]; simp
theorem tblB_yes {zs : List Int} {k i : Nat} (h : zs[k]? = some (i : Int)) (j : Nat) : (if j = i then true else tblB zs k j) = tblB zs (k + 1) j := by
  rw [tblB_step h]
  by_cases e : j = i
  · subst e; simp
  · have : ((i : Int) == (j : Int)) = false := by simp; omega
    rw [if_neg e, this, Bool.or_false]
theorem tblB_no {zs : List Int} {k N : Nat} {z : Int} (h : zs[k]? = some z) (hz : ¬ (0 ≤ z ∧ z < N)) (j : Nat) (hj : j < N) : tblB zs k j = tblB zs (k + 1) j := by
  rw [tblB_step h]
  have : (z == (j : Int)) = false := by simp; omega
  rw [this, Bool.or_false]

end Go.Proofs.YtccaknabpnpjaaaDoor.A

/- The program's closed: free steps followed by a closure that calls itself. -/
namespace Go.Proofs.YtccaknabpnpjaaaDoor.A
open Go.RowKit

theorem below_drew1 (V : World) : Below V.heap.size V V.drew := (Below.refl _ _).drew
/-- All but one block is as it was. -/
structure Kp (M : Nat) (w w' : World) : Prop where
  os : w'.os = w.os
  tape : w'.tape = w.tape
  output : w'.output = w.output
  size : w.heap.size ≤ w'.heap.size
  block : ∀ k, k < w.heap.size → k ≠ M → w'.heap[k]? = w.heap[k]?
theorem Kp.refl (M : Nat) (w : World) : Kp M w w := ⟨rfl, rfl, rfl, Nat.le_refl _, fun _ _ _ => rfl⟩
theorem Kp.trans {M : Nat} {a b c : World} (h : Kp M a b) (k : Kp M b c) : Kp M a c :=
  ⟨k.os.trans h.os, k.tape.trans h.tape, k.output.trans h.output, Nat.le_trans h.size k.size, fun i hi hn => (k.block i (Nat.lt_of_lt_of_le hi h.size) hn).trans (h.block i hi hn)⟩
theorem Kp.of_below {M : Nat} {w w' : World} (h : Below w.heap.size w w') : Kp M w w' := ⟨h.os, h.tape, h.output, h.size, fun k hk _ => h.block k hk⟩
theorem Kp.drew {M : Nat} {w w' : World} (h : Kp M w w') : Kp M w w'.drew := ⟨h.os, h.tape, h.output, h.size, h.block⟩
theorem Kp.set {M : Nat} {w w' : World} (h : Kp M w w') (i : Nat) (u : Value) : Kp M w (w'.setCell ⟨M, i, none⟩ u) :=
  ⟨h.os, h.tape, h.output, by simpa using h.size, fun k hk hn => (Below.heap_setCell _ _ _ _ hn).trans (h.block k hk hn)⟩
theorem Kp.cell {M : Nat} {w w' : World} (h : Kp M w w') {p : Addr} (hp : p.block < w.heap.size) (hn : p.block ≠ M) : w'.cell? p = w.cell? p := World.cell?_of_block (w := w) (h.block p.block hp hn)
theorem Kp.below {M B : Nat} {w0 w w' : World} (h : Kp M w w') (hb : Below B w0 w) (hB : B ≤ w.heap.size) (hM : B ≤ M) : Below B w0 w' :=
  hb.trans ⟨h.os, h.tape, h.output, h.size, fun k hk => h.block k (by omega) (by omega)⟩
theorem bx_kp {M p : Nat} {w w' : World} {x0 x1 x2 x3 : Value} (h : Kp M w w') (hn : p ≠ M) (b : Bx w p x0 x1 x2 x3) : Bx w' p x0 x1 x2 x3 := by
  have hl : p < w.heap.size := cell_lt b.1
  exact ⟨(h.cell (p := ⟨p, 0, none⟩) hl hn).trans b.1, (h.cell (p := ⟨p, 1, none⟩) hl hn).trans b.2.1, (h.cell (p := ⟨p, 2, none⟩) hl hn).trans b.2.2.1, (h.cell (p := ⟨p, 3, none⟩) hl hn).trans b.2.2.2⟩

/-- Marks that were added are closed. -/
def Fol (fs : List (List Int)) (N : Nat) (g g' : Nat → Bool) : Prop := (∀ j, j < N → g j = true → g' j = true) ∧ ∀ i, i < N → g i = false → ClAt fs g' i
/-- Those of the first k that are states are marked. -/
def Had (N : Nat) (g : Nat → Bool) (zs : List Int) (k : Nat) : Prop := ∀ p, p < k → ∀ z : Nat, zs[p]? = some (z : Int) → z < N → g z = true
theorem fol_refl (fs : List (List Int)) (N : Nat) (g : Nat → Bool) : Fol fs N g g := ⟨fun _ _ h => h, fun i _ h h' => by rw [h] at h'; cases h'⟩
theorem fol_step {fs : List (List Int)} {N z : Nat} {g g1 g2 : Nat → Bool} (hok : ∀ (i : Nat) (l : List Int), fs[i]? = some l → ∀ z ∈ l, 0 ≤ z ∧ z < (N : Int)) (h : Fol fs N g g1) (h2 : Fol fs N (fun j => if j = z then true else g1 j) g2) (hz : ∀ l, fs[z]? = some l → ∀ j : Nat, (j : Int) ∈ l → g2 j = true) : Fol fs N g g2 := by
  have up : ∀ j, j < N → g1 j = true → g2 j = true := fun j hj e => h2.1 j hj (by show (if j = z then true else g1 j) = true; rw [e]; simp)
  refine ⟨fun j hj e => up j hj (h.1 j hj e), fun i hi e => ?_⟩
  cases h1 : g1 i
  · by_cases q : i = z
    · subst q; exact fun _ l hl j hj => hz l hl j hj
    · exact h2.2 i hi (by show (if i = z then true else g1 i) = false; rw [if_neg q]; exact h1)
  · intro _ l hl j hj
    have hjN : j < N := by have := hok i l hl _ hj; omega
    exact up j hjN (h.2 i hi e h1 l hl j hj)
theorem had_mono {N : Nat} {g g' : Nat → Bool} {zs : List Int} {k : Nat} (h : Had N g zs k) (hg : ∀ j, j < N → g j = true → g' j = true) : Had N g' zs k := fun p hp z hz hN => hg z hN (h p hp z hz hN)
theorem had_one {N : Nat} {g : Nat → Bool} {zs : List Int} {k : Nat} (h : Had N g zs k) (hk : ∀ z : Nat, zs[k]? = some (z : Int) → z < N → g z = true) : Had N g zs (k + 1) := fun p hp z hz hN => by
  by_cases e : p = k
  · subst e; exact hk z hz hN
  · exact h p (by omega) z hz hN

set_option maxRecDepth 100000 in
set_option maxHeartbeats 6400000 in
theorem follow_any (w0 : World) (M p q r : Nat) (hM : w0.heap.size ≤ M) (hpM : p ≠ M) (hqM : q ≠ M) (hrM : r ≠ M) (a0 : Option Addr) (N c0 : Nat) (x1 x2 x3 : Value) (fs : List (List Int)) (R : Nat → Prop) (hR : ∀ (i j : Nat) (l : List Int), R i → fs[i]? = some l → (j : Int) ∈ l → R j)
    (hfl : fs.length = N) (hll : ∀ (i : Nat) (l : List Int), fs[i]? = some l → l.length ≤ maxLen) (hFs : Fs w0 a0 fs) (hok : ∀ (i : Nat) (l : List Int), fs[i]? = some l → ∀ z ∈ l, 0 ≤ z ∧ z < (N : Int)) :
    ∀ (m : Nat) (g : Nat → Bool) (zs : List Int) (a : Option Addr) (len cap : Nat) (w : World), cntF g N ≤ m → zs.length = len → len ≤ maxLen → Wd w0 a zs → Below w0.heap.size w0 w → Bx w p (.slice a0 N c0) x1 x2 x3 →
      w.cell? ⟨q, 0, none⟩ = some (.slice (some ⟨M, 0, none⟩) N N) → w.cell? ⟨r, 0, none⟩ = some (.func (.func 61) #[] #[.pointer (some ⟨p, 0, none⟩), .pointer (some ⟨q, 0, none⟩), .pointer (some ⟨r, 0, none⟩)]) → Mk w M N g →
      (∀ z : Nat, (z : Int) ∈ zs → z < N → R z) → (∀ j, j < N → g j = true → R j) →
      Calls Tryd.prog 61 #[.slice a len cap, .pointer (some ⟨p, 0, none⟩), .pointer (some ⟨q, 0, none⟩), .pointer (some ⟨r, 0, none⟩)] w fun e w' =>
        e = .returned (.tuple #[]) ∧ Kp M w w' ∧ ∃ g', Mk w' M N g' ∧ Fol fs N g g' ∧ Had N g' zs len ∧ ∀ j, j < N → g' j = true → R j := by
  intro m
  induction m using Nat.strongRecOn with
  | _ m ih =>
    intro g zs a len cap w hcnt hzl hlen hW hb0 hbx hcq hcr hmk hzR hgR
    have IH := hide ih
    have HW := hide hW
    have HB0 := hide hb0
    have HBX := hide hbx
    have HCQ := hide hcq
    have HCR := hide hcr
    have HMK := hide hmk
    have HZR := hide hzR
    have HGR := hide hgR
    have HZL := hide hzl
    have HCN := hide hcnt
    have HFS := hide hFs
    have HFL := hide hfl
    have HLL := hide hll
    have HOK := hide hok
    have HRR := hide hR
    clear ih hW hb0 hbx hcq hcr hmk hzR hgR hzl hcnt hFs hfl hll hok hR
    have hlen' := hlen
    unfold maxLen at hlen'
    have HLN := hide hlen
    clear hlen
    go_enter Tryd.func61, Tryd.ntmps61
    go_wp2_with fail
    go_loopw [6, 9] (fun _ i wr => ∃ k : Nat, k ≤ len ∧ i = .int .i64 k ∧ Kp M w wr ∧ ∃ g', Mk wr M N g' ∧ Fol fs N g g' ∧ Had N g' zs k ∧ ∀ j, j < N → g' j = true → R j) (fun _ i _ => len - (intOf i).toNat)
    case atStart => exact ⟨0, Nat.zero_le _, rfl, Kp.refl _ _, g, HMK.out, fol_refl _ _ _, fun p hp => by omega, HGR.out⟩
    case round =>
      obtain ⟨k, hk, rfl, hkp, g1, hm1, hf1, hh1, hr1⟩ := hrel
      have HKP := hide hkp
      have HM1 := hide hm1
      have HF1 := hide hf1
      have HH1 := hide hh1
      have HR1 := hide hr1
      clear hkp hm1 hf1 hh1 hr1
      by_cases hlt : k < len
      · obtain ⟨z, hz⟩ : ∃ z, zs[k]? = some z := ⟨_, List.getElem?_eq_getElem (by rw [HZL.out]; exact hlt)⟩
        have HBR := hide (HKP.out.below HB0.out HB0.out.size hM)
        obtain ⟨zb, zo, rfl, kz⟩ := wd_below HBR.out HW.out k z hz
        have HZ := hide hz
        have i1 : (0 : Int) ≤ (k : Int) := by omega
        have i2 : (k : Int) < (len : Int) := by omega
        have HXR := hide (bx_kp HKP.out hpM HBX.out)
        obtain ⟨p0, p1, p2, p3⟩ := HXR.out
        clear hz
        go_wp2_with fail
        refine (isState_any a0 N c0 x1 x2 x3 z wr).mono ?_
        rintro e w2 ⟨rfl, hb2⟩
        have HK2 := hide (HKP.out.trans (Kp.of_below hb2))
        have HM2 := hide (mk_below (mk_lt HM1.out) hb2 HM1.out)
        clear hb2 p0 p1 p2 p3 kz HXR
        cases hst : isSt N z
        · have HN := hide (had_one HH1.out (fun z' hz' hN' => by
            rw [HZ.out] at hz'
            have e : z = (z' : Int) := by simpa using hz'
            have : isSt N z = true := by unfold isSt; rw [e]; simp [hN']
            rw [hst] at this; cases this))
          clear hst
          go_wp2
          go_roundw
          case rel => exact ⟨k + 1, by omega, by go_num, HK2.out, g1, HM2.out, HF1.out, HN.out, HR1.out⟩
          case measure => simp [intOf]; omega
        · obtain ⟨y, rfl⟩ : ∃ y : Nat, z = y := ⟨z.toNat, by unfold isSt at hst; simp at hst; omega⟩
          have hy : y < N := by unfold isSt at hst; simp at hst; exact hst
          have HST := hide hst
          clear hst
          have hq2 := (HK2.out.cell (p := ⟨q, 0, none⟩) (cell_lt HCQ.out) hqM).trans HCQ.out
          obtain ⟨m0, m1⟩ := mk_cell HM2.out hy
          have i3 : (0 : Int) ≤ (y : Int) := by omega
          have i4 : (y : Int) < (N : Int) := by omega
          cases hgy : g1 y
          case true =>
            rw [hgy] at m0
            have HN := hide (had_one HH1.out (fun z' hz' hN' => by
              rw [HZ.out] at hz'
              have e : y = z' := by have h := Option.some.inj hz'; omega
              rw [← e]; exact hgy))
            clear hgy
            go_wp2
            go_roundw
            case rel => exact ⟨k + 1, by omega, by go_num, HK2.out, g1, HM2.out, HF1.out, HN.out, HR1.out⟩
            case measure => simp [intOf]; omega
          rw [hgy] at m0
          have HGY := hide hgy
          clear hgy
          obtain ⟨l, hl⟩ : ∃ l, fs[y]? = some l := ⟨_, List.getElem?_eq_getElem (by rw [HFL.out]; exact hy)⟩
          have HL := hide hl
          obtain ⟨fb, fo, fa, fc, hfa, kf0, hwd⟩ := HFS.out y l hl
          subst hfa
          have HWL := hide hwd
          have HKF := hide kf0
          clear hl hwd kf0
          have HM3 := hide (mk_set HM2.out hy true)
          have HK3 := hide (HK2.out.set y (.bool true))
          go_wp2_with fail
          clear m0 m1 hq2
          generalize w2.setCell ⟨M, y, none⟩ (.bool true) = w3 at *
          have HB3 := hide (HK3.out.below HB0.out HB0.out.size hM)
          have HX3 := hide (bx_kp HK3.out hpM HBX.out)
          have hr3 := (HK3.out.cell (p := ⟨r, 0, none⟩) (cell_lt HCR.out) hrM).trans HCR.out
          have HQ3 := hide ((HK3.out.cell (p := ⟨q, 0, none⟩) (cell_lt HCQ.out) hqM).trans HCQ.out)
          have hp3 := HX3.out.1
          have hf3 := (HB3.out.cell (p := ⟨fb, fo + y, none⟩) (cell_lt HKF.out)).trans HKF.out
          have hfM : fb ≠ M := by have := cell_lt HKF.out; simp at this; omega
          have HCL := hide (show cntF (fun j => if j = y then true else g1 j) N < m from by
            have h1 := cntF_lt (h := fun j => if j = y then true else g1 j) N (fun j _ e => by show (if j = y then true else g1 j) = true; rw [e]; simp) y hy HGY.out (by simp)
            have h2 := cntF_mono (g := g) (h := g1) N HF1.out.1
            have h3 := HCN.out
            omega)
          have HRy := hide (show R y from HZR.out y (List.mem_of_getElem? HZ.out) hy)
          have HC := hide (IH.out _ HCL.out (fun j => if j = y then true else g1 j) l fa l.length fc w3.drew (Nat.le_refl _) rfl (HLL.out y l HL.out) HWL.out HB3.out.drew HX3.out HQ3.out hr3 HM3.out (fun z hz _ => HRR.out y z l HRy.out HL.out hz) (fun j hj e => by
            by_cases ej : j = y
            · subst ej; exact HRy.out
            · exact HR1.out j hj (by simpa [ej] using e)))
          go_region_held3 (fun w' => w'.cell? ⟨r, 0, none⟩ = some (.func (.func 61) #[] #[.pointer (some ⟨p, 0, none⟩), .pointer (some ⟨q, 0, none⟩), .pointer (some ⟨r, 0, none⟩)]) ∧ w'.cell? ⟨p, 0, none⟩ = some (.slice (some ⟨fb, fo, none⟩) N c0) ∧ w'.cell? ⟨fb, fo + y, none⟩ = some (.slice fa l.length fc)) (first | assumption | go_keep) ((go_at_call 61; refine HC.out.mono ?_; rintro e w4 ⟨rfl, hk4, hg4⟩; have k9 := And.intro ((hk4.cell (p := ⟨r, 0, none⟩) (cell_lt hr3) hrM).trans hr3) (And.intro ((hk4.cell (p := ⟨p, 0, none⟩) (cell_lt hp3) hpM).trans hp3) ((hk4.cell (p := ⟨fb, fo + y, none⟩) (cell_lt hf3) hfM).trans hf3))))
          obtain ⟨g4, hm4, hf4, hh4, hr4⟩ := hg4
          have HK4 := hide (HK3.out.drew.trans hk4)
          have HM4 := hide hm4
          have HR4 := hide hr4
          have HF4 := hide (fol_step HOK.out HF1.out hf4 (fun l' hl' j hj => by
            rw [HL.out] at hl'
            cases hl'
            obtain ⟨pp, hpp, e⟩ := List.getElem_of_mem hj
            exact hh4 pp hpp j (by rw [List.getElem?_eq_getElem hpp, e]) (by have := HOK.out y l HL.out _ hj; omega)))
          have HN := hide (had_one (had_mono HH1.out (fun j hj e => hf4.1 j hj (by show (if j = y then true else g1 j) = true; rw [e]; simp))) (fun z' hz' hN' => by
            rw [HZ.out] at hz'
            have e : y = z' := by have h := Option.some.inj hz'; omega
            rw [← e]; exact hf4.1 y hy (by simp)))
          clear hm4 hf4 hh4 hr4 hk4 k9 hr3 hp3 hf3 HC
          go_wp2
          go_roundw
          case rel => exact ⟨k + 1, by omega, by go_num, HK4.out, g4, HM4.out, HF4.out, HN.out, HR4.out⟩
          case measure => simp [intOf]; omega
      · have e : k = len := by omega
        subst e
        go_wp2
        exact bodyPost_end (v := .tuple #[]) (by simp [results, Tryd.results61, go_sem]) rfl ⟨rfl, HKP.out, g1, HM1.out, HF1.out, HH1.out, HR1.out⟩

end Go.Proofs.YtccaknabpnpjaaaDoor.A

/- Ahead of layer 6: the document's Close, walked. -/
namespace Go.Proofs.YtccaknabpnpjaaaDoor.A
open Go.RowKit

/-- What is told of the first q steps of a list, while nothing was added. -/
def Told (g : Nat → Bool) (l : List Int) (q : Nat) : Prop := ∀ p, p < q → ∀ (z : Nat), l[p]? = some (z : Int) → g z = true
theorem told_cl {fs : List (List Int)} {g : Nat → Bool} {l : List Int} {i : Nat} (hl : fs[i]? = some l) (h : Told g l l.length) : ClAt fs g i := by
  intro _ l' hl' j hj
  rw [hl] at hl'
  cases hl'
  obtain ⟨p, hp, e⟩ := List.getElem_of_mem hj
  exact h p hp j (by rw [List.getElem?_eq_getElem hp, e])

end Go.Proofs.YtccaknabpnpjaaaDoor.A
