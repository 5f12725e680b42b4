/- The program's rising, leastRule. -/
import Derived.WalkKit
import Derived.ProofKit
import Derived.Outline
import Derived.BigQuiet
import Derived.Deep.QuietTactic
import Derived.Below
import Derived.Deep.RegionHeld3
import Derived.OpenShut
import Derived.Deep.Slices
import Derived.Deep.Strs
import Derived.Deep.OwnRows
import Derived.Deep.WholeRow
import Derived.Deep.AppendSrc
import Derived.Deep.Heap
import Derived.Test.YtbbfjjjnifomgaaGreatDoorK1
import Derived.Test.YtbbfjjjnifomgaaGreatDoorK4
import Derived.Test.YtbbfjjjnifomgaaGreatDoorK6
import Derived.Test.YtbbfjjjnifomgaaGreatDoorK10
import Derived.Test.YtbbfjjjnifomgaaGreatDoorK7
import Derived.Test.YtbbfjjjnifomgaaGreatDoorK8
import Derived.Laws.AppendOwnNone
import Derived.Test.YtbbfjjjnifomgaaGreatDoorK3
namespace Go.Proofs.YtbbfjjjnifomgaaGreatDoor.A
open Go.RowKit

set_option maxRecDepth 100000 in
set_option maxHeartbeats 3200000 in
theorem rising_any (F N : Nat) (g : Nat → Bool) (w : World) (hN : N ≤ 10000) (hF : Mk w F N g) :
    Calls Tryz.prog 153 #[.slice (some ⟨F, 0, none⟩) N N] w fun e w' =>
      ∃ v, e = .returned v ∧ w'.ownsRow w.heap.size 3 1 v (lstL g N).length ((lstL g N).map (Value.int .i64)) ∧ Below w.heap.size w w' := by
  obtain ⟨i0, hi, hz0, hz1, hz2⟩ := info_parts info3
  have HF := hide hF
  have HFL := hide (mk_lt hF)
  clear hF
  go_enter Tryz.func153, Tryz.ntmps153
  go_wp2_with fail
  go_loopw [3, 4, 5, 8] (fun v _ _ i wr => ∃ k : Nat, k ≤ N ∧ i = .int .i64 k ∧ wr.ownsRow w.heap.size 3 1 v (lstL g k).length ((lstL g k).map (Value.int .i64)) ∧ Below w.heap.size w wr) (fun _ _ _ i _ => N - (intOf i).toNat)
  case atStart => exact ⟨0, Nat.zero_le _, rfl, World.ownsRow_nil _ _ _ _, Below.refl _ _⟩
  case round =>
    obtain ⟨k, hk, rfl, hown, hbel⟩ := hrel
    by_cases hlt : k < N
    · obtain ⟨f0, _⟩ := mk_cell (mk_below HFL.out hbel HF.out) hlt
      have i1 : (0 : Int) ≤ (k : Int) := by omega
      have i2 : (k : Int) < (N : Int) := by omega
      have hle := lstL_le g k
      cases hg : g k
      · rw [hg] at f0
        have hown2 := hown
        rw [← lstL_no hg] at hown2
        clear hown hg
        go_wp2
        go_roundw
        case rel => exact ⟨k + 1, by omega, by go_num, hown2, hbel⟩
        case measure => simp [intOf]; omega
      · rw [hg] at f0
        have HG := hide hg
        clear hg
        go_wp2_with (at_builtin; refine wpList_append_own _ rfl _ _ 23 rfl w.heap.size 3 i0 (.int .i64 0) 1 8 Tryz.underlying23 hi hz0 hz1 hz2 rfl (by decide) _ _ _ rfl (hown.alloc _) ⟨_, 0, none⟩ 1 1 [.int .i64 (k : Int)] rfl rfl ?c1 ?c2 ?c3 ?c4 ?c5 ?_)
        case c1 => exact one_new _ _ _
        case c2 => intro u hu; simp only [List.mem_singleton] at hu; subst hu; rfl
        case c3 => unfold maxLen; omega
        case c4 => omega
        case c5 => have := hbel.size; simp; omega
        · intro v' w1 hown' hgrow _
          have hbel' : Below w.heap.size w w1 := (hbel.alloc hbel.size _).grown hgrow (by have := hbel.size; simp; omega) (fun k' e => (hown.lt k' e).1)
          have hown2 : w1.ownsRow w.heap.size 3 1 v' (lstL g (k + 1)).length ((lstL g (k + 1)).map (Value.int .i64)) := by rw [lstL_yes HG.out, List.map_append, List.length_append]; exact hown'
          clear hown' hgrow hown hbel
          go_wp2
          go_roundw
          case rel => exact ⟨k + 1, by omega, by go_num, hown2, hbel'⟩
          case measure => simp [intOf]; omega
    · have e : k = N := by omega
      subst e
      go_wp2
      go_ret
      exact ⟨_, rfl, hown, hbel⟩

/-- The least of the rules at states that are told; -1: none. -/
def lst1 (rs : List Int) (m : Int) (z : Int) : Int := match rs[z.toNat]? with
  | some r => if r ≠ -1 ∧ (m = -1 ∨ r < m) then r else m
  | none => m
def lstR (rs : List Int) (zs : List Int) : Int := zs.foldl (lst1 rs) (-1)
theorem lstR_step {rs zs : List Int} {k : Nat} {z : Int} (h : zs[k]? = some z) : lstR rs (zs.take (k + 1)) = lst1 rs (lstR rs (zs.take k)) z := by
  unfold lstR; rw [take_at h, List.foldl_append]; rfl
theorem lst1_yes {rs : List Int} {m z r : Int} (h : rs[z.toNat]? = some r) (c : r ≠ -1 ∧ (m = -1 ∨ r < m)) : lst1 rs m z = r := by unfold lst1; rw [h]; exact if_pos c
theorem lst1_no {rs : List Int} {m z r : Int} (h : rs[z.toNat]? = some r) (c : ¬ (r ≠ -1 ∧ (m = -1 ∨ r < m))) : lst1 rs m z = m := by unfold lst1; rw [h]; exact if_neg c

set_option maxRecDepth 100000 in
set_option maxHeartbeats 3200000 in
theorem leastRule_any (x0 x1 x2 : Value) (a3 a : Option Addr) (N c3 len cap : Nat) (rs zs : List Int) (w : World) (hl : len ≤ 10000) (hr : rs.length = N) (hz : zs.length = len) (hR : Wd w a3 rs) (hZ : Wd w a zs) (hst : ∀ z ∈ zs, 0 ≤ z ∧ z < (N : Int)) :
    Calls Tryz.prog 101 #[.agg #[x0, x1, x2, .slice a3 N c3], .slice a len cap] w fun e w' => e = .returned (.int .i64 (lstR rs zs)) ∧ Below w.heap.size w w' := by
  obtain ⟨p0, p1, p2, p3⟩ := bx_new w x0 x1 x2 (.slice a3 N c3)
  have hb0 := ((Below.refl w.heap.size w).alloc (Nat.le_refl _) (.cells #[x0, x1, x2, .slice a3 N c3] 97))
  have HR := hide (wd_below hb0 hR)
  have HZ := hide (wd_below hb0 hZ)
  have HRL := hide hr
  have HZL := hide hz
  have HST := hide hst
  have HB := hide hb0
  clear hR hZ hr hz hst hb0
  go_enter Tryz.func101, Tryz.ntmps101
  go_wp2_with fail
  clear p0 p1 p2
  generalize w.alloc (.cells #[x0, x1, x2, .slice a3 N c3] 97) = W0 at *
  generalize hB : w.heap.size = B at *
  go_loopw [5, 7, 8, 11] (fun m _ _ i wr => ∃ k : Nat, k ≤ len ∧ i = .int .i64 k ∧ m = .int .i64 (lstR rs (zs.take k)) ∧ wr = W0) (fun _ _ _ i _ => len - (intOf i).toNat)
  case atStart => exact ⟨0, Nat.zero_le _, rfl, rfl, rfl⟩
  case round =>
    obtain ⟨k, hk, rfl, rfl, rfl⟩ := hrel
    by_cases hlt : k < len
    · obtain ⟨z, hz⟩ : ∃ z, zs[k]? = some z := ⟨_, List.getElem?_eq_getElem (by rw [HZL.out]; exact hlt)⟩
      obtain ⟨zb, zo, rfl, kz⟩ := HZ.out k z hz
      have hzr := HST.out z (List.mem_of_getElem? hz)
      obtain ⟨q, rfl⟩ : ∃ q : Nat, z = q := ⟨z.toNat, by omega⟩
      obtain ⟨r, hr⟩ : ∃ r, rs[q]? = some r := ⟨_, List.getElem?_eq_getElem (by rw [HRL.out]; omega)⟩
      obtain ⟨rb, ro, rfl, kr⟩ := HR.out q r hr
      have HS := hide (lstR_step (rs := rs) hz)
      have HRR := hide (show rs[(q : Int).toNat]? = some r from hr)
      obtain ⟨m, hm⟩ : ∃ m, lstR rs (zs.take k) = m := ⟨_, rfl⟩
      rw [hm]
      have HM := hide hm
      have i1 : (0 : Int) ≤ (k : Int) := by omega
      have i2 : (k : Int) < (len : Int) := by omega
      have i3 : (0 : Int) ≤ (q : Int) := by omega
      have i4 : (q : Int) < (N : Int) := by omega
      clear hz hr hm hzr
      by_cases r0 : r = -1
      · subst r0
        have HN := hide (show lstR rs (zs.take (k + 1)) = m by rw [HS.out, HM.out]; exact lst1_no HRR.out (fun c => c.1 rfl))
        go_wp2
        go_roundw
        case rel => exact ⟨k + 1, by omega, by go_num, by rw [HN.out], trivial⟩
        case measure => simp [intOf]; omega
      have y0 : (r != -1) = true := by simp [r0]
      by_cases m0 : m = -1
      · subst m0
        have HN := hide (show lstR rs (zs.take (k + 1)) = r by rw [HS.out, HM.out]; exact lst1_yes HRR.out ⟨r0, .inl rfl⟩)
        go_wp2
        go_roundw
        case rel => exact ⟨k + 1, by omega, by go_num, by rw [HN.out], trivial⟩
        case measure => simp [intOf]; omega
      have y1 : (m == -1) = false := by simp [m0]
      by_cases lt : r < m
      · have HN := hide (show lstR rs (zs.take (k + 1)) = r by rw [HS.out, HM.out]; exact lst1_yes HRR.out ⟨r0, .inr lt⟩)
        have y2 : decide (r < m) = true := by simp [lt]
        go_wp2
        go_roundw
        case rel => exact ⟨k + 1, by omega, by go_num, by rw [HN.out], trivial⟩
        case measure => simp [intOf]; omega
      · have HN := hide (show lstR rs (zs.take (k + 1)) = m by rw [HS.out, HM.out]; exact lst1_no HRR.out (fun c => by rcases c.2 with c | c <;> omega))
        have y2 : decide (r < m) = false := by simp; omega
        go_wp2
        go_roundw
        case rel => exact ⟨k + 1, by omega, by go_num, by rw [HN.out], trivial⟩
        case measure => simp [intOf]; omega
    · have e : k = len := by omega
      subst e
      have HT := hide (show zs.take k = zs from List.take_of_length_le (by have := HZL.out; omega))
      rw [HT.out]
      go_wp2
      go_ret
      exact ⟨rfl, hB ▸ HB.out⟩

end Go.Proofs.YtbbfjjjnifomgaaGreatDoor.A



/- The program's closed: free steps followed by a closure that calls itself. -/
namespace Go.Proofs.YtbbfjjjnifomgaaGreatDoor.A
open Go.RowKit

theorem below_drew1 (V : World) : Below V.heap.size V V.drew := (Below.refl _ _).drew
/-- All but one block is as it was. -/
structure Kp (M : Nat) (w w' : World) : Prop where
  os : w'.os = w.os
  tape : w'.tape = w.tape
  output : w'.output = w.output
  size : w.heap.size ≤ w'.heap.size
  block : ∀ k, k < w.heap.size → k ≠ M → w'.heap[k]? = w.heap[k]?
theorem Kp.refl (M : Nat) (w : World) : Kp M w w := ⟨rfl, rfl, rfl, Nat.le_refl _, fun _ _ _ => rfl⟩
theorem Kp.trans {M : Nat} {a b c : World} (h : Kp M a b) (k : Kp M b c) : Kp M a c :=
  ⟨k.os.trans h.os, k.tape.trans h.tape, k.output.trans h.output, Nat.le_trans h.size k.size, fun i hi hn => (k.block i (Nat.lt_of_lt_of_le hi h.size) hn).trans (h.block i hi hn)⟩
theorem Kp.of_below {M : Nat} {w w' : World} (h : Below w.heap.size w w') : Kp M w w' := ⟨h.os, h.tape, h.output, h.size, fun k hk _ => h.block k hk⟩
theorem Kp.drew {M : Nat} {w w' : World} (h : Kp M w w') : Kp M w w'.drew := ⟨h.os, h.tape, h.output, h.size, h.block⟩
theorem Kp.set {M : Nat} {w w' : World} (h : Kp M w w') (i : Nat) (u : Value) : Kp M w (w'.setCell ⟨M, i, none⟩ u) :=
  ⟨h.os, h.tape, h.output, by simpa using h.size, fun k hk hn => (Below.heap_setCell _ _ _ _ hn).trans (h.block k hk hn)⟩
theorem Kp.cell {M : Nat} {w w' : World} (h : Kp M w w') {p : Addr} (hp : p.block < w.heap.size) (hn : p.block ≠ M) : w'.cell? p = w.cell? p := World.cell?_of_block (w := w) (h.block p.block hp hn)
theorem Kp.below {M B : Nat} {w0 w w' : World} (h : Kp M w w') (hb : Below B w0 w) (hB : B ≤ w.heap.size) (hM : B ≤ M) : Below B w0 w' :=
  hb.trans ⟨h.os, h.tape, h.output, h.size, fun k hk => h.block k (by omega) (by omega)⟩
theorem bx_kp {M p : Nat} {w w' : World} {x0 x1 x2 x3 : Value} (h : Kp M w w') (hn : p ≠ M) (b : Bx w p x0 x1 x2 x3) : Bx w' p x0 x1 x2 x3 := by
  have hl : p < w.heap.size := cell_lt b.1
  exact ⟨(h.cell (p := ⟨p, 0, none⟩) hl hn).trans b.1, (h.cell (p := ⟨p, 1, none⟩) hl hn).trans b.2.1, (h.cell (p := ⟨p, 2, none⟩) hl hn).trans b.2.2.1, (h.cell (p := ⟨p, 3, none⟩) hl hn).trans b.2.2.2⟩

/-- Marks that were added are closed. -/
def Fol (fs : List (List Int)) (N : Nat) (g g' : Nat → Bool) : Prop := (∀ j, j < N → g j = true → g' j = true) ∧ ∀ i, i < N → g i = false → ClAt fs g' i
/-- Those of the first k that are states are marked. -/
def Had (N : Nat) (g : Nat → Bool) (zs : List Int) (k : Nat) : Prop := ∀ p, p < k → ∀ z : Nat, zs[p]? = some (z : Int) → z < N → g z = true
theorem fol_refl (fs : List (List Int)) (N : Nat) (g : Nat → Bool) : Fol fs N g g := ⟨fun _ _ h => h, fun i _ h h' => by rw [h] at h'; cases h'⟩
theorem fol_step {fs : List (List Int)} {N z : Nat} {g g1 g2 : Nat → Bool} (hok : ∀ (i : Nat) (l : List Int), fs[i]? = some l → ∀ z ∈ l, 0 ≤ z ∧ z < (N : Int)) (h : Fol fs N g g1) (h2 : Fol fs N (fun j => if j = z then true else g1 j) g2) (hz : ∀ l, fs[z]? = some l → ∀ j : Nat, (j : Int) ∈ l → g2 j = true) : Fol fs N g g2 := by
  have up : ∀ j, j < N → g1 j = true → g2 j = true := fun j hj e => h2.1 j hj (by show (if j = z then true else g1 j) = true; rw [e]; simp)
  refine ⟨fun j hj e => up j hj (h.1 j hj e), fun i hi e => ?_⟩
  cases h1 : g1 i
  · by_cases q : i = z
    · subst q; exact fun _ l hl j hj => hz l hl j hj
    · exact h2.2 i hi (by show (if i = z then true else g1 i) = false; rw [if_neg q]; exact h1)
  · intro _ l hl j hj
    have hjN : j < N := by have := hok i l hl _ hj; omega
    exact up j hjN (h.2 i hi e h1 l hl j hj)
theorem had_mono {N : Nat} {g g' : Nat → Bool} {zs : List Int} {k : Nat} (h : Had N g zs k) (hg : ∀ j, j < N → g j = true → g' j = true) : Had N g' zs k := fun p hp z hz hN => hg z hN (h p hp z hz hN)
theorem had_one {N : Nat} {g : Nat → Bool} {zs : List Int} {k : Nat} (h : Had N g zs k) (hk : ∀ z : Nat, zs[k]? = some (z : Int) → z < N → g z = true) : Had N g zs (k + 1) := fun p hp z hz hN => by
  by_cases e : p = k
  · subst e; exact hk z hz hN
  · exact h p (by omega) z hz hN

set_option maxRecDepth 100000 in
set_option maxHeartbeats 6400000 in
theorem follow_any (w0 : World) (M p q r : Nat) (hM : w0.heap.size ≤ M) (hpM : p ≠ M) (hqM : q ≠ M) (hrM : r ≠ M) (a0 : Option Addr) (N c0 : Nat) (x1 x2 x3 : Value) (fs : List (List Int)) (R : Nat → Prop) (hR : ∀ (i j : Nat) (l : List Int), R i → fs[i]? = some l → (j : Int) ∈ l → R j)
    (hfl : fs.length = N) (hll : ∀ (i : Nat) (l : List Int), fs[i]? = some l → l.length ≤ maxLen) (hFs : Fs w0 a0 fs) (hok : ∀ (i : Nat) (l : List Int), fs[i]? = some l → ∀ z ∈ l, 0 ≤ z ∧ z < (N : Int)) :
    ∀ (m : Nat) (g : Nat → Bool) (zs : List Int) (a : Option Addr) (len cap : Nat) (w : World), cntF g N ≤ m → zs.length = len → len ≤ maxLen → Wd w0 a zs → Below w0.heap.size w0 w → Bx w p (.slice a0 N c0) x1 x2 x3 →
      w.cell? ⟨q, 0, none⟩ = some (.slice (some ⟨M, 0, none⟩) N N) → w.cell? ⟨r, 0, none⟩ = some (.func (.func 152) #[] #[.pointer (some ⟨p, 0, none⟩), .pointer (some ⟨q, 0, none⟩), .pointer (some ⟨r, 0, none⟩)]) → Mk w M N g →
      (∀ z : Nat, (z : Int) ∈ zs → z < N → R z) → (∀ j, j < N → g j = true → R j) →
      Calls Tryz.prog 152 #[.slice a len cap, .pointer (some ⟨p, 0, none⟩), .pointer (some ⟨q, 0, none⟩), .pointer (some ⟨r, 0, none⟩)] w fun e w' =>
        e = .returned (.tuple #[]) ∧ Kp M w w' ∧ ∃ g', Mk w' M N g' ∧ Fol fs N g g' ∧ Had N g' zs len ∧ ∀ j, j < N → g' j = true → R j := by
  intro m
  induction m using Nat.strongRecOn with
  | _ m ih =>
    intro g zs a len cap w hcnt hzl hlen hW hb0 hbx hcq hcr hmk hzR hgR
    have IH := hide ih
    have HW := hide hW
    have HB0 := hide hb0
    have HBX := hide hbx
    have HCQ := hide hcq
    have HCR := hide hcr
    have HMK := hide hmk
    have HZR := hide hzR
    have HGR := hide hgR
    have HZL := hide hzl
    have HCN := hide hcnt
    have HFS := hide hFs
    have HFL := hide hfl
    have HLL := hide hll
    have HOK := hide hok
    have HRR := hide hR
    clear ih hW hb0 hbx hcq hcr hmk hzR hgR hzl hcnt hFs hfl hll hok hR
    have hlen' := hlen
    unfold maxLen at hlen'
    have HLN := hide hlen
    clear hlen
    go_enter Tryz.func152, Tryz.ntmps152
    go_wp2_with fail
    go_loopw [6, 9] (fun _ i wr => ∃ k : Nat, k ≤ len ∧ i = .int .i64 k ∧ Kp M w wr ∧ ∃ g', Mk wr M N g' ∧ Fol fs N g g' ∧ Had N g' zs k ∧ ∀ j, j < N → g' j = true → R j) (fun _ i _ => len - (intOf i).toNat)
    case atStart => exact ⟨0, Nat.zero_le _, rfl, Kp.refl _ _, g, HMK.out, fol_refl _ _ _, fun p hp => by omega, HGR.out⟩
    case round =>
      obtain ⟨k, hk, rfl, hkp, g1, hm1, hf1, hh1, hr1⟩ := hrel
      have HKP := hide hkp
      have HM1 := hide hm1
      have HF1 := hide hf1
      have HH1 := hide hh1
      have HR1 := hide hr1
      clear hkp hm1 hf1 hh1 hr1
      by_cases hlt : k < len
      · obtain ⟨z, hz⟩ : ∃ z, zs[k]? = some z := ⟨_, List.getElem?_eq_getElem (by rw [HZL.out]; exact hlt)⟩
        have HBR := hide (HKP.out.below HB0.out HB0.out.size hM)
        obtain ⟨zb, zo, rfl, kz⟩ := wd_below HBR.out HW.out k z hz
        have HZ := hide hz
        have i1 : (0 : Int) ≤ (k : Int) := by omega
        have i2 : (k : Int) < (len : Int) := by omega
        have HXR := hide (bx_kp HKP.out hpM HBX.out)
        obtain ⟨p0, p1, p2, p3⟩ := HXR.out
        clear hz
        go_wp2_with fail
        refine (isState_any a0 N c0 x1 x2 x3 z wr).mono ?_
        rintro e w2 ⟨rfl, hb2⟩
        have HK2 := hide (HKP.out.trans (Kp.of_below hb2))
        have HM2 := hide (mk_below (mk_lt HM1.out) hb2 HM1.out)
        clear hb2 p0 p1 p2 p3 kz HXR
        cases hst : isSt N z
        · have HN := hide (had_one HH1.out (fun z' hz' hN' => by
            rw [HZ.out] at hz'
            have e : z = (z' : Int) := by simpa using hz'
            have : isSt N z = true := by unfold isSt; rw [e]; simp [hN']
            rw [hst] at this; cases this))
          clear hst
          go_wp2
          go_roundw
          case rel => exact ⟨k + 1, by omega, by go_num, HK2.out, g1, HM2.out, HF1.out, HN.out, HR1.out⟩
          case measure => simp [intOf]; omega
        · obtain ⟨y, rfl⟩ : ∃ y : Nat, z = y := ⟨z.toNat, by unfold isSt at hst; simp at hst; omega⟩
          have hy : y < N := by unfold isSt at hst; simp at hst; exact hst
          have HST := hide hst
          clear hst
          have hq2 := (HK2.out.cell (p := ⟨q, 0, none⟩) (cell_lt HCQ.out) hqM).trans HCQ.out
          obtain ⟨m0, m1⟩ := mk_cell HM2.out hy
          have i3 : (0 : Int) ≤ (y : Int) := by omega
          have i4 : (y : Int) < (N : Int) := by omega
          cases hgy : g1 y
          case true =>
            rw [hgy] at m0
            have HN := hide (had_one HH1.out (fun z' hz' hN' => by
              rw [HZ.out] at hz'
              have e : y = z' := by have h := Option.some.inj hz'; omega
              rw [← e]; exact hgy))
            clear hgy
            go_wp2
            go_roundw
            case rel => exact ⟨k + 1, by omega, by go_num, HK2.out, g1, HM2.out, HF1.out, HN.out, HR1.out⟩
            case measure => simp [intOf]; omega
          rw [hgy] at m0
          have HGY := hide hgy
          clear hgy
          obtain ⟨l, hl⟩ : ∃ l, fs[y]? = some l := ⟨_, List.getElem?_eq_getElem (by rw [HFL.out]; exact hy)⟩
          have HL := hide hl
          obtain ⟨fb, fo, fa, fc, hfa, kf0, hwd⟩ := HFS.out y l hl
          subst hfa
          have HWL := hide hwd
          have HKF := hide kf0
          clear hl hwd kf0
          have HM3 := hide (mk_set HM2.out hy true)
          have HK3 := hide (HK2.out.set y (.bool true))
          go_wp2_with fail
          clear m0 m1 hq2
          generalize w2.setCell ⟨M, y, none⟩ (.bool true) = w3 at *
          have HB3 := hide (HK3.out.below HB0.out HB0.out.size hM)
          have HX3 := hide (bx_kp HK3.out hpM HBX.out)
          have hr3 := (HK3.out.cell (p := ⟨r, 0, none⟩) (cell_lt HCR.out) hrM).trans HCR.out
          have HQ3 := hide ((HK3.out.cell (p := ⟨q, 0, none⟩) (cell_lt HCQ.out) hqM).trans HCQ.out)
          have hp3 := HX3.out.1
          have hf3 := (HB3.out.cell (p := ⟨fb, fo + y, none⟩) (cell_lt HKF.out)).trans HKF.out
          have hfM : fb ≠ M := by have := cell_lt HKF.out; simp at this; omega
          have HCL := hide (show cntF (fun j => if j = y then true else g1 j) N < m from by
            have h1 := cntF_lt (h := fun j => if j = y then true else g1 j) N (fun j _ e => by show (if j = y then true else g1 j) = true; rw [e]; simp) y hy HGY.out (by simp)
            have h2 := cntF_mono (g := g) (h := g1) N HF1.out.1
            have h3 := HCN.out
            omega)
          have HRy := hide (show R y from HZR.out y (List.mem_of_getElem? HZ.out) hy)
          have HC := hide (IH.out _ HCL.out (fun j => if j = y then true else g1 j) l fa l.length fc w3.drew (Nat.le_refl _) rfl (HLL.out y l HL.out) HWL.out HB3.out.drew HX3.out HQ3.out hr3 HM3.out (fun z hz _ => HRR.out y z l HRy.out HL.out hz) (fun j hj e => by
            by_cases ej : j = y
            · subst ej; exact HRy.out
            · exact HR1.out j hj (by simpa [ej] using e)))
          go_region_held3 (fun w' => w'.cell? ⟨r, 0, none⟩ = some (.func (.func 152) #[] #[.pointer (some ⟨p, 0, none⟩), .pointer (some ⟨q, 0, none⟩), .pointer (some ⟨r, 0, none⟩)]) ∧ w'.cell? ⟨p, 0, none⟩ = some (.slice (some ⟨fb, fo, none⟩) N c0) ∧ w'.cell? ⟨fb, fo + y, none⟩ = some (.slice fa l.length fc)) (first | assumption | go_keep) ((go_at_call 152; refine HC.out.mono ?_; rintro e w4 ⟨rfl, hk4, hg4⟩; have k9 := And.intro ((hk4.cell (p := ⟨r, 0, none⟩) (cell_lt hr3) hrM).trans hr3) (And.intro ((hk4.cell (p := ⟨p, 0, none⟩) (cell_lt hp3) hpM).trans hp3) ((hk4.cell (p := ⟨fb, fo + y, none⟩) (cell_lt hf3) hfM).trans hf3))))
          obtain ⟨g4, hm4, hf4, hh4, hr4⟩ := hg4
          have HK4 := hide (HK3.out.drew.trans hk4)
          have HM4 := hide hm4
          have HR4 := hide hr4
          have HF4 := hide (fol_step HOK.out HF1.out hf4 (fun l' hl' j hj => by
            rw [HL.out] at hl'
            cases hl'
            obtain ⟨pp, hpp, e⟩ := List.getElem_of_mem hj
            exact hh4 pp hpp j (by rw [List.getElem?_eq_getElem hpp, e]) (by have := HOK.out y l HL.out _ hj; omega)))
          have HN := hide (had_one (had_mono HH1.out (fun j hj e => hf4.1 j hj (by show (if j = y then true else g1 j) = true; rw [e]; simp))) (fun z' hz' hN' => by
            rw [HZ.out] at hz'
            have e : y = z' := by have h := Option.some.inj hz'; omega
            rw [← e]; exact hf4.1 y hy (by simp)))
          clear hm4 hf4 hh4 hr4 hk4 k9 hr3 hp3 hf3 HC
          go_wp2
          go_roundw
          case rel => exact ⟨k + 1, by omega, by go_num, HK4.out, g4, HM4.out, HF4.out, HN.out, HR4.out⟩
          case measure => simp [intOf]; omega
      · have e : k = len := by omega
        subst e
        go_wp2
        exact bodyPost_end (v := .tuple #[]) (by simp [results, Tryz.results152, go_sem]) rfl ⟨rfl, HKP.out, g1, HM1.out, HF1.out, HH1.out, HR1.out⟩

end Go.Proofs.YtbbfjjjnifomgaaGreatDoor.A



/- The program's closed and stepped. -/
namespace Go.Proofs.YtbbfjjjnifomgaaGreatDoor.A
open Go.RowKit

theorem tbl_iff (zs : List Int) (k j : Nat) : tblB zs k j = true ↔ ∃ p, p < k ∧ zs[p]? = some (j : Int) := by
  unfold tblB
  rw [List.any_eq_true]
  constructor
  · rintro ⟨z, hz, e⟩
    have e' : z = (j : Int) := by simpa using e
    obtain ⟨p, hp, h⟩ := List.getElem_of_mem hz
    have hp' : p < k ∧ p < zs.length := by rw [List.length_take] at hp; omega
    refine ⟨p, hp'.1, ?_⟩
    rw [List.getElem?_eq_getElem hp'.2, ← e', ← h, List.getElem_take]
  · rintro ⟨p, hp, h⟩
    refine ⟨(j : Int), ?_, by simp⟩
    have : (zs.take k)[p]? = some (j : Int) := by rw [List.getElem?_take_of_lt hp]; exact h
    exact List.mem_of_getElem? this
theorem tbl_mem (zs : List Int) (j : Nat) : tblB zs zs.length j = true ↔ (j : Int) ∈ zs := by
  rw [tbl_iff]
  constructor
  · rintro ⟨p, _, h⟩; exact List.mem_of_getElem? h
  · intro h
    obtain ⟨p, hp, e⟩ := List.getElem_of_mem h
    exact ⟨p, hp, by rw [List.getElem?_eq_getElem hp, e]⟩
theorem mk_old {w : World} {F n : Nat} {g : Nat → Bool} (d : Mk w F n g) (o : Obj) : Mk (w.alloc o) F n g := by
  unfold Mk; rw [Below.heap_alloc _ _ _ (mk_lt d)]; exact d

theorem cell_last (w : World) (u : Value) (t : TypeId) : (w.alloc (.cells #[u] t)).cell? ⟨w.heap.size, 0, none⟩ = some u := by simp
theorem lay4 (w : World) (x0 x1 x2 x3 u f : Value) (N : Nat) : ∃ W, W = ((((w.alloc (.cells #[x0, x1, x2, x3] 97)).alloc (.cells (rowB N fun _ => false) 4)).alloc (.cells #[u] 70)).alloc (.cells #[f] 210)) ∧
    Bx W w.heap.size x0 x1 x2 x3 ∧ Mk W (w.heap.size + 1) N (fun _ => false) ∧ W.cell? ⟨w.heap.size + 1 + 1, 0, none⟩ = some u ∧ W.cell? ⟨w.heap.size + 1 + 1 + 1, 0, none⟩ = some f ∧ Below w.heap.size w W := by
  refine ⟨_, rfl, ?_, ?_, ?_, ?_, ?_⟩
  · have hb : Below (w.heap.size + 1) (w.alloc (.cells #[x0, x1, x2, x3] 97)) ((((w.alloc (.cells #[x0, x1, x2, x3] 97)).alloc (.cells (rowB N fun _ => false) 4)).alloc (.cells #[u] 70)).alloc (.cells #[f] 210)) := (((Below.refl _ _).alloc (by simp) _).alloc (by simp) _).alloc (by simp) _
    exact bx_below hb (Nat.lt_succ_self _) (bx_new w x0 x1 x2 x3)
  · exact mk_old (mk_old (mk_new _ _ _) _) _
  · have h := cell_last ((w.alloc (.cells #[x0, x1, x2, x3] 97)).alloc (.cells (rowB N fun _ => false) 4)) u 70
    have e : ((w.alloc (.cells #[x0, x1, x2, x3] 97)).alloc (.cells (rowB N fun _ => false) 4)).heap.size = w.heap.size + 1 + 1 := by simp
    rw [e] at h
    rw [← h]
    exact ((Below.refl (w.heap.size + 1 + 1 + 1) (((w.alloc (.cells #[x0, x1, x2, x3] 97)).alloc (.cells (rowB N fun _ => false) 4)).alloc (.cells #[u] 70))).alloc (by simp) (.cells #[f] 210)).cell (p := ⟨w.heap.size + 1 + 1, 0, none⟩) (Nat.lt_succ_self _)
  · have h := cell_last (((w.alloc (.cells #[x0, x1, x2, x3] 97)).alloc (.cells (rowB N fun _ => false) 4)).alloc (.cells #[u] 70)) f 210
    have e : (((w.alloc (.cells #[x0, x1, x2, x3] 97)).alloc (.cells (rowB N fun _ => false) 4)).alloc (.cells #[u] 70)).heap.size = w.heap.size + 1 + 1 + 1 := by simp
    rw [e] at h
    exact h
  · exact ((((Below.refl _ _).alloc (Nat.le_refl _) _).alloc (by simp) _).alloc (by simp; omega) _).alloc (by simp; omega) _
theorem own_low {w : World} {base base' : Nat} {e : TypeId} {size : Nat} {v : Value} {n : Nat} {xs : List Value} (h : w.ownsRow base e size v n xs) (hb : base' ≤ base) : w.ownsRow base' e size v n xs := by
  obtain ⟨h1, h2 | ⟨g, cap, cur, hv, hg, r⟩⟩ := h
  · exact ⟨h1, .inl h2⟩
  · exact ⟨h1, .inr ⟨g, cap, cur, hv, Nat.le_trans hb hg, r⟩⟩

set_option maxRecDepth 100000 in
set_option maxHeartbeats 3200000 in
theorem closed_any (a0 : Option Addr) (N c0 : Nat) (x1 x2 x3 : Value) (a : Option Addr) (len cap : Nat) (fs : List (List Int)) (zs : List Int) (w : World) (hN : N ≤ 10000) (hf : fs.length = N) (hll : ∀ (i : Nat) (l : List Int), fs[i]? = some l → l.length ≤ maxLen)
    (hFs : Fs w a0 fs) (hok : ∀ (i : Nat) (l : List Int), fs[i]? = some l → ∀ z ∈ l, 0 ≤ z ∧ z < (N : Int)) (hz : zs.length = len) (hl : len ≤ maxLen) (hW : Wd w a zs) :
    Calls Tryz.prog 127 #[.agg #[.slice a0 N c0, x1, x2, x3], .slice a len cap] w fun e w' =>
      ∃ g v, IsCl fs N (tblB zs len) g ∧ e = .returned v ∧ w'.ownsRow w.heap.size 3 1 v (lstL g N).length ((lstL g N).map (Value.int .i64)) ∧ Below w.heap.size w w' := by
  have hmk : ∀ w, (Instr.makeSlice 70 (.int .i64 (N : Int)) (.int .i64 (N : Int))).run Tryz.prog w = .ok (.slice (some ⟨w.heap.size, 0, none⟩) N N) (w.alloc (.cells (rowB N fun _ => false) 4)) := make39 N hN
  have hmf : ∀ (fn : Fn) (first cap : Array Value) (w : World), (Instr.makeFunc fn first cap).run Tryz.prog w = .ok (.func fn first cap) w := fun _ _ _ _ => rfl
  have hstf : ∀ (a : Addr) (fn : Fn) (first cap : Array Value) (m : Mode) (w : World), Sem.run Tryz.prog (store a (.func fn first cap) m) w = stored Tryz.prog w a (.func fn first cap) m := fun a fn first cap m w => run_store Tryz.prog w a _ m rfl
  have HFS := hide hFs
  have HFL := hide hf
  have HLL := hide hll
  have HOK := hide hok
  have HZ := hide hz
  have HL := hide hl
  have HW := hide hW
  clear hFs hf hll hok hz hl hW
  obtain ⟨p0, p1, p2, p3⟩ := bx_new w (.slice a0 N c0) x1 x2 x3
  go_enter Tryz.func127, Tryz.ntmps127
  go_wp2_with fail
  clear p0 p1 p2 p3 hmk hmf hstf
  obtain ⟨W, eW, hbx, hmk, hcu, hcf, hbel⟩ := lay4 w (.slice a0 N c0) x1 x2 x3 (.slice (some ⟨w.heap.size + 1, 0, none⟩) N N) (.func (.func 152) #[] #[.pointer (some ⟨w.heap.size, 0, none⟩), .pointer (some ⟨w.heap.size + 1 + 1, 0, none⟩), .pointer (some ⟨w.heap.size + 1 + 1 + 1, 0, none⟩)]) N
  rw [← eW]
  clear eW
  refine (follow_any w (w.heap.size + 1) w.heap.size (w.heap.size + 1 + 1) (w.heap.size + 1 + 1 + 1) (by omega) (by omega) (by omega) (by omega) a0 N c0 x1 x2 x3 fs (Rch fs N (tblB zs len)) (fun i j l h hl hj => .on h hl hj) HFL.out HLL.out HFS.out HOK.out _ (fun _ => false) zs a len cap W (Nat.le_refl _) HZ.out HL.out HW.out hbel hbx hcu hcf hmk
    (fun z hz hN => .here hN (by rw [← HZ.out]; exact (tbl_mem zs z).2 hz)) (fun j _ e => by cases e)).mono ?_
  rintro e w1 ⟨rfl, hk1, g, hm1, hf1, hh1, hr1⟩
  have HIS := hide (show IsCl fs N (tblB zs len) g from closed_is (fun j hj e => by
      obtain ⟨pp, hpp, hh⟩ := (tbl_iff zs len j).1 e
      exact hh1 pp hpp j hh hj) hr1 (fun i hi => hf1.2 i hi rfl) HOK.out)
  have hq1 := (hk1.cell (p := ⟨w.heap.size + 1 + 1, 0, none⟩) (cell_lt hcu) (by simp)).trans hcu
  have HB1 := hide (hk1.below hbel hbel.size (by omega))
  have HM1 := hide hm1
  clear hbx hmk hcu hcf hf1 hh1 hr1 hk1 hm1 hbel
  go_wp2_with fail
  refine (rising_any (w.heap.size + 1) N g w1 hN HM1.out).mono ?_
  rintro e w2 ⟨v, rfl, ho, hb2⟩
  have HO := hide (own_low ho HB1.out.size)
  have HB2 := hide (HB1.out.trans (hb2.mono HB1.out.size))
  clear ho hb2 hq1
  go_wp2
  go_ret
  exact ⟨g, v, HIS.out, rfl, HO.out, HB2.out⟩

theorem stp_no {ss : List Nat} {ts : List Int} {c : Int} {zs : List Int} {k N : Nat} {z : Int} (hz : zs[k]? = some z) (h : ∀ i s : Nat, z = i → i < N → ss[i]? = some s → inS s c = false) (j : Nat) : stpB ss ts c (tblB zs k) N j = stpB ss ts c (tblB zs (k + 1)) N j := by
  rw [Bool.eq_iff_iff, stpB_iff, stpB_iff]
  constructor
  · rintro ⟨i, s, hi, ho, hS, hc⟩
    exact ⟨i, s, hi, by rw [tblB_step hz, ho]; rfl, hS, hc⟩
  · rintro ⟨i, s, hi, ho, hS, hc⟩
    rw [tblB_step hz, Bool.or_eq_true] at ho
    rcases ho with ho | ho
    · exact ⟨i, s, hi, ho, hS, hc⟩
    · have e : z = (i : Int) := by simpa using ho
      rw [h i s e hi hS.1] at hc; cases hc
theorem stp_yes {ss : List Nat} {ts : List Int} {c : Int} {zs : List Int} {k N y s t : Nat} (hz : zs[k]? = some (y : Int)) (hy : y < N) (hs : ss[y]? = some s) (ht : ts[y]? = some (t : Int)) (hc : inS s c = true) (j : Nat) : (if j = t then true else stpB ss ts c (tblB zs k) N j) = stpB ss ts c (tblB zs (k + 1)) N j := by
  rw [Bool.eq_iff_iff, stpB_iff]
  constructor
  · intro h
    by_cases e : j = t
    · subst e
      exact ⟨y, s, hy, by rw [tblB_step hz]; simp, ⟨hs, ht⟩, hc⟩
    · rw [if_neg e, stpB_iff] at h
      obtain ⟨i, s', hi, ho, hS, hc'⟩ := h
      exact ⟨i, s', hi, by rw [tblB_step hz, ho]; rfl, hS, hc'⟩
  · rintro ⟨i, s', hi, ho, hS, hc'⟩
    rw [tblB_step hz, Bool.or_eq_true] at ho
    rcases ho with ho | ho
    · by_cases e : j = t
      · rw [if_pos e]
      · rw [if_neg e, stpB_iff]; exact ⟨i, s', hi, ho, hS, hc'⟩
    · have e : y = i := by have : (y : Int) = (i : Int) := by simpa using ho
                           omega
      subst e
      have e2 : t = j := by have h1 := hS.2; rw [ht] at h1; have := Option.some.inj h1; omega
      rw [if_pos e2.symm]
theorem stp_none {ss : List Nat} {ts : List Int} {c : Int} (o : Nat → Bool) (N : Nat) (h : ¬ (0 ≤ c ∧ c < 16)) : lstL (stpB ss ts c o N) N = [] := by
  have h0 : ∀ j, stpB ss ts c o N j = false := fun j => by
    rw [Bool.eq_false_iff]
    intro e
    obtain ⟨i, s, _, _, _, hc⟩ := (stpB_iff _ _ _ _ _ _).1 e
    rw [inS_out h] at hc; cases hc
  unfold lstL
  rw [show (List.range N).filter (stpB ss ts c o N) = [] from List.filter_eq_nil_iff.2 (fun a _ => by rw [h0 a]; simp)]
  rfl

set_option maxRecDepth 100000 in
set_option maxHeartbeats 3200000 in
theorem stepped_any (a0 a1 a2 : Option Addr) (N c0 c1 c2 : Nat) (x3 : Value) (a : Option Addr) (len cap : Nat) (ss : List Nat) (ts zs : List Int) (c : Int) (w : World) (hN : N ≤ 10000) (hs : ss.length = N) (ht : ts.length = N)
    (hS : Sts w a1 ss) (hT : Wd w a2 ts) (hok : ∀ (i s : Nat) (t : Int), ss[i]? = some s → ts[i]? = some t → 0 < s → 0 ≤ t ∧ t < N) (hz : zs.length = len) (hl : len ≤ maxLen) (hW : Wd w a zs) :
    Calls Tryz.prog 154 #[.agg #[.slice a0 N c0, .slice a1 N c1, .slice a2 N c2, x3], .slice a len cap, .int .i64 c] w fun e w' =>
      ∃ v, e = .returned v ∧ w'.ownsRow w.heap.size 3 1 v (lstL (stpB ss ts c (tblB zs len) N) N).length ((lstL (stpB ss ts c (tblB zs len) N) N).map (Value.int .i64)) ∧ Below w.heap.size w w' := by
  have hmk : ∀ w, (Instr.makeSlice 70 (.int .i64 (N : Int)) (.int .i64 (N : Int))).run Tryz.prog w = .ok (.slice (some ⟨w.heap.size, 0, none⟩) N N) (w.alloc (.cells (rowB N fun _ => false) 4)) := make39 N hN
  unfold maxLen at hl
  have HS := hide hS
  have HT := hide hT
  have HSL := hide hs
  have HTL := hide ht
  have HOK := hide hok
  have HZ := hide hz
  have HW := hide hW
  clear hS hT hs ht hok hz hW
  have HBX := hide (bx_new w (.slice a0 N c0) (.slice a1 N c1) (.slice a2 N c2) x3)
  have HB0 := hide ((Below.refl w.heap.size w).alloc (Nat.le_refl _) (.cells #[.slice a0 N c0, .slice a1 N c1, .slice a2 N c2, x3] 97))
  obtain ⟨p0, p1, p2, p3⟩ := HBX.out
  by_cases cc : ¬ (0 ≤ c ∧ c < 16)
  · have HE := hide (stp_none (ss := ss) (ts := ts) (tblB zs len) N cc)
    by_cases c0' : c < 0
    · have y0 : decide (c < 0) = true := by simp [c0']
      go_enter Tryz.func154, Tryz.ntmps154
      go_wp2
      go_ret
      exact ⟨_, rfl, by rw [HE.out]; exact World.ownsRow_nil _ _ _ _, HB0.out⟩
    · have y0 : decide (c < 0) = false := by simp; omega
      have y1 : decide (16 ≤ c) = true := by simp; omega
      go_enter Tryz.func154, Tryz.ntmps154
      go_wp2
      go_ret
      exact ⟨_, rfl, by rw [HE.out]; exact World.ownsRow_nil _ _ _ _, HB0.out⟩
  have hc0 : 0 ≤ c := by omega
  have hc1 : c < 16 := by omega
  have y0 : decide (c < 0) = false := by simp; omega
  have y1 : decide (16 ≤ c) = false := by simp; omega
  clear cc
  go_enter Tryz.func154, Tryz.ntmps154
  go_wp2_with fail
  have hm0 : Mk ((w.alloc (.cells #[.slice a0 N c0, .slice a1 N c1, .slice a2 N c2, x3] 97)).alloc (.cells (rowB N fun _ => false) 4)) (w.heap.size + 1) N (stpB ss ts c (tblB zs 0) N) := mk_congr (g := fun _ => false) (mk_new _ _ _) (fun j _ => by
    rw [eq_comm, Bool.eq_false_iff]; intro e; obtain ⟨i, s, _, ho, _, _⟩ := (stpB_iff _ _ _ _ _ _).1 e; simp [tblB] at ho)
  have hb0 := HB0.out.alloc (by simp) (.cells (rowB N fun _ => false) 4)
  have HX0 := hide (bx_below ((Below.refl (w.heap.size + 1) (w.alloc (.cells #[.slice a0 N c0, .slice a1 N c1, .slice a2 N c2, x3] 97))).alloc (by simp) (.cells (rowB N fun _ => false) 4)) (Nat.lt_succ_self _) HBX.out)
  clear hmk p0 p1 p2 p3 HB0 HBX
  generalize (w.alloc (.cells #[.slice a0 N c0, .slice a1 N c1, .slice a2 N c2, x3] 97)).alloc (.cells (rowB N fun _ => false) 4) = W0 at *
  generalize hB : w.heap.size = B at *
  go_loopw [9, 22] (fun _ i wr => ∃ k : Nat, k ≤ len ∧ i = .int .i64 k ∧ Mk wr (B + 1) N (stpB ss ts c (tblB zs k) N) ∧ Kp (B + 1) W0 wr) (fun _ i _ => len - (intOf i).toNat)
  case atStart => exact ⟨0, Nat.zero_le _, rfl, hm0, Kp.refl _ _⟩
  case round =>
    obtain ⟨k, hk, rfl, hm, hkp⟩ := hrel
    clear hm0
    have HKP := hide hkp
    have HM := hide hm
    clear hkp hm
    have HBR := hide (HKP.out.below hb0 (by rw [← hB]; exact hb0.size) (by omega))
    by_cases hlt : k < len
    · obtain ⟨z, hz⟩ : ∃ z, zs[k]? = some z := ⟨_, List.getElem?_eq_getElem (by rw [HZ.out]; exact hlt)⟩
      obtain ⟨zb, zo, rfl, kz⟩ := wd_below (hB ▸ HBR.out) HW.out k z hz
      have HZZ := hide hz
      have i1 : (0 : Int) ≤ (k : Int) := by omega
      have i2 : (k : Int) < (len : Int) := by omega
      have HXR := hide (bx_kp HKP.out (by omega) HX0.out)
      obtain ⟨p0, p1, p2, p3⟩ := HXR.out
      clear hz
      go_wp2_with fail
      refine (isState_any a0 N c0 _ _ x3 z wr).mono ?_
      rintro e w2 ⟨rfl, hb2⟩
      have HK2 := hide (HKP.out.trans (Kp.of_below hb2))
      have HM2 := hide (mk_below (mk_lt HM.out) hb2 HM.out)
      have HB2 := hide (HK2.out.below hb0 (by rw [← hB]; exact hb0.size) (by omega))
      clear hb2 p0 p1 p2 p3 kz HXR
      cases hst : isSt N z
      · have HN := hide (mk_congr HM2.out (fun j _ => stp_no (ss := ss) (ts := ts) (c := c) (N := N) HZZ.out (fun i s e hi _ => by
          have : isSt N z = true := by unfold isSt; rw [e]; simp [hi]
          rw [hst] at this; cases this) j))
        clear hst
        go_wp2
        go_roundw
        case rel => exact ⟨k + 1, by omega, by go_num, HN.out, HK2.out⟩
        case measure => simp [intOf]; omega
      · obtain ⟨y, rfl⟩ : ∃ y : Nat, z = y := ⟨z.toNat, by unfold isSt at hst; simp at hst; omega⟩
        have hy : y < N := by unfold isSt at hst; simp at hst; exact hst
        clear hst
        obtain ⟨s, hcs⟩ : ∃ s, ss[y]? = some s := ⟨_, List.getElem?_eq_getElem (by rw [HSL.out]; exact hy)⟩
        obtain ⟨t, hct⟩ : ∃ t, ts[y]? = some t := ⟨_, List.getElem?_eq_getElem (by rw [HTL.out]; exact hy)⟩
        obtain ⟨b, off, rfl, k0, hs16⟩ := sts_below (hB ▸ HB2.out) HS.out y s hcs
        obtain ⟨b', off', rfl, k1⟩ := wd_below (hB ▸ HB2.out) HT.out y t hct
        have HCS := hide hcs
        have HCT := hide hct
        have i3 : (0 : Int) ≤ (y : Int) := by omega
        have i4 : (y : Int) < (N : Int) := by omega
        obtain ⟨p0, p1, p2, p3⟩ := bx_kp HK2.out (by omega) HX0.out
        clear hcs hct
        cases hbit : (bits BinOp.and IntKind.u16 ((s : Int) / 2 ^ c.toNat) 1 == 1)
        · have HN := hide (mk_congr HM2.out (fun j _ => stp_no (ss := ss) (ts := ts) (c := c) (N := N) HZZ.out (fun i s' e hi hs' => by
            have e' : y = i := by omega
            subst e'
            rw [HCS.out] at hs'
            cases hs'
            rw [← bit_at s c hc0 hc1, ← bits_one s c hs16, hbit]) j))
          go_wp2
          go_roundw
          case rel => exact ⟨k + 1, by omega, by go_num, HN.out, HK2.out⟩
          case measure => simp [intOf]; omega
        · have hin : inS s c = true := by rw [← bit_at s c hc0 hc1, ← bits_one s c hs16, hbit]
          have hpos : 0 < s := by
            rcases Nat.eq_zero_or_pos s with e | e
            · subst e; simp [inS] at hin
            · exact e
          obtain ⟨t0, t1⟩ := HOK.out y s t HCS.out HCT.out hpos
          obtain ⟨i, rfl⟩ : ∃ i : Nat, t = i := ⟨t.toNat, by omega⟩
          have hi : i < N := by omega
          obtain ⟨m0, m1⟩ := mk_cell HM2.out hi
          have HN := hide (mk_congr (mk_set HM2.out hi true) (fun j _ => stp_yes HZZ.out hy HCS.out HCT.out hin j))
          have HK3 := hide (HK2.out.set i (.bool true))
          have i5 : (0 : Int) ≤ (i : Int) := by omega
          have i6 : (i : Int) < (N : Int) := by omega
          clear hin hpos
          go_wp2
          go_roundw
          case rel => exact ⟨k + 1, by omega, by go_num, HN.out, HK3.out⟩
          case measure => simp [intOf]; omega
    · have e : k = len := by omega
      subst e
      go_wp2_with fail
      refine (rising_any (B + 1) N _ wr hN HM.out).mono ?_
      rintro e w2 ⟨v, rfl, ho, hb2⟩
      have hsz := HBR.out.size
      have HO := hide (own_low ho (show B ≤ wr.heap.size by omega))
      have HB2 := hide (HBR.out.trans (hb2.mono (show B ≤ wr.heap.size by omega)))
      clear ho hb2 hsz
      go_wp2
      go_ret
      exact ⟨v, rfl, hB ▸ HO.out, hB ▸ HB2.out⟩

end Go.Proofs.YtbbfjjjnifomgaaGreatDoor.A



/- What a machine that may be is; the least rule of a list of states; what is come to, once and for all. -/
namespace Go.Proofs.YtbbfjjjnifomgaaGreatDoor.A
open Go.RowKit

/-- A machine that may be. -/
structure Mach (fs : List (List Int)) (ss : List Nat) (ts rs : List Int) (N : Nat) : Prop where
  lf : fs.length = N
  ls : ss.length = N
  lt : ts.length = N
  lr : rs.length = N
  pos : 1 ≤ N
  most : N ≤ 3300
  free : ∀ (i : Nat) (l : List Int), fs[i]? = some l → ∀ z ∈ l, 0 ≤ z ∧ z < (N : Int)
  to : ∀ (i s : Nat) (t : Int), ss[i]? = some s → ts[i]? = some t → 0 < s → 0 ≤ t ∧ t < N
  rule : ∀ (i : Nat) (r : Int), rs[i]? = some r → -1 ≤ r ∧ r ≤ 15
theorem mach_right {fs : List (List Int)} {ss : List Nat} {ts rs : List Int} {N : Nat} (h : Mach fs ss ts rs N) : rightN fs ss ts rs = true := by
  obtain ⟨lf, ls, lt, lr, h1, h2, h3, h4, h5⟩ := h
  subst lf
  refine right_yes h1 h2 ls lt lr (fun i hi => ?_)
  have e1 : rs[i]? = some rs[i] := List.getElem?_eq_getElem (by omega)
  have e2 : ss[i]? = some ss[i] := List.getElem?_eq_getElem (by omega)
  have e3 : ts[i]? = some ts[i] := List.getElem?_eq_getElem (by omega)
  have e4 : fs[i]? = some fs[i] := List.getElem?_eq_getElem hi
  rw [okSt_at e1 e2 e3 e4]
  unfold okS
  simp only [Bool.and_eq_true, Bool.or_eq_true, decide_eq_true_eq, List.all_eq_true, beq_iff_eq]
  refine ⟨(h5 i _ e1).1, (h5 i _ e1).2, ?_, h3 i _ e4⟩
  by_cases z : ss[i] = 0
  · exact .inl z
  · exact .inr (h4 i _ _ e2 e3 (by omega))

theorem lst_mem (g : Nat → Bool) (N : Nat) (z : Int) : z ∈ lstL g N ↔ ∃ j : Nat, z = j ∧ j < N ∧ g j = true := by
  unfold lstL
  simp only [List.mem_map, List.mem_filter, List.mem_range]
  constructor
  · rintro ⟨j, ⟨h1, h2⟩, e⟩; exact ⟨j, e.symm, h1, h2⟩
  · rintro ⟨j, e, h1, h2⟩; exact ⟨j, ⟨h1, h2⟩, e.symm⟩
theorem tbl_lst (g : Nat → Bool) (N j : Nat) (hj : j < N) : tblB (lstL g N) (lstL g N).length j = g j := by
  rw [Bool.eq_iff_iff, tbl_mem, lst_mem]
  constructor
  · rintro ⟨i, e, _, h⟩; have : j = i := by omega
    subst this; exact h
  · intro h; exact ⟨j, rfl, hj, h⟩
theorem lst_congr {g h : Nat → Bool} {N : Nat} (e : ∀ j, j < N → g j = h j) : lstL g N = lstL h N := by
  unfold lstL
  congr 1
  exact List.filter_congr (fun j hj => e j (by simpa using hj))
theorem least_spec (p : Int → Bool) : ∀ (m : Nat) (r : Int), (leastR p m r = -1 ∧ ∀ j : Nat, j < m → p (r + j) = false) ∨ ∃ j : Nat, j < m ∧ leastR p m r = r + j ∧ p (r + j) = true ∧ ∀ i : Nat, i < j → p (r + i) = false
  | 0, r => .inl ⟨rfl, fun j hj => by omega⟩
  | m + 1, r => by
    unfold leastR
    cases hp : p r
    · rw [if_neg (by simp)]
      rcases least_spec p m (r + 1) with ⟨h1, h2⟩ | ⟨j, h1, h2, h3, h4⟩
      · refine .inl ⟨h1, fun j hj => ?_⟩
        cases j with
        | zero => simpa using hp
        | succ j => have := h2 j (by omega); rw [show r + ((j + 1 : Nat) : Int) = r + 1 + (j : Int) by omega]; exact this
      · refine .inr ⟨j + 1, by omega, by rw [h2]; omega, by rw [show r + ((j + 1 : Nat) : Int) = r + 1 + (j : Int) by omega]; exact h3, fun i hi => ?_⟩
        cases i with
        | zero => simpa using hp
        | succ i => have := h4 i (by omega); rw [show r + ((i + 1 : Nat) : Int) = r + 1 + (i : Int) by omega]; exact this
    · rw [if_pos rfl]
      exact .inr ⟨0, by omega, by omega, by simpa using hp, fun i hi => by omega⟩
theorem at_iff (rs : List Int) (o : Nat → Bool) (r : Int) (N : Nat) : atB rs o r N = true ↔ ∃ i, i < N ∧ o i = true ∧ rs[i]? = some r := by
  unfold atB
  rw [List.any_eq_true]
  constructor
  · rintro ⟨i, hi, h⟩
    rw [Bool.and_eq_true, beq_iff_eq] at h
    exact ⟨i, by simpa using hi, h.1, h.2⟩
  · rintro ⟨i, hi, h1, h2⟩
    exact ⟨i, by simpa using hi, by rw [Bool.and_eq_true, beq_iff_eq]; exact ⟨h1, h2⟩⟩
/-- The least rule, told otherwise. -/
def IsLeast (rs : List Int) (P : Nat → Prop) (m : Int) : Prop := (m = -1 ∧ ∀ i r, P i → rs[i]? = some r → r = -1) ∨ (0 ≤ m ∧ (∃ i, P i ∧ rs[i]? = some m) ∧ ∀ i r, P i → rs[i]? = some r → r = -1 ∨ m ≤ r)
theorem isLeast_one {rs : List Int} {P : Nat → Prop} {m m' : Int} (h : IsLeast rs P m) (h' : IsLeast rs P m') : m = m' := by
  rcases h with ⟨h1, h2⟩ | ⟨h1, ⟨i, hi, hr⟩, h3⟩
  · rcases h' with ⟨k1, k2⟩ | ⟨k1, ⟨i, hi, hr⟩, k3⟩
    · omega
    · have := h2 i _ hi hr; omega
  · rcases h' with ⟨k1, k2⟩ | ⟨k1, ⟨i', hi', hr'⟩, k3⟩
    · have := k2 i _ hi hr; omega
    · rcases h3 i' _ hi' hr' with e | e
      · omega
      · rcases k3 i _ hi hr with e' | e' <;> omega
theorem endR_is {rs : List Int} {o : Nat → Bool} {N : Nat} (hr : ∀ (i : Nat) (r : Int), rs[i]? = some r → -1 ≤ r ∧ r ≤ 15) : IsLeast rs (fun i => i < N ∧ o i = true) (endR rs o N) := by
  unfold endR
  rcases least_spec (fun r => atB rs o r N) 16 0 with ⟨h1, h2⟩ | ⟨j, h1, h2, h3, h4⟩
  · refine .inl ⟨h1, fun i r ⟨hi, ho⟩ e => ?_⟩
    have b := hr i r e
    rcases Int.lt_or_le r 0 with q | q
    · omega
    · have := h2 r.toNat (by omega)
      rw [show (0 : Int) + (r.toNat : Int) = r by omega] at this
      have k := (at_iff rs o r N).2 ⟨i, hi, ho, e⟩
      rw [this] at k; cases k
  · right
    rw [h2]
    obtain ⟨i, hi, ho, e⟩ := (at_iff _ _ _ _).1 h3
    refine ⟨by omega, ⟨i, ⟨hi, ho⟩, e⟩, fun i' r ⟨hi', ho'⟩ e' => ?_⟩
    have b := hr i' r e'
    rcases Int.lt_or_le r 0 with q | q
    · left; omega
    · right
      rcases Int.lt_or_le r (0 + (j : Int)) with q' | q'
      · have := h4 r.toNat (by omega)
        rw [show (0 : Int) + (r.toNat : Int) = r by omega] at this
        have k := (at_iff rs o r N).2 ⟨i', hi', ho', e'⟩
        rw [this] at k; cases k
      · exact q'
theorem lstR_is {rs : List Int} {N : Nat} (hl : rs.length = N) (hr : ∀ (i : Nat) (r : Int), rs[i]? = some r → -1 ≤ r ∧ r ≤ 15) (zs : List Int) (hz : ∀ z ∈ zs, 0 ≤ z ∧ z < (N : Int)) : ∀ k, k ≤ zs.length → IsLeast rs (fun i => (i : Int) ∈ zs.take k) (lstR rs (zs.take k))
  | 0, _ => .inl ⟨rfl, fun i r h _ => by cases h⟩
  | k + 1, hk => by
    have ih := lstR_is hl hr zs hz k (by omega)
    have e : zs[k]? = some zs[k] := List.getElem?_eq_getElem (by omega)
    have hzk := hz _ (List.mem_of_getElem? e)
    rw [lstR_step e]
    generalize zs[k] = z at *
    obtain ⟨y, rfl⟩ : ∃ y : Nat, z = y := ⟨z.toNat, by omega⟩
    obtain ⟨r, er⟩ : ∃ r, rs[y]? = some r := ⟨_, List.getElem?_eq_getElem (by rw [hl]; omega)⟩
    have er' : rs[(y : Int).toNat]? = some r := er
    have mem : ∀ i : Nat, ((i : Int) ∈ zs.take (k + 1)) ↔ ((i : Int) ∈ zs.take k ∨ i = y) := fun i => by
      rw [take_at e, List.mem_append, List.mem_singleton]
      exact ⟨fun h => h.imp id (fun h => by omega), fun h => h.imp id (fun h => by omega)⟩
    have hb := hr y r er
    generalize lstR rs (zs.take k) = m at *
    by_cases c : r ≠ -1 ∧ (m = -1 ∨ r < m)
    · rw [lst1_yes er' c]
      refine .inr ⟨by omega, ⟨y, (mem y).2 (.inr rfl), er⟩, fun i r' hi hr' => ?_⟩
      rcases (mem i).1 hi with hi | rfl
      · rcases ih with ⟨h1, h2⟩ | ⟨h1, h2, h3⟩
        · exact .inl (h2 i r' hi hr')
        · rcases h3 i r' hi hr' with q | q
          · exact .inl q
          · right; rcases c.2 with c | c <;> omega
      · rw [er] at hr'; cases hr'; right; omega
    · rw [lst1_no er' c]
      rcases ih with ⟨h1, h2⟩ | ⟨h1, ⟨i0, hi0, e0⟩, h3⟩
      · refine .inl ⟨h1, fun i r' hi hr' => ?_⟩
        rcases (mem i).1 hi with hi | rfl
        · exact h2 i r' hi hr'
        · rw [er] at hr'; cases hr'
          by_cases q : r = -1
          · exact q
          · exact absurd ⟨q, .inl h1⟩ c
      · refine .inr ⟨h1, ⟨i0, (mem i0).2 (.inl hi0), e0⟩, fun i r' hi hr' => ?_⟩
        rcases (mem i).1 hi with hi | rfl
        · exact h3 i r' hi hr'
        · rw [er] at hr'; cases hr'
          by_cases q : r = -1
          · exact .inl q
          · right
            rcases Int.lt_or_le r m with q' | q'
            · exact absurd ⟨q, .inr q'⟩ c
            · exact q'
theorem least_same {rs : List Int} {N : Nat} {g : Nat → Bool} (hl : rs.length = N) (hr : ∀ (i : Nat) (r : Int), rs[i]? = some r → -1 ≤ r ∧ r ≤ 15) : lstR rs (lstL g N) = endR rs g N := by
  have h := lstR_is hl hr (lstL g N) (fun z hz => by obtain ⟨j, e, hj, _⟩ := (lst_mem g N z).1 hz; omega) (lstL g N).length (Nat.le_refl _)
  rw [List.take_length] at h
  refine isLeast_one h ?_
  have h2 := endR_is (o := g) (N := N) hr
  have mem : ∀ i : Nat, ((i : Int) ∈ lstL g N) ↔ (i < N ∧ g i = true) := fun i => by
    rw [lst_mem]
    constructor
    · rintro ⟨j, e, h1, h2⟩; have : i = j := by omega
      subst this; exact ⟨h1, h2⟩
    · rintro ⟨h1, h2⟩; exact ⟨i, rfl, h1, h2⟩
  rcases h2 with ⟨h1, h2⟩ | ⟨h1, ⟨i, hi, e⟩, h3⟩
  · exact .inl ⟨h1, fun i r hi => h2 i r ((mem i).1 hi)⟩
  · exact .inr ⟨h1, ⟨i, (mem i).2 hi, e⟩, fun i r hi => h3 i r ((mem i).1 hi)⟩
theorem endR_congr {rs : List Int} {g h : Nat → Bool} {N : Nat} (e : ∀ j, j < N → g j = h j) : endR rs g N = endR rs h N := by
  unfold endR
  have : (fun r => atB rs g r N) = fun r => atB rs h r N := by
    funext r
    rw [Bool.eq_iff_iff, at_iff, at_iff]
    constructor
    · rintro ⟨i, hi, ho, k⟩; exact ⟨i, hi, by rw [← e i hi]; exact ho, k⟩
    · rintro ⟨i, hi, ho, k⟩; exact ⟨i, hi, by rw [e i hi]; exact ho, k⟩
  rw [this]
theorem stp_congr {ss : List Nat} {ts : List Int} {c : Int} {o o' : Nat → Bool} {N : Nat} (e : ∀ j, j < N → o j = o' j) (j : Nat) : stpB ss ts c o N j = stpB ss ts c o' N j := by
  rw [Bool.eq_iff_iff, stpB_iff, stpB_iff]
  constructor
  · rintro ⟨i, s, hi, ho, h⟩; exact ⟨i, s, hi, by rw [← e i hi]; exact ho, h⟩
  · rintro ⟨i, s, hi, ho, h⟩; exact ⟨i, s, hi, by rw [e i hi]; exact ho, h⟩
theorem run_one {fs : List (List Int)} {ss : List Nat} {ts : List Int} {N : Nat} {word : List Int} : ∀ (k : Nat) (g g' : Nat → Bool), IsRun fs ss ts N word k g → IsRun fs ss ts N word k g' → ∀ j, j < N → g j = g' j
  | 0, _, _, h, h' => isCl_one h h'
  | k + 1, _, _, ⟨f, hf, h⟩, ⟨f', hf', h'⟩ => isCl_one h (isCl_congr (fun j _ => stp_congr (fun i hi => (run_one k f f' hf hf' i hi).symm) j) h')
theorem run_stop {fs : List (List Int)} {ss : List Nat} {ts : List Int} {N : Nat} {word : List Int} {k : Nat} {g : Nat → Bool} (h : IsRun fs ss ts N word k g) (h0 : ∀ j, j < N → g j = false) : ∀ m, ∃ g', IsRun fs ss ts N word (k + m) g' ∧ ∀ j, j < N → g' j = false
  | 0 => ⟨g, h, h0⟩
  | m + 1 => by
    obtain ⟨f, hf, f0⟩ := run_stop h h0 m
    have none : ∀ j, ¬ Rch fs N (stpB ss ts (word.getD (k + m) 0) f N) j := fun j e => by
      induction e with
      | here hn e =>
        obtain ⟨i, s, hi, ho, _⟩ := (stpB_iff _ _ _ _ _ _).1 e
        rw [f0 i hi] at ho; cases ho
      | on _ _ _ ih => exact ih
    exact ⟨fun _ => false, ⟨f, hf, fun j _ => Iff.intro (fun e => absurd e (by simp)) (fun e => (none j e).elim)⟩, fun _ _ => rfl⟩

end Go.Proofs.YtbbfjjjnifomgaaGreatDoor.A


