/- The program's states that aren't dead, a state at a time: the closure, IndexFunc, ContainsFunc, lives. -/
import Derived.Test.YthkollnlmnbidaaBe
namespace Go.Proofs.Ythkollnlmnbidaa.A
open Go.RowKit
set_option linter.unusedVariables false

/-- Does a step lead to a state that is known not to be dead? -/
def leadB (g : Nat → Bool) (z : Int) : Bool := z != -1 && g z.toNat

set_option maxHeartbeats 800000 in
theorem leads_any (p : Nat) (ad : Option Addr) (n cd : Nat) (g : Nat → Bool) (z : Int) (w : World) (hp : w.cell? ⟨p, 0, none⟩ = some (.slice ad n cd)) (hd : Br w ad n (fun j => !g j)) (h1 : -1 ≤ z) (h2 : z < (n : Int)) :
    Calls Try.prog 37 #[.int .i64 z, .pointer (some ⟨p, 0, none⟩)] w fun e w' => e = .returned (.bool (leadB g z)) ∧ Below w.heap.size w w' := by
  by_cases c : z = -1
  · subst c
    go_enter Try.func37, Try.ntmps37
    go_wp2
    go_ret
    exact ⟨rfl, Below.refl _ _⟩
  · obtain ⟨t, rfl⟩ : ∃ t : Nat, z = t := ⟨z.toNat, by omega⟩
    obtain ⟨b, off, rfl, k0⟩ := hd t (by omega)
    have d0 : ((t : Int) != -1) = true := by simp
    have d1 : ((t : Int) == -1) = false := by simp
    have i3 : (0 : Int) ≤ (t : Int) := by omega
    have HE := hide (show leadB g (t : Int) = g t by unfold leadB; rw [d0, show ((t : Nat) : Int).toNat = t by omega]; rfl)
    clear hd
    go_enter Try.func37, Try.ntmps37
    go_wp2
    go_ret
    exact ⟨by rw [HE.out]; simp, Below.refl _ _⟩

theorem take_at' {α : Type} {l : List α} {i : Nat} {z : α} (h : l[i]? = some z) : l.take (i + 1) = l.take i ++ [z] := by
  rw [List.take_add_one, h]; rfl

set_option maxHeartbeats 1600000 in
theorem indexL_any (p : Nat) (ad : Option Addr) (n cd : Nat) (g : Nat → Bool) (a : Option Addr) (len cap : Nat) (l : List Int) (w : World) (hl : len ≤ maxLen) (h6 : l.length = len) (hp : w.cell? ⟨p, 0, none⟩ = some (.slice ad n cd)) (hd : Br w ad n (fun j => !g j)) (hr : ∀ z ∈ l, -1 ≤ z ∧ z < (n : Int)) (hW : Wd w a l) :
    Calls Try.prog 42 #[.slice a len cap, .func (.func 37) #[] #[.pointer (some ⟨p, 0, none⟩)]] w fun e w' => ∃ z : Int, e = .returned (.int .i64 z) ∧ decide (0 ≤ z) = l.any (leadB g) ∧ Below w.heap.size w w' := by
  unfold maxLen at hl
  have HW := hide hW
  have HL := hide h6
  have HP := hide hp
  have HR := hide hr
  have HDD := hide hd
  clear hW h6 hp hr hd
  go_enter Try.func42, Try.ntmps42
  go_wp2_with fail
  go_loopw [5, 8] (fun _ u wr => ∃ i : Nat, i ≤ len ∧ u = .int .i64 i ∧ (l.take i).any (leadB g) = false ∧ Below w.heap.size w wr) (fun _ u _ => len - (intOf u).toNat)
  case atStart => exact ⟨0, Nat.zero_le _, rfl, rfl, Below.refl _ _⟩
  case round =>
    obtain ⟨i, hi, rfl, hd, hb⟩ := hrel
    have HD := hide hd
    have HBW := hide hb
    clear hd
    by_cases hlt : i < len
    · obtain ⟨z, hz⟩ : ∃ z, l[i]? = some z := ⟨_, List.getElem?_eq_getElem (by rw [HL.out]; exact hlt)⟩
      obtain ⟨b, off, rfl, k0⟩ := wd_below hb HW.out i z hz
      have HN := hide (show (l.take (i + 1)).any (leadB g) = leadB g z from by rw [take_at' hz, List.any_append, HD.out]; simp)
      have HIN := hide (show leadB g z = true → l.any (leadB g) = true from fun q => List.any_eq_true.2 ⟨z, List.mem_of_getElem? hz, q⟩)
      have HZ := hide (HR.out z (List.mem_of_getElem? hz))
      have i3 : (0 : Int) ≤ (i : Int) := by omega
      have i4 : (i : Int) < (len : Int) := by omega
      clear hz hb
      go_wp2_with fail
      refine (leads_any p ad n cd g z wr ((HBW.out.cell (cell_lt HP.out)).trans HP.out) (br_below HBW.out HDD.out) HZ.out.1 HZ.out.2).mono ?_
      rintro e w2 ⟨rfl, hb2⟩
      have HB2 := hide (HBW.out.trans (hb2.mono HBW.out.size))
      clear hb2
      cases hf : leadB g z
      · have HF := hide hf
        clear hf
        go_wp2
        go_roundw
        case rel => exact ⟨i + 1, by omega, by go_num, by rw [HN.out, HF.out], HB2.out⟩
        case measure => simp [intOf]; omega
      · have HF := hide hf
        clear hf
        go_wp2
        go_ret
        exact ⟨(i : Int), rfl, by rw [HIN.out HF.out]; simp, HB2.out⟩
    · have e : i = len := by omega
      subst e
      have HT := hide (show l.take i = l from List.take_of_length_le (by have := HL.out; omega))
      clear hb
      go_wp2
      go_ret
      exact ⟨-1, rfl, by rw [← HT.out, HD.out]; rfl, HBW.out⟩

set_option maxHeartbeats 800000 in
theorem containsL_any (p : Nat) (ad : Option Addr) (n cd : Nat) (g : Nat → Bool) (a : Option Addr) (len cap : Nat) (l : List Int) (w : World) (hl : len ≤ maxLen) (h6 : l.length = len) (hp : w.cell? ⟨p, 0, none⟩ = some (.slice ad n cd)) (hd : Br w ad n (fun j => !g j)) (hr : ∀ z ∈ l, -1 ≤ z ∧ z < (n : Int)) (hW : Wd w a l) :
    Calls Try.prog 38 #[.slice a len cap, .func (.func 37) #[] #[.pointer (some ⟨p, 0, none⟩)]] w fun e w' => e = .returned (.bool (l.any (leadB g))) ∧ Below w.heap.size w w' := by
  have HC := hide (indexL_any p ad n cd g a len cap l w hl h6 hp hd hr hW)
  clear hW h6 hp hd hr
  go_enter Try.func38, Try.ntmps38
  go_wp2_with fail
  refine HC.out.mono ?_
  rintro e w2 ⟨z, rfl, hz, hb2⟩
  have HB := hide hb2
  clear hb2 HC
  cases hg : l.any (leadB g)
  · have hz' : decide (0 ≤ z) = false := hz.trans hg
    have HG := hide hg
    clear hg hz
    go_wp2
    go_ret
    exact ⟨by rw [HG.out]; rfl, HB.out⟩
  · have hz' : decide (0 ≤ z) = true := hz.trans hg
    have HG := hide hg
    clear hg hz
    go_wp2
    go_ret
    exact ⟨by rw [HG.out]; rfl, HB.out⟩

/-- Has a state a rule, or does it go to one that is known not to be dead? -/
def livB (nx : List (List Int)) (ru : List Int) (g : Nat → Bool) (i : Nat) : Bool := ru.getD i 0 != -1 || (nx.getD i []).any (leadB g)
section
variable {nx : List (List Int)} {ru : List Int} {n : Nat} {g : Nat → Bool}
theorem liv_no (h : Mx nx ru n) {i : Nat} (hi : i < n) (hl : livB nx ru g i = false) : Cs nx ru g i 17 := fun _ => by
  unfold livB at hl
  rw [Bool.or_eq_false_iff] at hl
  refine ⟨fun _ r hr => ?_, fun c hc t ht => ?_⟩
  · have h1 := hl.1
    rw [List.getD_eq_getElem?_getD, hr, Option.getD_some] at h1
    simp at h1
    omega
  · obtain ⟨row, z, e1, _, e3, _, _, e6⟩ := mx_next h hi (show c < 16 by omega)
    have h2 := hl.2
    rw [List.getD_eq_getElem?_getD, e1, Option.getD_some] at h2
    have h3 := List.any_eq_false.1 h2 z (List.mem_of_getElem? e3)
    rw [← e6, ht] at h3
    unfold leadB at h3
    rw [show ((t : Nat) : Int).toNat = t by omega, show ((t : Int) != -1) = true by simp] at h3
    simpa using h3
theorem liv_yes (h : Mx nx ru n) (hs : Sound nx ru n g) {i : Nat} (hi : i < n) (hl : livB nx ru g i = true) : Live nx ru i := by
  unfold livB at hl
  rw [Bool.or_eq_true] at hl
  rcases hl with hl | hl
  · obtain ⟨r, hr, h1, _, h3⟩ := mx_rule h hi
    rw [List.getD_eq_getElem?_getD, hr, Option.getD_some] at hl
    simp at hl
    exact ⟨[], by rw [h3]; omega⟩
  · rw [List.any_eq_true] at hl
    obtain ⟨z, hz, hl⟩ := hl
    obtain ⟨c, hc, e⟩ := List.getElem_of_mem hz
    obtain ⟨row, e1⟩ : ∃ row, nx[i]? = some row := ⟨_, List.getElem?_eq_getElem (by rw [h.ln]; exact hi)⟩
    have e2 : nx.getD i [] = row := by rw [List.getD_eq_getElem?_getD, e1]; rfl
    have hc16 : c < 16 := by have := h.row row (List.mem_of_getElem? e1); rw [e2] at hc; omega
    obtain ⟨row', z', q1, _, q3, q4, q5, q6⟩ := mx_next h hi hc16
    have : row' = row := by rw [e1] at q1; exact (Option.some.inj q1).symm
    subst this
    have hzz : z' = z := by
      have h1 : (nx.getD i [])[c]? = some z := by rw [List.getElem?_eq_getElem hc, e]
      rw [e2, q3] at h1
      exact Option.some.inj h1
    subst hzz
    unfold leadB at hl
    rw [Bool.and_eq_true] at hl
    have hz0 : z' ≠ -1 := by simpa using hl.1
    refine live_step (c := c) ?_
    rw [q6]
    have := hs z'.toNat (by omega) hl.2
    rwa [show ((z'.toNat : Nat) : Int) = z' by omega] at this
end

set_option maxRecDepth 100000 in
set_option maxHeartbeats 1600000 in
theorem lives_any (a0 a1 ad : Option Addr) (n c0 c1 cd i : Nat) (nx : List (List Int)) (ru : List Int) (g : Nat → Bool) (w : World) (hx : Mx nx ru n) (hm : Dm w a0 a1 n n nx ru) (hd : Br w ad n (fun j => !g j)) (hi : i < n) :
    Calls Try.prog 33 #[.agg #[.slice a0 n c0, .slice a1 n c1], .slice ad n cd, .int .i64 (i : Int)] w fun e w' => e = .returned (.bool (livB nx ru g i)) ∧ Below w.heap.size w w' := by
  have hb0 := ((Below.refl w.heap.size w).alloc (Nat.le_refl _) (.cells #[.slice a0 n c0, .slice a1 n c1] 25)).alloc (by simp) (.cells #[.slice ad n cd] 30)
  have HBX := hide (show ((w.alloc (.cells #[.slice a0 n c0, .slice a1 n c1] 25)).alloc (.cells #[.slice ad n cd] 30)).heap[w.heap.size]? = some (.cells #[.slice a0 n c0, .slice a1 n c1] 25 (0, 0)) from (Below.heap_alloc _ _ _ (by simp)).trans (heap_alloc_last _ _))
  have HP := hide (show ((w.alloc (.cells #[.slice a0 n c0, .slice a1 n c1] 25)).alloc (.cells #[.slice ad n cd] 30)).cell? ⟨w.heap.size + 1, 0, none⟩ = some (.slice ad n cd) from by
    have h := heap_alloc_last (w.alloc (.cells #[.slice a0 n c0, .slice a1 n c1] 25)) (.cells #[.slice ad n cd] 30)
    rw [show (w.alloc (.cells #[.slice a0 n c0, .slice a1 n c1] 25)).heap.size = w.heap.size + 1 by simp] at h
    exact cell_of_row _ _ 0 _ _ _ h)
  have HB0 := hide hb0
  have HM := hide (dm_below' hb0 hm)
  have HD := hide (br_below hb0 hd)
  obtain ⟨p0, p1, -⟩ := d_cells HBX.out
  obtain ⟨r, hr, hr1, hr2, -⟩ := mx_rule hx hi
  obtain ⟨row, hrow⟩ : ∃ row, nx[i]? = some row := ⟨_, List.getElem?_eq_getElem (by rw [hx.ln]; exact hi)⟩
  obtain ⟨b2, o2, rfl, k2⟩ := HM.out.wd i r hr
  obtain ⟨hrl, b, off, rfl, hrg⟩ := HM.out.dr i row hrow
  have HRG := hide hrg
  have HRL := hide hrl
  have HRR := hide (hx.next i row hrow)
  have i1 : (0 : Int) ≤ (i : Int) := by omega
  have i2 : (i : Int) < (n : Int) := by omega
  have HE := hide (show livB nx ru g i = (r != -1 || row.any (leadB g)) by unfold livB; rw [List.getD_eq_getElem?_getD, hr, List.getD_eq_getElem?_getD, hrow]; rfl)
  clear hb0 hm hd hx hr hrow hrl hrg
  by_cases c : r = -1
  · subst c
    go_enter Try.func33, Try.ntmps33
    go_wp2_with fail
    refine (containsL_any (w.heap.size + 1) ad n cd g (some ⟨b, off + i * 16, none⟩) 16 16 row _ (by unfold maxLen; omega) HRL.out HP.out HD.out HRR.out (fun j z hz => ⟨b, off + i * 16, rfl, HRG.out j _ (by simp [cI, hz])⟩)).mono ?_
    rintro e w2 ⟨rfl, hb2⟩
    have HB2 := hide (HB0.out.trans (hb2.mono HB0.out.size))
    have HE2 := hide (show livB nx ru g i = row.any (leadB g) by rw [HE.out]; rfl)
    clear hb2
    go_wp2
    go_ret
    exact ⟨by rw [HE2.out]; rfl, HB2.out⟩
  · have d0 : (r != -1) = true := by simp [c]
    have d1 : (r == -1) = false := by simp [c]
    have HE2 := hide (show livB nx ru g i = true by rw [HE.out, d0]; rfl)
    go_enter Try.func33, Try.ntmps33
    go_wp2
    go_ret
    exact ⟨by rw [HE2.out]; rfl, HB0.out⟩
end Go.Proofs.Ythkollnlmnbidaa.A
