/- The smallest machine matches what the machine matches; machines with the same outcomes have one smallest machine: plain mathematics. -/
import Derived.OpenShut
import Derived.Lib.LaidTab
import Derived.Below
import Derived.Outline
import Derived.Deep.Heap
import Derived.Deep.OwnRows
import Derived.Deep.QuietTactic
import Derived.Deep.Slices
import Derived.ProofKit
import Derived.WalkKit
import Derived.WalkSpells
import Derived.WalkLawsBesides
import Derived.Deep.WholeRow
import Derived.Deep.MidRow
import Derived.DeepKeys5
import Derived.Maps.OwnSet
import Derived.Maps.OwnOps
import Derived.Maps.AppendAt
import Derived.Maps.RangeWalk
import Derived.Deep.RegionLaw
import Derived.Deep.Cut
import Derived.Deep.CutRange
import Derived.Deep.RegionHeld3
import Derived.Deep.AppendLies
import Derived.BigQuiet
import Derived.Deep.Strs
import Derived.Deep.AppendSrc
import Derived.Laws.AppendOwnNone
import Derived.Laws.AppendOwn
import Derived.Shelf.Small.Strs
import Derived.Shelf.Strconv.Itoa0
import Derived.Shelf.Strconv.Itoa1
import Derived.Shelf.LaysM
import Derived.Shelf.Strconv.Itoa2
import Derived.Shelf.Strconv.Clone
import Derived.Shelf.Strings.Search1
import Derived.Shelf.Strings.Search2
import Derived.Shelf.Strings.Search3
import Derived.Shelf.Strings.Count
import Derived.Shelf.Strings.Shaped
import Derived.Shelf.Strconv.AppendUint10
import Derived.Shelf.Strconv.AppendInt10
import Derived.Shelf.Strconv.AppendIntPublic10
import Derived.Shelf.Strings.Split
import Derived.Shelf.Strings.SplitShaped
import Derived.Shelf.Bits.Mul64
import Derived.Shelf.Unicode.DecodeSlow
import Derived.Ground.Names2Prog
import Derived.Shelf.Slices.Clone
import Derived.Ground.SlgnProg
import Derived.Shelf.SlicesE.Clone
import Derived.Laws.IdiomStrings
import Derived.Laws.BytesArg
import Derived.LaidMore
import Derived.HandedShaped
import Derived.Shelf.Vars
import Derived.MakeChecks
import Derived.Stop.LaidErr
import Derived.Laws.OwnMore
import Derived.OwnWalk
import Derived.Defers
import Derived.Recover
import Derived.Lib.SplitLaws
import Derived.Test.YtbbfjjjnifomgaaGreatDoorK13
import Derived.Test.YtbbfjjjnifomgaaGreatDoorK20
import Derived.Test.YtbbfjjjnifomgaaGreatDoorK23
import Derived.Test.YtbbfjjjnifomgaaGreatDoorK26
import Derived.Test.YtbbfjjjnifomgaaGreatDoorK28
import Derived.Test.YtbbfjjjnifomgaaGreatDoorK33
import Derived.Test.YtbbfjjjnifomgaaGreatDoorK34
import Derived.Test.YtbbfjjjnifomgaaGreatDoorK35
import Derived.Test.YtbbfjjjnifomgaaGreatDoorK1
import Derived.Test.YtbbfjjjnifomgaaGreatDoorK4
import Derived.Test.YtbbfjjjnifomgaaGreatDoorK8
import Derived.Test.YtbbfjjjnifomgaaGreatDoorK11
import Derived.Test.YtbbfjjjnifomgaaGreatDoorK24
import Derived.Test.YtbbfjjjnifomgaaGreatDoorK29
import Derived.Laws.CopyOwn
import Derived.Test.YtbbfjjjnifomgaaGreatDoorK6
import Derived.Test.YtbbfjjjnifomgaaGreatDoorK17
import Derived.Test.YtbbfjjjnifomgaaGreatDoorK18
import Derived.Deep.LoopGhost
import Derived.Test.YtbbfjjjnifomgaaGreatDoorK7
namespace Go.Proofs.YtbbfjjjnifomgaaGreatDoor.A
open Go.RowKit
set_option linter.unusedVariables false

/-- The same outcomes, in two machines. -/
def Eqo (nx : List (List Int)) (ru : List Int) (nx' : List (List Int)) (ru' : List Int) (a b : Int) : Prop := ∀ w, outc nx ru a w = outc nx' ru' b w
section
variable {nx nx' : List (List Int)} {ru ru' : List Int}
theorem eqo_step {a b : Int} (h : Eqo nx ru nx' ru' a b) (c : Int) : Eqo nx ru nx' ru' (stepF nx a c) (stepF nx' b c) := fun w => by
  by_cases hc : 0 ≤ c ∧ c < 16
  · obtain ⟨j, rfl⟩ : ∃ j : Nat, c = j := ⟨c.toNat, by omega⟩
    exact h (j :: w)
  · rw [step_out hc, step_out hc, out_dead w (-1) (by omega), out_dead w (-1) (by omega)]
theorem eqo_run (h : Eqo nx ru nx' ru' 0 0) (word : List Int) : ∀ k, Eqo nx ru nx' ru' (runF nx word k) (runF nx' word k)
  | 0 => h
  | k + 1 => eqo_step (eqo_run h word k) _
/-- The rule at a state, -1 nowhere. -/
theorem out_at {n : Nat} (hx : Mx nx ru n) {a : Int} (ha : a < (n : Int)) : outc nx ru a [] = if 0 ≤ a then ru.getD a.toNat 0 else -1 := by
  by_cases h0 : 0 ≤ a
  · obtain ⟨r, e, _, _, o⟩ := mx_rule hx (i := a.toNat) (by omega)
    rw [show ((a.toNat : Nat) : Int) = a by omega] at o
    rw [o, if_pos h0, List.getD_eq_getElem?_getD, e]; rfl
  · rw [out_dead [] a (by omega), if_neg h0]
theorem run_lt {n : Nat} (hx : Mx nx ru n) (word : List Int) : ∀ k, runF nx word k < (n : Int)
  | 0 => by have := hx.pos; unfold runF; omega
  | k + 1 => by
    show stepF nx (runF nx word k) (word.getD k 0) < (n : Int)
    by_cases hc : 0 ≤ word.getD k 0 ∧ word.getD k 0 < 16
    · have := step_in8 hx _ (run_lt hx word k) (word.getD k 0).toNat
      rw [show (((word.getD k 0).toNat : Nat) : Int) = word.getD k 0 by omega] at this
      exact this
    · rw [step_out hc]; omega
theorem eqo_at {n n' : Nat} (hx : Mx nx ru n) (hx' : Mx nx' ru' n') (h : Eqo nx ru nx' ru' 0 0) (word : List Int) (k : Nat) : (if 0 ≤ runF nx word k then ru.getD (runF nx word k).toNat 0 else -1) = (if 0 ≤ runF nx' word k then ru'.getD (runF nx' word k).toNat 0 else -1) := by
  rw [← out_at hx (run_lt hx word k), ← out_at hx' (run_lt hx' word k)]
  exact eqo_run h word k []
theorem eqo_mat {n n' : Nat} (hx : Mx nx ru n) (hx' : Mx nx' ru' n') (hr : rightD nx ru = true) (hr' : rightD nx' ru' = true) (h : Eqo nx ru nx' ru' 0 0) (word : List Int) : matR nx ru word = matR nx' ru' word := by
  unfold matR runR
  rw [if_pos hr, if_pos hr']
  exact eqo_at hx hx' h word word.length
end

/-- What Small tells of: a machine and its classes. -/
structure Cl (nx : List (List Int)) (ru : List Int) (n : Nat) (A : Nat → Nat → Bool) (g : Nat → Bool) : Prop where
  mx : Mx nx ru n
  al : IsAlk nx ru n A
  lv : IsLive nx ru n g
def smF8 (nx : List (List Int)) (ru : List Int) (n : Nat) (A : Nat → Nat → Bool) (g : Nat → Bool) (k : Nat) : List (List Int) × List (List Int) × List Int := stF (trM nx A g n) (lsM ru) (clsM A n 0) k
section
variable {nx : List (List Int)} {ru : List Int} {n : Nat} {g : Nat → Bool} {A : Nat → Nat → Bool}
theorem sm_len (h : Cl nx ru n A g) (k : Nat) : (smF8 nx ru n A g k).1.length ≤ n := stM_len h.mx h.al h.lv k
theorem tb_of2 {tr : List Int → Nat → List Int} {ls : List Int → Int} {start : List Int} : ∀ m, m = 201 → (stF tr ls start m).1.length ≤ 200 → Tb tr ls start (stF tr ls start m).1 (stF tr ls start m).2.1 (stF tr ls start m).2.2 := by
  intro m hm
  subst hm
  exact tb_of
theorem sm_tb' (h : Cl nx ru n A g) : ∀ m, m = 201 → Tb (trM nx A g n) (lsM ru) (clsM A n 0) (smF8 nx ru n A g m).1 (smF8 nx ru n A g m).2.1 (smF8 nx ru n A g m).2.2 :=
  fun m hm => tb_of2 m hm (Nat.le_trans (sm_len h m) h.mx.most)
theorem ls_rng (h : Mx nx ru n) (L : List Int) : -1 ≤ lsM ru L ∧ lsM ru L ≤ 15 := by
  unfold lsM
  rw [List.getD_eq_getElem?_getD]
  cases e : ru[(L.headD 0).toNat]? with
  | none => simp
  | some r => exact h.rule _ r e
theorem sm_right (h : Cl nx ru n A g) (m : Nat) (hm : m = 201) : rightD (smF8 nx ru n A g m).2.1 (smF8 nx ru n A g m).2.2 = true := tb_right (sm_tb' h m hm) (ls_rng h.mx)
theorem tb_16 {tr : List Int → Nat → List Int} {ls : List Int → Int} {start : List Int} {S nx : List (List Int)} {ru : List Int} (h : Tb tr ls start S nx ru) : ∀ x ∈ nx, x.length = 16 := fun x hx => by
  obtain ⟨i, hi, e⟩ := List.getElem_of_mem hx
  obtain ⟨row, h1, h2, _⟩ := h.at_ i (S[i]'(by rw [← h.ln]; exact hi)) (List.getElem?_eq_getElem _)
  rw [List.getElem?_eq_getElem hi, e] at h1
  rw [Option.some.inj h1]; exact h2
theorem sm_mx (h : Cl nx ru n A g) (m : Nat) (hm : m = 201) : Mx (smF8 nx ru n A g m).2.1 (smF8 nx ru n A g m).2.2 (smF8 nx ru n A g m).2.1.length := mx_of (sm_right h m hm) (tb_16 (sm_tb' h m hm))
/-- The smallest machine has the machine's outcomes. -/
theorem sm_out (h : Cl nx ru n A g) {S nx' : List (List Int)} {ru' : List Int} (T : Tb (trM nx A g n) (lsM ru) (clsM A n 0) S nx' ru') : ∀ (word : List Nat) (j s : Nat), s < n → S[j]? = some (clsM A n s) → outc nx' ru' (j : Int) word = outc nx ru (s : Int) word
  | [], j, s, hs, hj => by
    obtain ⟨row, h1, h2, h3, h4⟩ := T.at_ j _ hj
    obtain ⟨r, e, _, _, o⟩ := mx_rule h.mx hs
    rw [o]
    rw [lsM_cls h.mx h.al hs e] at h3
    unfold outc
    rw [if_pos (by omega), show ((j : Nat) : Int).toNat = j by omega, List.getD_eq_getElem?_getD, h3]; rfl
  | c :: w, j, s, hs, hj => by
    obtain ⟨row, h1, h2, h3, h4⟩ := T.at_ j _ hj
    show outc nx' ru' (stepF nx' (j : Int) c) w = outc nx ru (stepF nx (s : Int) c) w
    rcases Nat.lt_or_ge c 16 with hc | hc
    · have htr := trM_cls h.mx h.al h.lv hs c
      have hz := step_in8 h.mx (s : Int) (by omega) c
      rcases h4 c hc with ⟨q0, q1⟩ | ⟨q0, i, q1, q2⟩
      · rw [dstep_in h1 q1 hc, out_dead w (-1) (by omega)]
        rw [htr] at q0
        by_cases hneg : stepF nx (s : Int) c < 0
        · rw [out_dead w _ hneg]
        · have hd : ¬ Live nx ru (stepF nx (s : Int) c) := fun l => by
            have h5 := (h.lv (stepF nx (s : Int) c).toNat (by omega)).2 (by rw [show (((stepF nx (s : Int) c).toNat : Nat) : Int) = stepF nx (s : Int) c by omega]; exact l)
            have h6 := clsD_live h.al (show (stepF nx (s : Int) c).toNat < n by omega) h5
            rw [show (((stepF nx (s : Int) c).toNat : Nat) : Int) = stepF nx (s : Int) c by omega, q0] at h6
            have h7 := cls_self h.al (show (stepF nx (s : Int) c).toNat < n by omega)
            rw [← h6] at h7
            cases h7
          have h8 := out_rng h.mx w _ hz
          have h9 : ¬ 0 ≤ outc nx ru (stepF nx (s : Int) c) w := fun q => hd ⟨w, q⟩
          omega
      · rw [dstep_in h1 q1 hc]
        rw [htr] at q0 q2
        obtain ⟨z, hz0⟩ : ∃ z : Nat, stepF nx (s : Int) c = (z : Int) := ⟨(stepF nx (s : Int) c).toNat, by
          by_cases hneg : stepF nx (s : Int) c < 0
          · exact absurd (clsD_nil (.inl hneg)) q0
          · omega⟩
        have hgz : g z = true := by
          cases k : g z
          · exact absurd (clsD_nil (.inr (by rw [hz0, show ((z : Nat) : Int).toNat = z by omega]; exact k))) q0
          · rfl
        rw [hz0] at q2 hz ⊢
        rw [clsD_live h.al (by omega) hgz] at q2
        exact sm_out h T w i z (by omega) q2
    · rw [step_far hc, step_far hc, out_dead w (-1) (by omega), out_dead w (-1) (by omega)]
theorem sm_eqo (h : Cl nx ru n A g) (m : Nat) (hm : m = 201) : Eqo nx ru (smF8 nx ru n A g m).2.1 (smF8 nx ru n A g m).2.2 0 0 := fun w => (sm_out h (sm_tb' h m hm) w 0 0 h.mx.pos (sm_tb' h m hm).zero).symm
end

section
variable {nx nx' : List (List Int)} {ru ru' : List Int} {n n' : Nat} {g g' : Nat → Bool} {A A' : Nat → Nat → Bool}
end
end Go.Proofs.YtbbfjjjnifomgaaGreatDoor.A



/- The program's states that aren't dead, a state at a time: the closure, IndexFunc, ContainsFunc, lives. -/
namespace Go.Proofs.YtbbfjjjnifomgaaGreatDoor.A
open Go.RowKit
set_option linter.unusedVariables false

/-- Does a step lead to a state that is known not to be dead? -/
def leadB (g : Nat → Bool) (z : Int) : Bool := z != -1 && g z.toNat

set_option maxHeartbeats 800000 in
theorem leads_any (p : Nat) (ad : Option Addr) (n cd : Nat) (g : Nat → Bool) (z : Int) (w : World) (hp : w.cell? ⟨p, 0, none⟩ = some (.slice ad n cd)) (hd : Br w ad n (fun j => !g j)) (h1 : -1 ≤ z) (h2 : z < (n : Int)) :
    Calls Tryz.prog 171 #[.int .i64 z, .pointer (some ⟨p, 0, none⟩)] w fun e w' => e = .returned (.bool (leadB g z)) ∧ Below w.heap.size w w' := by
  by_cases c : z = -1
  · subst c
    go_enter Tryz.func171, Tryz.ntmps171
    go_wp2
    go_ret
    exact ⟨rfl, Below.refl _ _⟩
  · obtain ⟨t, rfl⟩ : ∃ t : Nat, z = t := ⟨z.toNat, by omega⟩
    obtain ⟨b, off, rfl, k0⟩ := hd t (by omega)
    have d0 : ((t : Int) != -1) = true := by simp
    have d1 : ((t : Int) == -1) = false := by simp
    have i3 : (0 : Int) ≤ (t : Int) := by omega
    have HE := hide (show leadB g (t : Int) = g t by unfold leadB; rw [d0, show ((t : Nat) : Int).toNat = t by omega]; rfl)
    clear hd
    go_enter Tryz.func171, Tryz.ntmps171
    go_wp2
    go_ret
    exact ⟨by rw [HE.out]; simp, Below.refl _ _⟩

theorem take_at' {α : Type} {l : List α} {i : Nat} {z : α} (h : l[i]? = some z) : l.take (i + 1) = l.take i ++ [z] := by
  rw [List.take_add_one, h]; rfl

set_option maxHeartbeats 1600000 in
theorem indexL_any (p : Nat) (ad : Option Addr) (n cd : Nat) (g : Nat → Bool) (a : Option Addr) (len cap : Nat) (l : List Int) (w : World) (hl : len ≤ maxLen) (h6 : l.length = len) (hp : w.cell? ⟨p, 0, none⟩ = some (.slice ad n cd)) (hd : Br w ad n (fun j => !g j)) (hr : ∀ z ∈ l, -1 ≤ z ∧ z < (n : Int)) (hW : Wd w a l) :
    Calls Tryz.prog 169 #[.slice a len cap, .func (.func 171) #[] #[.pointer (some ⟨p, 0, none⟩)]] w fun e w' => ∃ z : Int, e = .returned (.int .i64 z) ∧ decide (0 ≤ z) = l.any (leadB g) ∧ Below w.heap.size w w' := by
  unfold maxLen at hl
  have HW := hide hW
  have HL := hide h6
  have HP := hide hp
  have HR := hide hr
  have HDD := hide hd
  clear hW h6 hp hr hd
  go_enter Tryz.func169, Tryz.ntmps169
  go_wp2_with fail
  go_loopw [5, 8] (fun _ u wr => ∃ i : Nat, i ≤ len ∧ u = .int .i64 i ∧ (l.take i).any (leadB g) = false ∧ Below w.heap.size w wr) (fun _ u _ => len - (intOf u).toNat)
  case atStart => exact ⟨0, Nat.zero_le _, rfl, rfl, Below.refl _ _⟩
  case round =>
    obtain ⟨i, hi, rfl, hd, hb⟩ := hrel
    have HD := hide hd
    have HBW := hide hb
    clear hd
    by_cases hlt : i < len
    · obtain ⟨z, hz⟩ : ∃ z, l[i]? = some z := ⟨_, List.getElem?_eq_getElem (by rw [HL.out]; exact hlt)⟩
      obtain ⟨b, off, rfl, k0⟩ := wd_below hb HW.out i z hz
      have HN := hide (show (l.take (i + 1)).any (leadB g) = leadB g z from by rw [take_at' hz, List.any_append, HD.out]; simp)
      have HIN := hide (show leadB g z = true → l.any (leadB g) = true from fun q => List.any_eq_true.2 ⟨z, List.mem_of_getElem? hz, q⟩)
      have HZ := hide (HR.out z (List.mem_of_getElem? hz))
      have i3 : (0 : Int) ≤ (i : Int) := by omega
      have i4 : (i : Int) < (len : Int) := by omega
      clear hz hb
      go_wp2_with fail
      refine (leads_any p ad n cd g z wr ((HBW.out.cell (cell_lt HP.out)).trans HP.out) (br_below HBW.out HDD.out) HZ.out.1 HZ.out.2).mono ?_
      rintro e w2 ⟨rfl, hb2⟩
      have HB2 := hide (HBW.out.trans (hb2.mono HBW.out.size))
      clear hb2
      cases hf : leadB g z
      · have HF := hide hf
        clear hf
        go_wp2
        go_roundw
        case rel => exact ⟨i + 1, by omega, by go_num, by rw [HN.out, HF.out], HB2.out⟩
        case measure => simp [intOf]; omega
      · have HF := hide hf
        clear hf
        go_wp2
        go_ret
        exact ⟨(i : Int), rfl, by rw [HIN.out HF.out]; simp, HB2.out⟩
    · have e : i = len := by omega
      subst e
      have HT := hide (show l.take i = l from List.take_of_length_le (by have := HL.out; omega))
      clear hb
      go_wp2
      go_ret
      exact ⟨-1, rfl, by rw [← HT.out, HD.out]; rfl, HBW.out⟩

set_option maxHeartbeats 800000 in
theorem containsL_any (p : Nat) (ad : Option Addr) (n cd : Nat) (g : Nat → Bool) (a : Option Addr) (len cap : Nat) (l : List Int) (w : World) (hl : len ≤ maxLen) (h6 : l.length = len) (hp : w.cell? ⟨p, 0, none⟩ = some (.slice ad n cd)) (hd : Br w ad n (fun j => !g j)) (hr : ∀ z ∈ l, -1 ≤ z ∧ z < (n : Int)) (hW : Wd w a l) :
    Calls Tryz.prog 151 #[.slice a len cap, .func (.func 171) #[] #[.pointer (some ⟨p, 0, none⟩)]] w fun e w' => e = .returned (.bool (l.any (leadB g))) ∧ Below w.heap.size w w' := by
  have HC := hide (indexL_any p ad n cd g a len cap l w hl h6 hp hd hr hW)
  clear hW h6 hp hd hr
  go_enter Tryz.func151, Tryz.ntmps151
  go_wp2_with fail
  refine HC.out.mono ?_
  rintro e w2 ⟨z, rfl, hz, hb2⟩
  have HB := hide hb2
  clear hb2 HC
  cases hg : l.any (leadB g)
  · have hz' : decide (0 ≤ z) = false := hz.trans hg
    have HG := hide hg
    clear hg hz
    go_wp2
    go_ret
    exact ⟨by rw [HG.out]; rfl, HB.out⟩
  · have hz' : decide (0 ≤ z) = true := hz.trans hg
    have HG := hide hg
    clear hg hz
    go_wp2
    go_ret
    exact ⟨by rw [HG.out]; rfl, HB.out⟩

/-- Has a state a rule, or does it go to one that is known not to be dead? -/
def livB (nx : List (List Int)) (ru : List Int) (g : Nat → Bool) (i : Nat) : Bool := ru.getD i 0 != -1 || (nx.getD i []).any (leadB g)
section
variable {nx : List (List Int)} {ru : List Int} {n : Nat} {g : Nat → Bool}
theorem liv_no (h : Mx nx ru n) {i : Nat} (hi : i < n) (hl : livB nx ru g i = false) : Cs nx ru g i 17 := fun _ => by
  unfold livB at hl
  rw [Bool.or_eq_false_iff] at hl
  refine ⟨fun _ r hr => ?_, fun c hc t ht => ?_⟩
  · have h1 := hl.1
    rw [List.getD_eq_getElem?_getD, hr, Option.getD_some] at h1
    simp at h1
    omega
  · obtain ⟨row, z, e1, _, e3, _, _, e6⟩ := mx_next h hi (show c < 16 by omega)
    have h2 := hl.2
    rw [List.getD_eq_getElem?_getD, e1, Option.getD_some] at h2
    have h3 := List.any_eq_false.1 h2 z (List.mem_of_getElem? e3)
    rw [← e6, ht] at h3
    unfold leadB at h3
    rw [show ((t : Nat) : Int).toNat = t by omega, show ((t : Int) != -1) = true by simp] at h3
    simpa using h3
theorem liv_yes (h : Mx nx ru n) (hs : Sound nx ru n g) {i : Nat} (hi : i < n) (hl : livB nx ru g i = true) : Live nx ru i := by
  unfold livB at hl
  rw [Bool.or_eq_true] at hl
  rcases hl with hl | hl
  · obtain ⟨r, hr, h1, _, h3⟩ := mx_rule h hi
    rw [List.getD_eq_getElem?_getD, hr, Option.getD_some] at hl
    simp at hl
    exact ⟨[], by rw [h3]; omega⟩
  · rw [List.any_eq_true] at hl
    obtain ⟨z, hz, hl⟩ := hl
    obtain ⟨c, hc, e⟩ := List.getElem_of_mem hz
    obtain ⟨row, e1⟩ : ∃ row, nx[i]? = some row := ⟨_, List.getElem?_eq_getElem (by rw [h.ln]; exact hi)⟩
    have e2 : nx.getD i [] = row := by rw [List.getD_eq_getElem?_getD, e1]; rfl
    have hc16 : c < 16 := by have := h.row row (List.mem_of_getElem? e1); rw [e2] at hc; omega
    obtain ⟨row', z', q1, _, q3, q4, q5, q6⟩ := mx_next h hi hc16
    have : row' = row := by rw [e1] at q1; exact (Option.some.inj q1).symm
    subst this
    have hzz : z' = z := by
      have h1 : (nx.getD i [])[c]? = some z := by rw [List.getElem?_eq_getElem hc, e]
      rw [e2, q3] at h1
      exact Option.some.inj h1
    subst hzz
    unfold leadB at hl
    rw [Bool.and_eq_true] at hl
    have hz0 : z' ≠ -1 := by simpa using hl.1
    refine live_step (c := c) ?_
    rw [q6]
    have := hs z'.toNat (by omega) hl.2
    rwa [show ((z'.toNat : Nat) : Int) = z' by omega] at this
end

set_option maxRecDepth 100000 in
set_option maxHeartbeats 1600000 in
theorem lives_any (a0 a1 ad : Option Addr) (n c0 c1 cd i : Nat) (nx : List (List Int)) (ru : List Int) (g : Nat → Bool) (w : World) (hx : Mx nx ru n) (hm : Dm w a0 a1 n n nx ru) (hd : Br w ad n (fun j => !g j)) (hi : i < n) :
    Calls Tryz.prog 156 #[.agg #[.slice a0 n c0, .slice a1 n c1], .slice ad n cd, .int .i64 (i : Int)] w fun e w' => e = .returned (.bool (livB nx ru g i)) ∧ Below w.heap.size w w' := by
  have hb0 := ((Below.refl w.heap.size w).alloc (Nat.le_refl _) (.cells #[.slice a0 n c0, .slice a1 n c1] 25)).alloc (by simp) (.cells #[.slice ad n cd] 70)
  have HBX := hide (show ((w.alloc (.cells #[.slice a0 n c0, .slice a1 n c1] 25)).alloc (.cells #[.slice ad n cd] 70)).heap[w.heap.size]? = some (.cells #[.slice a0 n c0, .slice a1 n c1] 25 (0, 0)) from (Below.heap_alloc _ _ _ (by simp)).trans (heap_alloc_last _ _))
  have HP := hide (show ((w.alloc (.cells #[.slice a0 n c0, .slice a1 n c1] 25)).alloc (.cells #[.slice ad n cd] 70)).cell? ⟨w.heap.size + 1, 0, none⟩ = some (.slice ad n cd) from by
    have h := heap_alloc_last (w.alloc (.cells #[.slice a0 n c0, .slice a1 n c1] 25)) (.cells #[.slice ad n cd] 70)
    rw [show (w.alloc (.cells #[.slice a0 n c0, .slice a1 n c1] 25)).heap.size = w.heap.size + 1 by simp] at h
    exact cell_of_row _ _ 0 _ _ _ h)
  have HB0 := hide hb0
  have HM := hide (dm_below' hb0 hm)
  have HD := hide (br_below hb0 hd)
  obtain ⟨p0, p1, -⟩ := d_cells HBX.out
  obtain ⟨r, hr, hr1, hr2, -⟩ := mx_rule hx hi
  obtain ⟨row, hrow⟩ : ∃ row, nx[i]? = some row := ⟨_, List.getElem?_eq_getElem (by rw [hx.ln]; exact hi)⟩
  obtain ⟨b2, o2, rfl, k2⟩ := HM.out.wd i r hr
  obtain ⟨hrl, b, off, rfl, hrg⟩ := HM.out.dr i row hrow
  have HRG := hide hrg
  have HRL := hide hrl
  have HRR := hide (hx.next i row hrow)
  have i1 : (0 : Int) ≤ (i : Int) := by omega
  have i2 : (i : Int) < (n : Int) := by omega
  have HE := hide (show livB nx ru g i = (r != -1 || row.any (leadB g)) by unfold livB; rw [List.getD_eq_getElem?_getD, hr, List.getD_eq_getElem?_getD, hrow]; rfl)
  clear hb0 hm hd hx hr hrow hrl hrg
  by_cases c : r = -1
  · subst c
    go_enter Tryz.func156, Tryz.ntmps156
    go_wp2_with fail
    refine (containsL_any (w.heap.size + 1) ad n cd g (some ⟨b, off + i * 16, none⟩) 16 16 row _ (by unfold maxLen; omega) HRL.out HP.out HD.out HRR.out (fun j z hz => ⟨b, off + i * 16, rfl, HRG.out j _ (by simp [cI, hz])⟩)).mono ?_
    rintro e w2 ⟨rfl, hb2⟩
    have HB2 := hide (HB0.out.trans (hb2.mono HB0.out.size))
    have HE2 := hide (show livB nx ru g i = row.any (leadB g) by rw [HE.out]; rfl)
    clear hb2
    go_wp2
    go_ret
    exact ⟨by rw [HE2.out]; rfl, HB2.out⟩
  · have d0 : (r != -1) = true := by simp [c]
    have d1 : (r == -1) = false := by simp [c]
    have HE2 := hide (show livB nx ru g i = true by rw [HE.out, d0]; rfl)
    go_enter Tryz.func156, Tryz.ntmps156
    go_wp2
    go_ret
    exact ⟨by rw [HE2.out]; rfl, HB0.out⟩
end Go.Proofs.YtbbfjjjnifomgaaGreatDoor.A



/- slices.Repeat of one truth. -/
namespace Go.Proofs.YtbbfjjjnifomgaaGreatDoor.A
open Go.RowKit
set_option linter.unusedVariables false

theorem sz4 : (Tryz.prog.info? 4).map (·.size) = some 1 := by kernel_rfl
theorem mul1_any (n : Nat) (hn : n ≤ 10000) (w : World) : Calls Tryz.prog 170 #[.int .u64 1, .int .u64 (n : Int)] w fun e w' => e = .returned (.tuple #[.int .u64 0, .int .u64 (n : Int)]) ∧ w' = w := by
  have h := Tryz.bits_Mul 1 n (by omega) (by omega) w
  have e1 : 1 * n / 18446744073709551616 = 0 := by omega
  have e2 : 1 * n % 18446744073709551616 = n := by omega
  rw [e1, e2] at h
  exact h

/-- The first k of n are true. -/
def upL (n k : Nat) : List Value := (List.range n).map fun (j : Nat) => Value.bool (decide (j < k))
theorem upL_len (n k : Nat) : (upL n k).length = n := by simp [upL]
theorem upL_at (n k j : Nat) (hj : j < n) : (upL n k)[j]? = some (.bool (decide (j < k))) := by simp [upL, hj]
theorem upL_row (n k : Nat) : (upL n k).toArray = rowB n (fun j => decide (j < k)) := rfl
theorem upL_splice (n k m : Nat) (h : k + m ≤ n) : splice (upL n k) k (List.replicate m (.bool true)) = upL n (k + m) := by
  apply List.ext_getElem?
  intro i
  unfold splice
  by_cases h1 : i < k
  · rw [List.getElem?_append_left (by simp [upL_len]; omega), List.getElem?_take_of_lt h1, upL_at n k i (by omega), upL_at n (k + m) i (by omega)]
    simp [h1]; omega
  · rw [List.getElem?_append_right (by simp [upL_len]; omega)]
    have e : (List.take k (upL n k)).length = k := by simp [upL_len]; omega
    rw [e]
    by_cases h2 : i < k + m
    · rw [List.getElem?_append_left (by simp; omega), upL_at n (k + m) i (by omega)]
      simp [List.getElem?_replicate]; omega
    · rw [List.getElem?_append_right (by simp; omega), List.length_replicate, List.getElem?_drop, show k + m + (i - k - m) = i by omega]
      by_cases h3 : i < n
      · rw [upL_at n k i h3, upL_at n (k + m) i h3]
        simp; omega
      · rw [List.getElem?_eq_none (by rw [upL_len]; omega), List.getElem?_eq_none (by rw [upL_len]; omega)]

set_option maxRecDepth 100000 in
set_option maxHeartbeats 800000 in
theorem repeat_any (b o c n : Nat) (w : World) (hn1 : 1 ≤ n) (hn : n ≤ 10000) (hc : w.cell? ⟨b, o, none⟩ = some (.bool true)) :
    Calls Tryz.prog 155 #[.slice (some ⟨b, o, none⟩) 1 c, .int .i64 (n : Int)] w fun e w' => Gives w n (fun _ => true) e w' := by
  have hmk := make39 n hn
  have d0 : decide ((n : Int) < 0) = false := by simp
  have d1 : decide ((9223372036854775807 : Int) < (n : Int)) = false := by simp; omega
  have u0 : IntKind.u64.wrap (n : Int) = (n : Int) := by rw [IntKind.wrap_u64]; omega
  have u1 : IntKind.i64.wrap (n : Int) = (n : Int) := by rw [IntKind.wrap_i64]; omega
  have hm0 := mk_new1 w n
  have HB0 := hide ((Below.refl w.heap.size w).alloc (Nat.le_refl _) (.cells (rowB n fun _ => false) 4))
  have HG := hide (show (w.alloc (.cells (rowB n fun _ => false) 4)).heap[w.heap.size]? = some (.cells (upL n 0).toArray 4 (0, 0)) from by rw [upL_row]; exact mk_congr hm0 (fun j hj => by simp))
  have HC := hide (show (w.alloc (.cells (rowB n fun _ => false) 4)).cell? ⟨b, o, none⟩ = some (.bool true) from (HB0.out.cell (p := ⟨b, o, none⟩) (cell_lt hc)).trans hc)
  have HSRC := hide (show ∀ j v, [Value.bool true][j]? = some v → (w.alloc (.cells (rowB n fun _ => false) 4)).cell? ((⟨b, o, none⟩ : Addr).add j) = some v from fun j v hj => by
    cases j with
    | zero =>
      have e : Value.bool true = v := by simpa using hj
      subst e
      rw [add_at]
      exact HC.out
    | succ j => simp at hj)
  clear hm0 hc
  go_enter Tryz.func155, Tryz.ntmps155
  go_wp2_with fail
  refine (mul1_any n hn w).mono ?_
  rintro e w1 ⟨rfl, hw1⟩
  rw [hw1]
  clear w1 hw1
  go_wp2_with ((refine wpList_copy_splice rfl _ _ 70 70 rfl 4 Tryz.underlying70 sz4 _ _ _ _ _ _ rfl rfl w.heap.size 0 (upL n 0) 4 HG.out [.bool true] (show 1 = Nat.min 1 n by show 1 = min 1 n; omega) (fun _ => ⟨rfl, ⟨b, o, none⟩, rfl, HSRC.out⟩) (by rw [upL_len]; exact hn1) (fun v hv => by simp at hv; subst hv; rfl) w.heap.size w HB0.out (Nat.le_refl _) ?_; intro w2 HG2 hB2))
  have HB2 := hide hB2
  have HG3 := hide (show w2.heap[w.heap.size]? = some (.cells (upL n 1).toArray 4 (0, 0)) from by
    have h := HG2.out
    rw [show ([Value.bool true] : List Value) = List.replicate 1 (Value.bool true) from rfl, upL_splice n 0 1 (by omega)] at h
    exact h)
  clear hB2 HG2 HG HB0 HC hmk
  generalize hB : w.heap.size = B at *
  go_loopw [8] (fun i wr => ∃ k : Nat, 1 ≤ k ∧ k ≤ n ∧ i = .int .i64 k ∧ wr.heap[B]? = some (.cells (upL n k).toArray 4 (0, 0)) ∧ Below B w wr) (fun i _ => n - (intOf i).toNat)
  case atStart => exact ⟨1, Nat.le_refl _, hn1, rfl, HG3.out, HB2.out⟩
  case round =>
    obtain ⟨k, hk1, hk2, rfl, hg, hb⟩ := hrel
    have HGK := hide hg
    have HBK := hide hb
    clear hg hb
    by_cases hlt : k < n
    · have i3 : (0 : Int) ≤ (k : Int) := by omega
      have i4 : (k : Int) < (n : Int) := by omega
      have i5 : (k : Int) ≤ (n : Int) := by omega
      have i6 : (n = k) = False := by simp; omega
      have i7 : ((n : Int) = (k : Int)) = False := by simp; omega
      have i8 : (0 : Int) ≤ (n : Int) := by omega
      obtain ⟨m, hm⟩ : ∃ m, Nat.min k (n - k) = m := ⟨_, rfl⟩
      have HMM := hide hm
      clear hm
      have hmk : k + m ≤ n := by have := HMM.out; have h2 : Nat.min k (n - k) ≤ n - k := Nat.min_le_right _ _; omega
      have hm1 : 1 ≤ m := by have h1 := HMM.out; have h2 : Nat.min k (n - k) = min k (n - k) := rfl; omega
      have hmk2 : m ≤ k := by have := HMM.out; have h2 : Nat.min k (n - k) ≤ k := Nat.min_le_left _ _; omega
      have u2 : IntKind.i64.wrap ((k : Int) + (m : Int)) = ((k + m : Nat) : Int) := by rw [IntKind.wrap_i64]; omega
      have HS := hide (show ∀ j v, (List.replicate m (Value.bool true))[j]? = some v → wr.cell? ((⟨B, 0, none⟩ : Addr).add j) = some v from fun j v hj => by
        rw [List.getElem?_replicate] at hj
        split at hj
        · obtain rfl := Option.some.inj hj
          rw [add_at, Nat.zero_add]
          rw [cell_of_row _ _ j _ _ _ HGK.out, List.getElem?_toArray, upL_at n k j (by omega), decide_eq_true (show j < k by omega)]
        · cases hj)
      go_wp2_with fail
      go_region_law (refine step_copy_splice rfl (.tmp 41) (.tmp 44) 70 70 rfl 4 Tryz.underlying70 sz4 (some ⟨B, k, none⟩) (some ⟨B, 0, none⟩) (n - k) (n - k) k n (by simp [Act.eval, Act.put]) (by simp [Act.eval, Act.put]) B k (upL n k) 4 HGK.out (List.replicate m (.bool true)) (by rw [List.length_replicate]; exact HMM.out.symm) (fun _ => ⟨rfl, ⟨B, 0, none⟩, rfl, HS.out⟩) (by rw [upL_len, List.length_replicate]; exact hmk) (fun v hv => by rw [List.eq_of_mem_replicate hv]; rfl) B w HBK.out.drew (Nat.le_refl _) ?_; intro w4 hg4 hb4)
      all_goals
        have HB4 := hide hb4
        have HG4 := hide (show w4.heap[B]? = some (.cells (upL n (k + m)).toArray 4 (0, 0)) from by rw [← upL_splice n k m hmk]; exact hg4.out)
        clear hg4 hb4
        go_wp2
        refine ⟨⟨.int .i64 ((k : Int) + (m : Int)), _, _, _, _, _, _, _, _, _, _, _, _, _, ⟨k + m, by omega, hmk, by simp, HG4.out, HB4.out⟩, rfl⟩, ?_⟩
        simp [intOf, Act.put]
        omega
    · have e : k = n := by omega
      subst e
      go_wp2
      go_ret
      exact ⟨B, by omega, rfl, mk_congr (show Mk wr B k (fun j => decide (j < k)) from HGK.out) (fun j hj => by simp [hj]), by rw [hB]; exact HBK.out⟩
end Go.Proofs.YtbbfjjjnifomgaaGreatDoor.A



/- The program's dead states. -/
namespace Go.Proofs.YtbbfjjjnifomgaaGreatDoor.A
open Go.RowKit
set_option linter.unusedVariables false

/-- One more is known not to be dead. -/
theorem sound_set {nx : List (List Int)} {ru : List Int} {n : Nat} {g : Nat → Bool} {k : Nat} (hs : Sound nx ru n g) (hl : Live nx ru k) : Sound nx ru n (fun i => if i = k then true else g i) := fun i hi h => by
  by_cases e : i = k
  · subst e; exact hl
  · simp only [e, if_false] at h; exact hs i hi h

set_option maxRecDepth 100000 in
set_option maxHeartbeats 3200000 in
theorem deadS_any (a0 a1 : Option Addr) (n c0 c1 : Nat) (nx : List (List Int)) (ru : List Int) (w : World) (hx : Mx nx ru n) (hm : Dm w a0 a1 n n nx ru) :
    Calls Tryz.prog 129 #[.agg #[.slice a0 n c0, .slice a1 n c1]] w fun e w' => ∃ g, IsLive nx ru n g ∧ Gives w n (fun j => !g j) e w' := by
  have hb0 := (Below.refl w.heap.size w).alloc (Nat.le_refl _) (.cells #[.slice a0 n c0, .slice a1 n c1] 25)
  have HBX := hide (heap_alloc_last w (.cells #[.slice a0 n c0, .slice a1 n c1] 25))
  have HS := hide (show (w.alloc (.cells #[.slice a0 n c0, .slice a1 n c1] 25)).heap.size = w.heap.size + 1 by simp)
  have HB1 := hide ((Below.refl (w.heap.size + 1) (w.alloc (.cells #[.slice a0 n c0, .slice a1 n c1] 25))).alloc (by simp) (.cells #[.bool true] 4))
  have HC := hide (show ((w.alloc (.cells #[.slice a0 n c0, .slice a1 n c1] 25)).alloc (.cells #[.bool true] 4)).cell? ⟨w.heap.size + 1, 0, none⟩ = some (.bool true) from by
    have h := heap_alloc_last (w.alloc (.cells #[.slice a0 n c0, .slice a1 n c1] 25)) (.cells #[.bool true] 4)
    rw [show (w.alloc (.cells #[.slice a0 n c0, .slice a1 n c1] 25)).heap.size = w.heap.size + 1 by simp] at h
    exact cell_of_row _ _ 0 _ _ _ h)
  have HS2 := hide (show ((w.alloc (.cells #[.slice a0 n c0, .slice a1 n c1] 25)).alloc (.cells #[.bool true] 4)).heap.size = w.heap.size + 2 by simp)
  have HB0 := hide hb0
  have HM := hide (dm_below' hb0 hm)
  have HX := hide hx
  have hn2 := hx.most
  have hn1 := hx.pos
  obtain ⟨p0, p1, -⟩ := d_cells HBX.out
  clear hb0 hm hx
  go_enter Tryz.func129, Tryz.ntmps129
  go_wp2_with fail
  go_step3
  go_wp2_with fail
  refine (repeat_any (w.heap.size + 1) 0 1 n _ hn1 (by omega) HC.out).mono ?_
  rintro e w3 ⟨B, hBs, rfl, hmk, hb3⟩
  rw [HS2.out] at hBs
  have HMK := hide (show Mk w3 B n (fun j => !(fun _ => false : Nat → Bool) j) from mk_congr hmk (fun j hj => rfl))
  have HB3 := hide (HB0.out.trans ((HB1.out.mono (by omega)).trans (hb3.mono (by rw [HS2.out]; omega))))
  have HB3' := hide (HB1.out.trans (hb3.mono (by rw [HS2.out]; omega)))
  have HX3 := hide (show ∀ wr, Below (w.heap.size + 1) (w.alloc (.cells #[.slice a0 n c0, .slice a1 n c1] 25)) wr → wr.heap[w.heap.size]? = some (.cells #[.slice a0 n c0, .slice a1 n c1] 25 (0, 0)) ∧ Dm wr a0 a1 n n nx ru from fun wr hb =>
    ⟨(hb.block w.heap.size (by omega)).trans HBX.out, dm_below' (by rw [HS.out]; exact hb) HM.out⟩)
  clear hmk hb3 p0 p1 HBX HM HC HB1
  have HBR := hide (show Below B w3 w3 from Below.refl _ _)
  have HB5 := hide (show ∀ wr, Below B w3 wr → Below (w.heap.size + 1) (w.alloc (.cells #[.slice a0 n c0, .slice a1 n c1] 25)) wr from fun wr hb => HB3'.out.trans (hb.mono (by omega)))
  generalize w.alloc (.cells #[.slice a0 n c0, .slice a1 n c1] 25) = W1 at *
  go_wp2_with fail
  go_step3
  go_wp2_with fail
  go_loopg [4, 12] n (fun gk s4 s12 wr => ∃ g : Nat → Bool, cntF g n ≤ gk ∧ Mk wr B n (fun j => !g j) ∧ Sound nx ru n g ∧ Below B w3 wr)
  case atStart => exact ⟨fun _ => false, cntF_le _ _, HMK.out, fun i _ q => by simp at q, HBR.out⟩
  case round =>
    obtain ⟨g, hcn, hmk, hsd, hb⟩ := hrel
    have HCN := hide hcn
    have HMK1 := hide hmk
    have HSD := hide hsd
    have HBW := hide hb
    clear hcn hmk hsd hb HMK
    obtain ⟨G, hG⟩ : ∃ G, G = gk := ⟨_, rfl⟩
    subst hG
    go_wp2_with fail
    generalize wr = W5 at *
    go_loopg [4, 12] n (fun gi s4 s12 wi => ∃ i : Nat, i + gi = n ∧ s12 = .int .i64 i ∧ (∀ j, j < i → Cs nx ru g j 17) ∧ Mk wi B n (fun j => !g j) ∧ Below B w3 wi)
    case atStart => exact ⟨0, by omega, rfl, fun j hj => by omega, HMK1.out, HBW.out⟩
    case round =>
      obtain ⟨i, hig, rfl, hcs, hmk, hb⟩ := hrel
      have HCS := hide hcs
      have HMK := hide hmk
      have HBI := hide hb
      clear hcs hmk hb HMK1 HBW
      by_cases hlt : i < n
      · obtain ⟨hX, hDm⟩ := HX3.out wr (HB5.out wr HBI.out)
        obtain ⟨p0, p1, -⟩ := d_cells hX
        obtain ⟨m0, m1⟩ := mk_cell HMK.out hlt
        have i3 : (0 : Int) ≤ (i : Int) := by omega
        have i4 : (i : Int) < (n : Int) := by omega
        have HDM := hide hDm
        clear hX hDm
        cases hgi : g i
        · have HGI := hide hgi
          rw [hgi] at m0
          have HBRR := hide (show Br wr (some ⟨B, 0, none⟩) n (fun j => !g j) from fun j hj => ⟨B, 0, rfl, by rw [Nat.zero_add]; exact (mk_cell HMK.out hj).1⟩)
          clear hgi
          go_wp2_with fail
          refine (lives_any a0 a1 (some ⟨B, 0, none⟩) n c0 c1 n i nx ru g wr HX.out HDM.out HBRR.out hlt).mono ?_
          rintro e w6 ⟨rfl, hb6⟩
          have HB6 := hide (HBI.out.trans (hb6.mono (Nat.le_of_lt (mk_lt HMK.out))))
          have HMK6 := hide (mk_below (mk_lt HMK.out) hb6 HMK.out)
          obtain ⟨q0, q1⟩ := mk_cell HMK6.out hlt
          clear hb6 m0 m1
          cases hlv : livB nx ru g i
          · have HN := hide (liv_no HX.out hlt hlv)
            clear hlv
            go_wp2_with fail
            obtain ⟨gi', hgi'⟩ : ∃ g', gk = g' + 1 := ⟨gk - 1, by omega⟩
            go_roundg gi'
            case measure => omega
            case rel => exact ⟨i + 1, by omega, by go_num, fun j hj => by
              by_cases e : j = i
              · subst e; exact HN.out
              · exact HCS.out j (by omega), HMK6.out, HB6.out⟩
          · have HL := hide (liv_yes HX.out HSD.out hlt hlv)
            clear hlv
            go_wp2_with fail
            have HC2 := hide (show cntF (fun q => if q = i then true else g q) n < cntF g n from cntF_lt n (fun j _ h => by simp [h]) i hlt HGI.out (by simp))
            have HK2 := hide (mk_congr (mk_set HMK6.out hlt false) (h := fun j => !(if j = i then true else g j)) (fun j hj => by by_cases e : j = i <;> simp [e]))
            have HBK := hide (HB6.out.setCell (p := ⟨B, i, none⟩) (Nat.le_refl B) (.bool false))
            obtain ⟨G', hG'⟩ : ∃ g', G = g' + 1 := ⟨G - 1, by have := HCN.out; have := HC2.out; omega⟩
            go_roundg G'
            case measure => omega
            case rel => exact ⟨_, by have := HCN.out; have := HC2.out; omega, HK2.out, sound_set HSD.out HL.out, HBK.out⟩
        · have HGI := hide hgi
          rw [hgi] at m0
          clear hgi
          go_wp2_with fail
          obtain ⟨gi', hgi'⟩ : ∃ g', gk = g' + 1 := ⟨gk - 1, by omega⟩
          go_roundg gi'
          case measure => omega
          case rel => exact ⟨i + 1, by omega, by go_num, fun j hj => by
            by_cases e : j = i
            · subst e; intro q; rw [HGI.out] at q; cases q
            · exact HCS.out j (by omega), HMK.out, HBI.out⟩
      · obtain rfl : i = n := by omega
        have HIL := hide (cls_full HX.out HCS.out HSD.out)
        have hbf := HBI.out
        go_wp2_with fail
        try rw [Exit.noGoto_ret]
        go_ret
        exact ⟨g, HIL.out, B, by omega, rfl, HMK.out, HB3.out.trans (hbf.mono (by omega))⟩
end Go.Proofs.YtbbfjjjnifomgaaGreatDoor.A


