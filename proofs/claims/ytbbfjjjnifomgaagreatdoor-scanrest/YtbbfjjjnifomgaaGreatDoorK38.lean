/- Classes of states, split till no more come of it: plain mathematics. -/
import Derived.OpenShut
import Derived.Lib.LaidTab
import Derived.Below
import Derived.Outline
import Derived.Deep.Heap
import Derived.Deep.OwnRows
import Derived.Deep.QuietTactic
import Derived.Deep.Slices
import Derived.ProofKit
import Derived.WalkKit
import Derived.WalkSpells
import Derived.WalkLawsBesides
import Derived.Deep.WholeRow
import Derived.Deep.MidRow
import Derived.DeepKeys5
import Derived.Maps.OwnSet
import Derived.Maps.OwnOps
import Derived.Maps.AppendAt
import Derived.Maps.RangeWalk
import Derived.Deep.RegionLaw
import Derived.Deep.Cut
import Derived.Deep.CutRange
import Derived.Deep.RegionHeld3
import Derived.Deep.AppendLies
import Derived.BigQuiet
import Derived.Deep.Strs
import Derived.Deep.AppendSrc
import Derived.Laws.AppendOwnNone
import Derived.Laws.AppendOwn
import Derived.Shelf.Small.Strs
import Derived.Shelf.Strconv.Itoa0
import Derived.Shelf.Strconv.Itoa1
import Derived.Shelf.LaysM
import Derived.Shelf.Strconv.Itoa2
import Derived.Shelf.Strconv.Clone
import Derived.Shelf.Strings.Search1
import Derived.Shelf.Strings.Search2
import Derived.Shelf.Strings.Search3
import Derived.Shelf.Strings.Count
import Derived.Shelf.Strings.Shaped
import Derived.Shelf.Strconv.AppendUint10
import Derived.Shelf.Strconv.AppendInt10
import Derived.Shelf.Strconv.AppendIntPublic10
import Derived.Shelf.Strings.Split
import Derived.Shelf.Strings.SplitShaped
import Derived.Shelf.Bits.Mul64
import Derived.Shelf.Unicode.DecodeSlow
import Derived.Ground.Names2Prog
import Derived.Shelf.Slices.Clone
import Derived.Ground.SlgnProg
import Derived.Shelf.SlicesE.Clone
import Derived.Laws.IdiomStrings
import Derived.Laws.BytesArg
import Derived.LaidMore
import Derived.HandedShaped
import Derived.Shelf.Vars
import Derived.MakeChecks
import Derived.Stop.LaidErr
import Derived.Laws.OwnMore
import Derived.OwnWalk
import Derived.Defers
import Derived.Recover
import Derived.Lib.SplitLaws
import Derived.Test.YtbbfjjjnifomgaaGreatDoorK8
import Derived.Test.YtbbfjjjnifomgaaGreatDoorK11
import Derived.Test.YtbbfjjjnifomgaaGreatDoorK13
import Derived.Test.YtbbfjjjnifomgaaGreatDoorK20
import Derived.Test.YtbbfjjjnifomgaaGreatDoorK24
import Derived.Test.YtbbfjjjnifomgaaGreatDoorK26
import Derived.Test.YtbbfjjjnifomgaaGreatDoorK29
import Derived.Test.YtbbfjjjnifomgaaGreatDoorK33
import Derived.Test.YtbbfjjjnifomgaaGreatDoorK34
import Derived.Test.YtbbfjjjnifomgaaGreatDoorK35
import Derived.Laws.Tables
import Derived.Laws.Rows
import Derived.Laws.CopyOwn
import Derived.Test.YtbbfjjjnifomgaaGreatDoorK1
import Derived.Test.YtbbfjjjnifomgaaGreatDoorK6
import Derived.Test.YtbbfjjjnifomgaaGreatDoorK30
import Derived.Deep.LoopGhost
import Derived.Test.YtbbfjjjnifomgaaGreatDoorK4
import Derived.Test.YtbbfjjjnifomgaaGreatDoorK37
namespace Go.Proofs.YtbbfjjjnifomgaaGreatDoor.A
open Go.RowKit
set_option linter.unusedVariables false

/-- The class of a state, or of nowhere. -/
def cF (cl : Nat → Int) (z : Int) : Int := if z = -1 then -1 else cl z.toNat
theorem cF_at (cl : Nat → Int) (j : Nat) : cF cl (j : Int) = cl j := by unfold cF; rw [if_neg (by omega)]; rfl
theorem cF_no (cl : Nat → Int) : cF cl (-1) = -1 := by unfold cF; rw [if_pos rfl]
/-- What a state does. -/
def ddF (nx : List (List Int)) (ru : List Int) (cl : Nat → Int) (i : Nat) : List Int := ((List.range 16).map fun (c : Nat) => cF cl (stepF nx i c)) ++ [ru.getD i 0]
theorem dd_len (nx : List (List Int)) (ru : List Int) (cl : Nat → Int) (i : Nat) : (ddF nx ru cl i).length = 17 := by simp [ddF]
theorem dd_at (nx : List (List Int)) (ru : List Int) (cl : Nat → Int) (i c : Nat) (h : c < 16) : (ddF nx ru cl i)[c]? = some (cF cl (stepF nx i c)) := by
  unfold ddF
  rw [List.getElem?_append_left (by simp; exact h)]
  simp [h]
theorem dd_last (nx : List (List Int)) (ru : List Int) (cl : Nat → Int) (i : Nat) : (ddF nx ru cl i)[16]? = some (ru.getD i 0) := by simp [ddF]
theorem dd_iff (nx : List (List Int)) (ru : List Int) (cl : Nat → Int) (i k : Nat) : ddF nx ru cl i = ddF nx ru cl k ↔ (∀ c : Nat, c < 16 → cF cl (stepF nx i c) = cF cl (stepF nx k c)) ∧ ru.getD i 0 = ru.getD k 0 := by
  constructor
  · intro h
    refine ⟨fun c hc => ?_, ?_⟩
    · have h1 := dd_at nx ru cl i c hc
      rw [h, dd_at nx ru cl k c hc] at h1
      exact (Option.some.inj h1).symm
    · have h1 := dd_last nx ru cl i
      rw [h, dd_last nx ru cl k] at h1
      exact (Option.some.inj h1).symm
  · rintro ⟨h1, h2⟩
    unfold ddF
    rw [h2]
    congr 1
    refine List.map_congr_left fun c hc => h1 c (by simpa using hc)

/-- A split, as far as the states ahead of k go. -/
structure SpI (nx : List (List Int)) (ru : List Int) (cl : Nat → Int) (k : Nat) (D : List (List Int)) (F : Nat → Int) : Prop where
  dead : ∀ i, i < k → cl i = -1 → F i = -1
  live : ∀ i, i < k → cl i ≠ -1 → ∃ j : Nat, F i = j ∧ D[j]? = some (ddF nx ru cl i)
  nd : D.Nodup
  all : ∀ (j : Nat) (d : List Int), D[j]? = some d → ∃ i, i < k ∧ cl i ≠ -1 ∧ d = ddF nx ru cl i
section
variable {nx : List (List Int)} {ru : List Int} {cl F : Nat → Int} {k n : Nat} {D : List (List Int)}
theorem sp_start (cl F : Nat → Int) : SpI nx ru cl 0 [] F := ⟨fun i h => by omega, fun i h => by omega, List.nodup_nil, fun j d h => by simp at h⟩
theorem sp_dead (h : SpI nx ru cl k D F) (hc : cl k = -1) : SpI nx ru cl (k + 1) D (fun j => if j = k then -1 else F j) := by
  refine ⟨fun i hi hd => ?_, fun i hi hl => ?_, h.nd, fun j d hj => ?_⟩
  · by_cases e : i = k
    · simp [e]
    · simp only [e, if_false]; exact h.dead i (by omega) hd
  · by_cases e : i = k
    · subst e; exact absurd hc hl
    · simp only [e, if_false]; exact h.live i (by omega) hl
  · obtain ⟨i, h1, h2, h3⟩ := h.all j d hj
    exact ⟨i, by omega, h2, h3⟩
theorem sp_old (h : SpI nx ru cl k D F) (hc : cl k ≠ -1) (hm : ddF nx ru cl k ∈ D) : SpI nx ru cl (k + 1) D (fun j => if j = k then ((D.idxOf (ddF nx ru cl k) : Nat) : Int) else F j) := by
  refine ⟨fun i hi hd => ?_, fun i hi hl => ?_, h.nd, fun j d hj => ?_⟩
  · by_cases e : i = k
    · subst e; exact absurd hd hc
    · simp only [e, if_false]; exact h.dead i (by omega) hd
  · by_cases e : i = k
    · subst e
      refine ⟨D.idxOf (ddF nx ru cl i), by simp, ?_⟩
      have hlt := List.idxOf_lt_length_iff.2 hm
      rw [List.getElem?_eq_getElem hlt, List.getElem_idxOf]
    · simp only [e, if_false]; exact h.live i (by omega) hl
  · obtain ⟨i, h1, h2, h3⟩ := h.all j d hj
    exact ⟨i, by omega, h2, h3⟩
theorem sp_new (h : SpI nx ru cl k D F) (hc : cl k ≠ -1) (hm : ¬ ddF nx ru cl k ∈ D) : SpI nx ru cl (k + 1) (D ++ [ddF nx ru cl k]) (fun j => if j = k then ((D.length : Nat) : Int) else F j) := by
  refine ⟨fun i hi hd => ?_, fun i hi hl => ?_, ?_, fun j d hj => ?_⟩
  · by_cases e : i = k
    · subst e; exact absurd hd hc
    · simp only [e, if_false]; exact h.dead i (by omega) hd
  · by_cases e : i = k
    · subst e
      exact ⟨D.length, by simp, by simp⟩
    · simp only [e, if_false]
      obtain ⟨j, h1, h2⟩ := h.live i (by omega) hl
      exact ⟨j, h1, by rw [List.getElem?_append_left (List.getElem?_eq_some_iff.1 h2).1]; exact h2⟩
  · rw [List.nodup_append]
    refine ⟨h.nd, by simp, fun a ha b hb => ?_⟩
    rw [List.mem_singleton] at hb
    subst hb
    exact fun e => hm (e ▸ ha)
  · by_cases e : j < D.length
    · rw [List.getElem?_append_left e] at hj
      obtain ⟨i, h1, h2, h3⟩ := h.all j d hj
      exact ⟨i, by omega, h2, h3⟩
    · rw [List.getElem?_append_right (by omega)] at hj
      have e1 : j - D.length = 0 := by have := (List.getElem?_eq_some_iff.1 hj).1; simp at this; omega
      rw [e1] at hj
      have hj' : ddF nx ru cl k = d := by simpa using hj
      exact ⟨k, by omega, hc, hj'.symm⟩

theorem nd_one {D : List (List Int)} (h : D.Nodup) {j j' : Nat} {d : List Int} (h1 : D[j]? = some d) (h2 : D[j']? = some d) : j = j' := by
  have l1 := (List.getElem?_eq_some_iff.1 h1).1
  exact (List.getElem?_inj l1 h).1 (h1.trans h2.symm)

theorem dead_out (h : Mx nx ru n) {a : Int} (ha : a < (n : Int)) (hl : ¬ Live nx ru a) (w : List Nat) : outc nx ru a w = -1 := by
  have h1 := out_rng h w a ha
  by_cases c : 0 ≤ outc nx ru a w
  · exact absurd ⟨w, c⟩ hl
  · omega
theorem step_lo (h : Mx nx ru n) {i : Nat} (hi : i < n) (c : Nat) : -1 ≤ stepF nx i c ∧ stepF nx i c < (n : Int) := by
  by_cases hc : c < 16
  · obtain ⟨_, z, _, _, _, h1, h2, e⟩ := mx_next h hi hc
    rw [e]; exact ⟨h1, h2⟩
  · rw [step_far (by omega)]; have := h.pos; omega

/-- Classes that are not too fine, and that tell nothing apart that what is done does not. -/
structure Iv (nx : List (List Int)) (ru : List Int) (n : Nat) (cl : Nat → Int) (cnt : Nat) : Prop where
  neg : ∀ i, i < n → (cl i = -1 ↔ ¬ Live nx ru i)
  rng : ∀ i, i < n → -1 ≤ cl i ∧ cl i ≤ 200
  sep : ∀ i k, i < n → k < n → Alk nx ru i k → cl i = cl k
  rf : ∀ i k, i < n → k < n → cl i ≠ -1 → cl k ≠ -1 → ddF nx ru cl i = ddF nx ru cl k → cl i = cl k
  num : cnt = 0 ∨ ((∀ j : Nat, j < cnt → ∃ i, i < n ∧ cl i = j) ∧ ∀ i, i < n → cl i < (cnt : Int))
/-- Each state's class: alike ones have one, dead ones -1. -/
structure IsCls (nx : List (List Int)) (ru : List Int) (n : Nat) (F : Nat → Int) : Prop where
  neg : ∀ i, i < n → (F i = -1 ↔ ¬ Live nx ru i)
  rng : ∀ i, i < n → -1 ≤ F i ∧ F i ≤ 200
  same : ∀ i k, i < n → k < n → (F i = F k ↔ Alk nx ru i k)

theorem cF_neg (hneg : ∀ i, i < n → (cl i = -1 ↔ ¬ Live nx ru i)) {a : Int} (h1 : -1 ≤ a) (h2 : a < (n : Int)) : cF cl a = -1 ↔ ¬ Live nx ru a := by
  by_cases e : a = -1
  · subst e
    rw [cF_no]
    exact ⟨fun _ => dead_neg (by omega), fun _ => rfl⟩
  · obtain ⟨j, rfl⟩ : ∃ j : Nat, a = j := ⟨a.toNat, by omega⟩
    rw [cF_at]
    exact hneg j (by omega)
theorem cF_alk (h : Iv nx ru n cl k) {a b : Int} (a1 : -1 ≤ a) (a2 : a < (n : Int)) (b1 : -1 ≤ b) (b2 : b < (n : Int)) (hab : Alk nx ru a b) : cF cl a = cF cl b := by
  by_cases hl : Live nx ru a
  · have hl2 := (alk_live hab).1 hl
    have na : a ≠ -1 := fun e => by subst e; exact dead_neg (by omega) hl
    have nb : b ≠ -1 := fun e => by subst e; exact dead_neg (by omega) hl2
    obtain ⟨i, rfl⟩ : ∃ j : Nat, a = j := ⟨a.toNat, by omega⟩
    obtain ⟨j, rfl⟩ : ∃ j : Nat, b = j := ⟨b.toNat, by omega⟩
    rw [cF_at, cF_at]
    exact h.sep i j (by omega) (by omega) hab
  · rw [(cF_neg h.neg a1 a2).2 hl, (cF_neg h.neg b1 b2).2 (fun q => hl ((alk_live hab).2 q))]
theorem ru_out (h : Mx nx ru n) {i : Nat} (hi : i < n) : ru.getD i 0 = outc nx ru i [] := by
  obtain ⟨r, hr, _, _, e⟩ := mx_rule h hi
  rw [e, List.getD_eq_getElem?_getD, hr]; rfl
theorem alk_dd (hx : Mx nx ru n) (h : Iv nx ru n cl k) {i j : Nat} (hi : i < n) (hj : j < n) (q : Alk nx ru i j) : ddF nx ru cl i = ddF nx ru cl j :=
  (dd_iff nx ru cl i j).2 ⟨fun c hc => cF_alk h (step_lo hx hi c).1 (step_lo hx hi c).2 (step_lo hx hj c).1 (step_lo hx hj c).2 (alk_step q c), by rw [ru_out hx hi, ru_out hx hj]; exact q []⟩

section
variable {m : Nat} (hx : Mx nx ru n) (h : Iv nx ru n cl m) (hs : SpI nx ru cl n D F)
include hs in
theorem sp_neg {i : Nat} (hi : i < n) : F i = -1 ↔ cl i = -1 := by
  constructor
  · intro e
    by_cases c : cl i = -1
    · exact c
    · obtain ⟨j, h1, _⟩ := hs.live i hi c
      omega
  · exact hs.dead i hi
include hs in
theorem sp_dd {i j : Nat} (hi : i < n) (hj : j < n) (ci : cl i ≠ -1) (cj : cl j ≠ -1) : F i = F j ↔ ddF nx ru cl i = ddF nx ru cl j := by
  obtain ⟨a, a1, a2⟩ := hs.live i hi ci
  obtain ⟨b, b1, b2⟩ := hs.live j hj cj
  constructor
  · intro e
    have : a = b := by omega
    subst this
    rw [a2] at b2
    exact Option.some.inj b2
  · intro e
    rw [e] at a2
    have := nd_one hs.nd a2 b2
    omega
include h hs in
theorem sp_fine {i j : Nat} (hi : i < n) (hj : j < n) (e : F i = F j) : cl i = cl j := by
  by_cases ci : cl i = -1
  · rw [ci, (sp_neg hs hj).1 (by rw [← e]; exact hs.dead i hi ci)]
  · have cj : cl j ≠ -1 := fun q => ci ((sp_neg hs hi).1 (e.trans (hs.dead j hj q)))
    exact h.rf i j hi hj ci cj ((sp_dd hs hi hj ci cj).1 e)
include h hs in
theorem cF_fine {a b : Int} (a1 : -1 ≤ a) (a2 : a < (n : Int)) (b1 : -1 ≤ b) (b2 : b < (n : Int)) (e : cF F a = cF F b) : cF cl a = cF cl b := by
  by_cases ea : a = -1
  · subst ea
    by_cases eb : b = -1
    · subst eb; rfl
    · obtain ⟨j, rfl⟩ : ∃ j : Nat, b = j := ⟨b.toNat, by omega⟩
      rw [cF_no, cF_at] at e
      rw [cF_no, cF_at, (sp_neg hs (by omega)).1 e.symm]
  · obtain ⟨i, rfl⟩ : ∃ j : Nat, a = j := ⟨a.toNat, by omega⟩
    by_cases eb : b = -1
    · subst eb
      rw [cF_no, cF_at] at e
      rw [cF_no, cF_at, (sp_neg hs (by omega)).1 e]
    · obtain ⟨j, rfl⟩ : ∃ j : Nat, b = j := ⟨b.toNat, by omega⟩
      rw [cF_at, cF_at] at e ⊢
      exact sp_fine h hs (by omega) (by omega) e
include hs in
theorem sp_len : D.length ≤ n := by
  have hc : ∀ j : Nat, j < D.length → ∃ i, i < n ∧ F i = (j : Int) := fun j hj => by
    obtain ⟨i, h1, h2, h3⟩ := hs.all j _ (List.getElem?_eq_getElem hj)
    obtain ⟨j', e1, e2⟩ := hs.live i h1 h2
    rw [← h3] at e2
    have := nd_one hs.nd e2 (List.getElem?_eq_getElem hj)
    exact ⟨i, h1, by omega⟩
  have hc' : ∀ j : Nat, ∃ i : Nat, j < D.length → i < n ∧ F i = (j : Int) := fun j => by
    by_cases hj : j < D.length
    · obtain ⟨i, q⟩ := hc j hj
      exact ⟨i, fun _ => q⟩
    · exact ⟨0, fun q => absurd q hj⟩
  obtain ⟨r, hr⟩ := Classical.axiomOfChoice hc'
  have := nodup_le n ((List.range D.length).map fun j => ((r j : Nat) : Int)) (by
    rw [List.nodup_iff_pairwise_ne, List.pairwise_map]
    refine List.Pairwise.imp_of_mem ?_ (List.nodup_iff_pairwise_ne.1 List.nodup_range)
    intro a b ha hb hne e
    have h1 := (hr a (by simpa using ha)).2
    have h2 := (hr b (by simpa using hb)).2
    have e' : r a = r b := by omega
    rw [e'] at h1
    omega) (fun x hx => by
    obtain ⟨j, hj, rfl⟩ := List.mem_map.1 hx
    have := (hr j (by simpa using hj)).1
    omega)
  simpa using this
/-- Of each class one of its states, and their new classes. -/
theorem sp_reps (h : Iv nx ru n cl m) (hs : SpI nx ru cl n D F) (hm : m ≠ 0) : ∃ r : Nat → Nat, (∀ j, j < m → r j < n ∧ cl (r j) = (j : Int)) ∧ ((List.range m).map fun j => F (r j)).Nodup ∧ ∀ x ∈ (List.range m).map (fun j => F (r j)), 0 ≤ x ∧ x < (D.length : Int) := by
  rcases h.num with h0 | ⟨h1, h2⟩
  · exact absurd h0 hm
  have hc' : ∀ j : Nat, ∃ i : Nat, j < m → i < n ∧ cl i = (j : Int) := fun j => by
    by_cases hj : j < m
    · obtain ⟨i, q⟩ := h1 j hj
      exact ⟨i, fun _ => q⟩
    · exact ⟨0, fun q => absurd q hj⟩
  obtain ⟨r, hr⟩ := Classical.axiomOfChoice hc'
  refine ⟨r, hr, ?_, fun x hx => ?_⟩
  · rw [List.nodup_iff_pairwise_ne, List.pairwise_map]
    refine List.Pairwise.imp_of_mem ?_ (List.nodup_iff_pairwise_ne.1 List.nodup_range)
    intro a b ha hb hne e
    have q1 := hr a (by simpa using ha)
    have q2 := hr b (by simpa using hb)
    have := sp_fine h hs q1.1 q2.1 e
    omega
  · obtain ⟨j, hj, rfl⟩ := List.mem_map.1 hx
    have q1 := hr j (by simpa using hj)
    obtain ⟨a, a1, a2⟩ := hs.live (r j) q1.1 (by omega)
    have := (List.getElem?_eq_some_iff.1 a2).1
    omega
include h hs in
theorem sp_more : m ≤ D.length := by
  by_cases hm : m = 0
  · omega
  · obtain ⟨r, _, h1, h2⟩ := sp_reps h hs hm
    simpa using nodup_le D.length _ h1 h2
include h hs in
/-- Where there are no more classes than there were, they are the same. -/
theorem sp_same (he : D.length = m) {i j : Nat} (hi : i < n) (hj : j < n) (e : cl i = cl j) : F i = F j := by
  by_cases ci : cl i = -1
  · rw [hs.dead i hi ci, hs.dead j hj (by rw [← e]; exact ci)]
  have cj : cl j ≠ -1 := by rw [← e]; exact ci
  by_cases hm : m = 0
  · obtain ⟨a, _, a2⟩ := hs.live i hi ci
    have := (List.getElem?_eq_some_iff.1 a2).1
    omega
  obtain ⟨r, hr, h1, h2⟩ := sp_reps h hs hm
  have key : ∀ i, i < n → cl i ≠ -1 → ∃ a, a < m ∧ F i = F (r a) ∧ cl i = (a : Int) := fun i hi ci => by
    have hmem : F i ∈ (List.range m).map (fun j => F (r j)) := by
      by_cases q : F i ∈ (List.range m).map (fun j => F (r j))
      · exact q
      · have := nodup_le D.length (F i :: (List.range m).map (fun j => F (r j))) (List.nodup_cons.2 ⟨q, h1⟩) (fun x hx => by
          rw [List.mem_cons] at hx
          rcases hx with rfl | hx
          · obtain ⟨a, a1, a2⟩ := hs.live i hi ci
            have := (List.getElem?_eq_some_iff.1 a2).1
            omega
          · exact h2 x hx)
        simp at this
        omega
    obtain ⟨a, ha, e⟩ := List.mem_map.1 hmem
    have ha' : a < m := by simpa using ha
    exact ⟨a, ha', e.symm, (sp_fine h hs hi (hr a ha').1 e.symm).trans (hr a ha').2⟩
  obtain ⟨a, _, a1, a2⟩ := key i hi ci
  obtain ⟨b, _, b1, b2⟩ := key j hj cj
  have : a = b := by omega
  rw [a1, b1, this]
include h hs in
theorem cF_same (he : D.length = m) {a b : Int} (a1 : -1 ≤ a) (a2 : a < (n : Int)) (b1 : -1 ≤ b) (b2 : b < (n : Int)) (e : cF cl a = cF cl b) : cF F a = cF F b := by
  by_cases ea : a = -1
  · subst ea
    by_cases eb : b = -1
    · subst eb; rfl
    · obtain ⟨j, rfl⟩ : ∃ j : Nat, b = j := ⟨b.toNat, by omega⟩
      rw [cF_no, cF_at] at e
      rw [cF_no, cF_at, hs.dead j (by omega) e.symm]
  · obtain ⟨i, rfl⟩ : ∃ j : Nat, a = j := ⟨a.toNat, by omega⟩
    by_cases eb : b = -1
    · subst eb
      rw [cF_no, cF_at] at e
      rw [cF_no, cF_at, hs.dead i (by omega) e]
    · obtain ⟨j, rfl⟩ : ∃ j : Nat, b = j := ⟨b.toNat, by omega⟩
      rw [cF_at, cF_at] at e ⊢
      exact sp_same h hs he (by omega) (by omega) e
include hx h hs in
theorem iv_next : Iv nx ru n F D.length := by
  have hneg : ∀ i, i < n → (F i = -1 ↔ ¬ Live nx ru i) := fun i hi => (sp_neg hs hi).trans (h.neg i hi)
  have hl := sp_len hs
  have hmost := hx.most
  refine ⟨hneg, fun i hi => ?_, fun i k hi hk q => ?_, fun i k hi hk ci ck e => ?_, .inr ⟨fun j hj => ?_, fun i hi => ?_⟩⟩
  · by_cases c : cl i = -1
    · rw [hs.dead i hi c]; omega
    · obtain ⟨a, a1, a2⟩ := hs.live i hi c
      have := (List.getElem?_eq_some_iff.1 a2).1
      omega
  · by_cases c : cl i = -1
    · have c2 : cl k = -1 := by rw [← h.sep i k hi hk q]; exact c
      rw [hs.dead i hi c, hs.dead k hk c2]
    · have c2 : cl k ≠ -1 := by rw [← h.sep i k hi hk q]; exact c
      exact (sp_dd hs hi hk c c2).2 (alk_dd hx h hi hk q)
  · have ci' : cl i ≠ -1 := fun q => ci (hs.dead i hi q)
    have ck' : cl k ≠ -1 := fun q => ck (hs.dead k hk q)
    obtain ⟨e1, e2⟩ := (dd_iff nx ru F i k).1 e
    exact (sp_dd hs hi hk ci' ck').2 ((dd_iff nx ru cl i k).2 ⟨fun c hc => cF_fine h hs (step_lo hx hi c).1 (step_lo hx hi c).2 (step_lo hx hk c).1 (step_lo hx hk c).2 (e1 c hc), e2⟩)
  · obtain ⟨i, h1, h2, h3⟩ := hs.all j _ (List.getElem?_eq_getElem hj)
    obtain ⟨j', e1, e2⟩ := hs.live i h1 h2
    rw [← h3] at e2
    have := nd_one hs.nd e2 (List.getElem?_eq_getElem hj)
    exact ⟨i, h1, by omega⟩
  · by_cases c : cl i = -1
    · rw [hs.dead i hi c]; omega
    · obtain ⟨a, a1, a2⟩ := hs.live i hi c
      have := (List.getElem?_eq_some_iff.1 a2).1
      omega
include hx h hs in
theorem iv_end (he : D.length = m) : IsCls nx ru n F := by
  have hv := iv_next hx h hs
  have key : ∀ (w : List Nat) (a b : Int), -1 ≤ a → a < (n : Int) → -1 ≤ b → b < (n : Int) → cF F a = cF F b → outc nx ru a w = outc nx ru b w := by
    intro w
    induction w with
    | nil =>
      intro a b a1 a2 b1 b2 e
      by_cases hl : Live nx ru a
      · have ha : cF F a ≠ -1 := fun q => (cF_neg hv.neg a1 a2).1 q hl
        have na : a ≠ -1 := fun q => by subst q; exact ha (cF_no F)
        have nb : b ≠ -1 := fun q => by subst q; exact ha (e.trans (cF_no F))
        obtain ⟨i, rfl⟩ : ∃ j : Nat, a = j := ⟨a.toNat, by omega⟩
        obtain ⟨j, rfl⟩ : ∃ j : Nat, b = j := ⟨b.toNat, by omega⟩
        rw [cF_at] at ha e
        rw [cF_at] at e
        have ci : cl i ≠ -1 := fun q => ha (hs.dead i (by omega) q)
        have cj : cl j ≠ -1 := fun q => ha (e.trans (hs.dead j (by omega) q))
        have := ((dd_iff nx ru cl i j).1 ((sp_dd hs (by omega) (by omega) ci cj).1 e)).2
        rw [ru_out hx (by omega), ru_out hx (by omega)] at this
        exact this
      · have hb : ¬ Live nx ru b := (cF_neg hv.neg b1 b2).1 (by rw [← e]; exact (cF_neg hv.neg a1 a2).2 hl)
        rw [dead_out hx a2 hl, dead_out hx b2 hb]
    | cons c r ih =>
      intro a b a1 a2 b1 b2 e
      by_cases hl : Live nx ru a
      · have ha : cF F a ≠ -1 := fun q => (cF_neg hv.neg a1 a2).1 q hl
        have na : a ≠ -1 := fun q => by subst q; exact ha (cF_no F)
        have nb : b ≠ -1 := fun q => by subst q; exact ha (e.trans (cF_no F))
        obtain ⟨i, rfl⟩ : ∃ j : Nat, a = j := ⟨a.toNat, by omega⟩
        obtain ⟨j, rfl⟩ : ∃ j : Nat, b = j := ⟨b.toNat, by omega⟩
        rw [cF_at] at ha e
        rw [cF_at] at e
        have ci : cl i ≠ -1 := fun q => ha (hs.dead i (by omega) q)
        have cj : cl j ≠ -1 := fun q => ha (e.trans (hs.dead j (by omega) q))
        have e1 := ((dd_iff nx ru cl i j).1 ((sp_dd hs (by omega) (by omega) ci cj).1 e)).1
        have li := step_lo hx (show i < n by omega) c
        have lj := step_lo hx (show j < n by omega) c
        show outc nx ru (stepF nx i c) r = outc nx ru (stepF nx j c) r
        refine ih _ _ li.1 li.2 lj.1 lj.2 ?_
        by_cases hc : c < 16
        · exact cF_same h hs he li.1 li.2 lj.1 lj.2 (e1 c hc)
        · rw [step_far (by omega), step_far (by omega)]
      · have hb : ¬ Live nx ru b := (cF_neg hv.neg b1 b2).1 (by rw [← e]; exact (cF_neg hv.neg a1 a2).2 hl)
        rw [dead_out hx a2 hl, dead_out hx b2 hb]
  refine ⟨hv.neg, hv.rng, fun i k hi hk => ⟨fun e w => ?_, hv.sep i k hi hk⟩⟩
  exact key w i k (by omega) (by omega) (by omega) (by omega) (by rw [cF_at, cF_at]; exact e)
end
theorem iv_start (hx : Mx nx ru n) {g : Nat → Bool} (hg : IsLive nx ru n g) : Iv nx ru n (fun i => if g i then 0 else -1) 0 := by
  have hneg : ∀ i, i < n → ((if g i then (0 : Int) else -1) = -1 ↔ ¬ Live nx ru i) := fun i hi => by
    rw [← hg i hi]
    cases g i <;> simp
  refine ⟨hneg, fun i hi => by cases g i <;> simp, fun i k hi hk q => ?_, fun i k hi hk ci ck _ => ?_, .inl rfl⟩
  · have h1 := (hg i hi).trans ((alk_live q).trans (hg k hk).symm)
    cases e1 : g i <;> cases e2 : g k <;> simp [e1, e2] at h1 ⊢
  · cases e1 : g i <;> cases e2 : g k <;> simp [e1, e2] at ci ck ⊢
theorem isCls_alk (h : IsCls nx ru n F) : IsAlk nx ru n (fun i k => decide (F i = F k)) := fun i k hi hk => by
  rw [decide_eq_true_iff]; exact h.same i k hi hk
theorem dd_rng (hx : Mx nx ru n) (h : ∀ i, i < n → -1 ≤ cl i ∧ cl i ≤ 200) {i : Nat} (hi : i < n) : ∀ v ∈ ddF nx ru cl i, -1 ≤ v ∧ v ≤ 10000 := fun v hv => by
  unfold ddF at hv
  rw [List.mem_append, List.mem_singleton, List.mem_map] at hv
  rcases hv with ⟨c, hc, rfl⟩ | rfl
  · have li := step_lo hx hi c
    unfold cF
    split
    · omega
    · have := h (stepF nx i c).toNat (by omega)
      omega
  · obtain ⟨r, hr, h1, h2, _⟩ := mx_rule hx hi
    rw [List.getD_eq_getElem?_getD, hr, Option.getD_some]; omega
end
end Go.Proofs.YtbbfjjjnifomgaaGreatDoor.A



/- What a state does, in memory: classOf, deedsOf. -/
namespace Go.Proofs.YtbbfjjjnifomgaaGreatDoor.A
open Go.RowKit
set_option linter.unusedVariables false

/-- Numbers as cells. -/
def rowI (n : Nat) (g : Nat → Int) : Array Value := ((List.range n).map fun (j : Nat) => Value.int .i64 (g j)).toArray
theorem rowI_size (n : Nat) (g : Nat → Int) : (rowI n g).size = n := by simp [rowI]
theorem rowI_at {n : Nat} (g : Nat → Int) {j : Nat} (h : j < n) : (rowI n g)[j]? = some (.int .i64 (g j)) := by simp [rowI, h]
theorem rowI_congr {n : Nat} {g h : Nat → Int} (e : ∀ j, j < n → g j = h j) : rowI n g = rowI n h := by
  unfold rowI
  congr 1
  refine List.map_congr_left fun j hj => ?_
  rw [e j (by simpa using hj)]
theorem rowI_set {n : Nat} (g : Nat → Int) {j : Nat} (v : Int) (h : j < n) : (rowI n g).setIfInBounds j (.int .i64 v) = rowI n (fun i => if i = j then v else g i) := by
  apply Array.ext_getElem?
  intro i
  by_cases hi : i < n
  · rw [rowI_at _ hi]
    by_cases e : i = j
    · subst e; simp [rowI_size, h]
    · rw [Array.getElem?_setIfInBounds, if_neg (fun q => e q.symm), rowI_at _ hi, if_neg e]
  · rw [Array.getElem?_eq_none (by simp [rowI_size]; omega), Array.getElem?_eq_none (by simp [rowI_size]; omega)]
theorem rowI_zero (n : Nat) : madeCells #[.int .i64 0] n = rowI n (fun _ => 0) := by
  apply Array.ext_getElem?
  intro i
  by_cases hi : i < n
  · rw [rowI_at _ hi]; simp [madeCells, hi, Nat.mod_one]
  · rw [Array.getElem?_eq_none (by simp [madeCells]; omega), Array.getElem?_eq_none (by simp [rowI_size]; omega)]
theorem rowI_rep (n : Nat) : Array.replicate n (.int .i64 0) = rowI n (fun _ => 0) := by
  apply Array.ext_getElem?
  intro i
  by_cases hi : i < n
  · rw [rowI_at _ hi]; simp [hi]
  · rw [Array.getElem?_eq_none (by simp; omega), Array.getElem?_eq_none (by simp [rowI_size]; omega)]
theorem rowI_one (n : Nat) (g : Nat → Int) : (rowI n g).all (·.oneCell') = true := by
  rw [Array.all_eq_true_iff_forall_mem]
  intro v hv
  simp only [rowI, List.mem_toArray, List.mem_map] at hv
  obtain ⟨j, _, rfl⟩ := hv
  rfl
theorem rowI_list {n : Nat} {l : List Int} (h : l.length = n) : rowI n (fnL l) = (cI l).toArray := by
  apply Array.ext_getElem?
  intro i
  by_cases hi : i < n
  · rw [rowI_at _ hi]
    simp [fnL, cI, List.getD_eq_getElem?_getD, hi, h]
  · rw [Array.getElem?_eq_none (by simp [rowI_size]; omega), Array.getElem?_eq_none (by simp [cI, h]; omega)]
theorem makeI (n : Nat) (hn : n ≤ 10000) (w : World) : (Instr.makeSlice 23 (.int .i64 (n : Int)) (.int .i64 (n : Int))).run Tryz.prog w = .ok (.slice (some ⟨w.heap.size, 0, none⟩) n n) (w.alloc (.cells (rowI n fun _ => 0) 3)) := by
  have := run_make_row' (P := Tryz.prog) 23 3 (.int .i64 0) 8 Tryz.underlying23 info3 rfl .i64 .i64 n (by omega) (by omega) w
  rw [rowI_zero] at this
  exact this
/-- A row of numbers. -/
def Ik (w : World) (B n : Nat) (g : Nat → Int) : Prop := w.heap[B]? = some (.cells (rowI n g) 3 (0, 0))
theorem ik_congr {w : World} {B n : Nat} {g h : Nat → Int} (d : Ik w B n g) (e : ∀ j, j < n → g j = h j) : Ik w B n h := by unfold Ik at d ⊢; rw [← rowI_congr e]; exact d
theorem ik_cell {w : World} {B n : Nat} {g : Nat → Int} (d : Ik w B n g) {j : Nat} (hj : j < n) : w.cell? ⟨B, j, none⟩ = some (.int .i64 (g j)) ∧ w.frozen? ⟨B, j, none⟩ = false := by
  constructor
  · rw [cell_of_row _ _ j _ _ _ d, rowI_at _ hj]
  · simp [World.frozen?, show w.heap[B]? = _ from d]
theorem ik_set {w : World} {B n : Nat} {g : Nat → Int} (d : Ik w B n g) {j : Nat} (hj : j < n) (v : Int) : Ik (w.setCell ⟨B, j, none⟩ (.int .i64 v)) B n (fun i => if i = j then v else g i) := by
  unfold Ik at d ⊢
  rw [setCell_eq_setRow _ _ _ _ _ _ _ d, setRow_heap _ _ _ _ _ _ d, rowI_set _ _ hj]
theorem ik_lt {w : World} {B n : Nat} {g : Nat → Int} (d : Ik w B n g) : B < w.heap.size := (Array.getElem?_eq_some_iff.1 d).1
theorem ik_below {w w' : World} {B F n : Nat} {g : Nat → Int} (hF : F < B) (hb : Below B w w') (d : Ik w F n g) : Ik w' F n g := (hb.block F hF).trans d
theorem ik_old {w w' : World} {F n : Nat} {g : Nat → Int} (hb : Below w.heap.size w w') (d : Ik w F n g) : Ik w' F n g := ik_below (ik_lt d) hb d
theorem ik_new (w : World) (n : Nat) (g : Nat → Int) : Ik (w.alloc (.cells (rowI n g) 3)) w.heap.size n g := heap_alloc_last w _
set_option maxHeartbeats 800000 in
theorem classOf_any (B n : Nat) (cl : Nat → Int) (z : Int) (w : World) (hc : Ik w B n cl) (h1 : -1 ≤ z) (h2 : z < (n : Int)) :
    Calls Tryz.prog 158 #[.slice (some ⟨B, 0, none⟩) n n, .int .i64 z] w fun e w' => e = .returned (.int .i64 (cF cl z)) ∧ w' = w := by
  by_cases c : z = -1
  · subst c
    go_enter Tryz.func158, Tryz.ntmps158
    go_wp2
    go_ret
    exact ⟨rfl, rfl⟩
  · obtain ⟨t, rfl⟩ : ∃ t : Nat, z = t := ⟨z.toNat, by omega⟩
    have HE := hide (cF_at cl t)
    obtain ⟨k0, k1⟩ := ik_cell hc (show t < n by omega)
    have d1 : ((t : Int) == -1) = false := by simp
    have i3 : (0 : Int) ≤ (t : Int) := by omega
    clear hc
    go_enter Tryz.func158, Tryz.ntmps158
    go_wp2
    go_ret
    exact ⟨by rw [HE.out]; rfl, rfl⟩

theorem zero58 : (Tryz.prog.info? 216).map (fun i => (i.zero, i.size)) = some (some (.agg (Array.replicate 17 (.int .i64 0))), 17) := by kernel_rfl
/-- The two arrays of deeds that are being filled. -/
def Fl8 (A B : Nat) (wr : World) (g : Nat → Int) : Prop := wr.heap[A]? = some (.cells (rowI 17 fun _ => 0) 216 (0, 0)) ∧ wr.heap[B]? = some (.cells (rowI 17 g) 216 (0, 0)) ∧ A ≠ B
theorem fl_cell8 {A B : Nat} {wr : World} {g : Nat → Int} (h : Fl8 A B wr g) {j : Nat} (hj : j < 17) : wr.cell? ⟨B, j, none⟩ = some (.int .i64 (g j)) ∧ wr.frozen? ⟨B, j, none⟩ = false := by
  constructor
  · rw [cell_of_row _ _ j _ _ _ h.2.1, rowI_at _ hj]
  · simp [World.frozen?, h.2.1]
theorem fl_set8 {A B : Nat} {wr : World} {g : Nat → Int} (h : Fl8 A B wr g) {j : Nat} (hj : j < 17) (v : Int) : Fl8 A B (wr.setCell ⟨B, j, none⟩ (.int .i64 v)) (fun i => if i = j then v else g i) := by
  refine ⟨?_, ?_, h.2.2⟩
  · rw [Below.heap_setCell _ _ _ _ h.2.2]; exact h.1
  · rw [setCell_eq_setRow _ _ _ _ _ _ _ h.2.1, setRow_heap _ _ _ _ _ _ h.2.1, rowI_set _ _ hj]
theorem fl_congr8 {A B : Nat} {wr : World} {g h : Nat → Int} (hf : Fl8 A B wr g) (e : ∀ j, j < 17 → g j = h j) : Fl8 A B wr h := ⟨hf.1, by rw [← rowI_congr e]; exact hf.2.1, hf.2.2⟩
theorem fl_start8 (w : World) : Fl8 w.heap.size (w.heap.size + 1) ((w.alloc (.cells (rowI 17 fun _ => 0) 216)).alloc (.cells (rowI 17 fun _ => 0) 216)) (fun _ => 0) := by
  have e : (w.alloc (.cells (rowI 17 fun _ => 0) 216)).heap.size = w.heap.size + 1 := by simp
  refine ⟨?_, ?_, by omega⟩
  · rw [Below.heap_alloc _ _ _ (by simp)]; exact heap_alloc_last w _
  · rw [← e]; exact heap_alloc_last _ _

attribute [local go_sem ↓] wp_load63s
set_option maxRecDepth 100000 in
set_option maxHeartbeats 3200000 in
theorem deeds_any (a0 a1 : Option Addr) (n c0 c1 C i : Nat) (nx : List (List Int)) (ru : List Int) (cl : Nat → Int) (w : World) (hx : Mx nx ru n) (hm : Dm w a0 a1 n n nx ru) (hc : Ik w C n cl) (hi : i < n) :
    Calls Tryz.prog 157 #[.agg #[.slice a0 n c0, .slice a1 n c1], .slice (some ⟨C, 0, none⟩) n n, .int .i64 (i : Int)] w fun e w' => e = .returned (.agg (cI (ddF nx ru cl i)).toArray) ∧ Below w.heap.size w w' := by
  obtain ⟨hv58, hi58⟩ := zero_of_info zero58
  rw [rowI_rep] at hv58
  have hb0 := (Below.refl w.heap.size w).alloc (Nat.le_refl _) (.cells #[.slice a0 n c0, .slice a1 n c1] 25)
  have HBX := hide (heap_alloc_last w (.cells #[.slice a0 n c0, .slice a1 n c1] 25))
  have HS := hide (show (w.alloc (.cells #[.slice a0 n c0, .slice a1 n c1] 25)).heap.size = w.heap.size + 1 by simp)
  have HB0 := hide hb0
  have HM := hide (dm_below' hb0 hm)
  have HC := hide (ik_old hb0 hc)
  have HX := hide hx
  have HI := hide hi58
  have hFL := fl_start8 (w.alloc (.cells #[.slice a0 n c0, .slice a1 n c1] 25))
  have hB2 := ((Below.refl (w.heap.size + 1) (w.alloc (.cells #[.slice a0 n c0, .slice a1 n c1] 25))).alloc (by simp) (.cells (rowI 17 fun _ => 0) 216)).alloc (by simp) (.cells (rowI 17 fun _ => 0) 216)
  rw [HS.out] at hFL
  have HFL := hide hFL
  have HB2 := hide hB2
  have HXX := hide (show ∀ wr, Below (w.heap.size + 1) (w.alloc (.cells #[.slice a0 n c0, .slice a1 n c1] 25)) wr → wr.heap[w.heap.size]? = some (.cells #[.slice a0 n c0, .slice a1 n c1] 25 (0, 0)) ∧ Dm wr a0 a1 n n nx ru ∧ Ik wr C n cl from fun wr hb =>
    ⟨(hb.block w.heap.size (by omega)).trans HBX.out, dm_below' (by rw [HS.out]; exact hb) HM.out, ik_old (by rw [HS.out]; exact hb) HC.out⟩)
  obtain ⟨row, hrow⟩ : ∃ row, nx[i]? = some row := ⟨_, List.getElem?_eq_getElem (by rw [hx.ln]; exact hi)⟩
  have HROW := hide hrow
  have hl16 : (cI row).length = 16 := by rw [cI_len]; exact hx.row row (List.mem_of_getElem? hrow)
  have i1 : (0 : Int) ≤ (i : Int) := by omega
  have i2 : (i : Int) < (n : Int) := by omega
  clear hb0 hm hc hx hi58 hFL hB2 hrow
  go_enter Tryz.func157, Tryz.ntmps157
  go_upto_region 2 with fail
  generalize w.alloc (.cells #[.slice a0 n c0, .slice a1 n c1] 25) = W1 at *
  generalize (W1.alloc (.cells (rowI 17 fun _ => 0) 216)).alloc (.cells (rowI 17 fun _ => 0) 216) = W3 at *
  obtain ⟨hX, hDm, -⟩ := HXX.out W3 HB2.out
  obtain ⟨p0, p1, -⟩ := d_cells hX
  obtain ⟨-, b, off, rfl, hrg⟩ := hDm.dr i row HROW.out
  obtain ⟨hrv, hro⟩ := rowM_at hrg hl16
  clear hX hDm hrg
  go_wp2_with fail
  clear hrv hro p0 p1
  generalize hA : w.heap.size + 1 = A at *
  go_loopw [8, 9, 15] (fun _ _ u wr => ∃ k : Nat, k ≤ 16 ∧ u = .int .i64 k ∧ Fl8 A (A + 1) wr (fun j => if j < k then cF cl (stepF nx i j) else 0) ∧ Below A W1 wr) (fun _ _ u _ => 16 - (intOf u).toNat)
  case atStart => exact ⟨0, by omega, rfl, fl_congr8 HFL.out (fun j _ => by simp), HB2.out⟩
  case round =>
    obtain ⟨k, hk, rfl, hfl, hb⟩ := hrel
    have HFL2 := hide hfl
    have HBW := hide hb
    clear hfl hb HFL HB2
    obtain ⟨hX, hDm, hCk⟩ := HXX.out wr HBW.out
    by_cases hlt : k < 16
    · obtain ⟨row', z, hr', -, hz, hz1, hz2, hst⟩ := mx_next HX.out hi hlt
      have hrr : row' = row := by rw [HROW.out] at hr'; exact (Option.some.inj hr').symm
      subst hrr
      have hcz : (cI row')[k]? = some (.int .i64 z) := by simp [cI, hz]
      have hcz2 : (cI row')[k]'(by omega) = .int .i64 z := by
        have := List.getElem?_eq_getElem (l := cI row') (i := k) (by omega)
        rw [hcz] at this; exact (Option.some.inj this).symm
      have hrx := fun w => run_index63 w (cI row') k z hlt hcz
      have HST := hide hst
      have HCK := hide hCk
      have i5 : (0 : Int) ≤ (k : Int) := by omega
      have i6 : (k : Int) < 16 := by omega
      have i7 : (k : Int) < 17 := by omega
      obtain ⟨f0, f1⟩ := fl_cell8 HFL2.out (show k < 17 by omega)
      clear hr' hz hst hX hDm hCk
      go_wp2_with fail
      refine (classOf_any C n cl z wr HCK.out hz1 hz2).mono ?_
      rintro e w2 ⟨rfl, hw2⟩
      rw [hw2]
      clear hw2
      have HF3 := hide (fl_congr8 (fl_set8 HFL2.out (show k < 17 by omega) (cF cl z)) (h := fun j => if j < k + 1 then cF cl (stepF nx i j) else 0) (fun j hj => by
        rw [← HST.out]
        by_cases e : j = k
        · subst e; simp
        · by_cases e2 : j < k
          · simp [e, e2, show j < k + 1 by omega]
          · simp [e, e2, show ¬ j < k + 1 by omega]))
      have HB3 := hide (HBW.out.setCell (p := ⟨A + 1, k, none⟩) (Nat.le_succ A) (.int .i64 (cF cl z)))
      go_wp2
      go_roundw
      case rel => exact ⟨k + 1, by omega, by go_num, HF3.out, HB3.out⟩
      case measure => simp [intOf]; omega
    · obtain rfl : k = 16 := by omega
      obtain ⟨p0, p1, -⟩ := d_cells hX
      obtain ⟨r, hr, -, -, -⟩ := mx_rule HX.out hi
      obtain ⟨b2, o2, rfl, k2⟩ := hDm.wd i r hr
      obtain ⟨f0, f1⟩ := fl_cell8 HFL2.out (show 16 < 17 by omega)
      have HF3 := hide (fl_congr8 (fl_set8 HFL2.out (show 16 < 17 by omega) r) (h := fnL (ddF nx ru cl i)) (fun j hj => by
        unfold fnL
        rw [List.getD_eq_getElem?_getD]
        by_cases e : j = 16
        · subst e; rw [dd_last, List.getD_eq_getElem?_getD, hr]; rfl
        · rw [dd_at nx ru cl i j (by omega)]; simp [e, show j < 16 by omega]))
      have HB3 := hide (HBW.out.setCell (p := ⟨A + 1, 16, none⟩) (Nat.le_succ A) (.int .i64 r))
      clear hX hDm hCk hr
      go_upto_region 8 with fail
      generalize wr.setCell ⟨A + 1, 16, none⟩ (.int .i64 r) = wF at *
      go_wp2_with (first
        | refine wpList_load_row rfl 216 _ rfl (A + 1) rfl 216 _ (0, 0) _ HF3.out.2.1 Tryz.underlying216 rfl (by rw [rowI_size]; exact HI.out) ?_
        | refine wpList_store_row rfl 216 _ _ rfl A _ rfl rfl 216 _ HF3.out.1 (by rw [rowI_size]; exact HI.out) (by rw [rowI_size, rowI_size]) (rowI_one _ _) ?_)
      refine bodyPost_ret (results_cell_row rfl _ _ A 216 (rowI 17 (fnL (ddF nx ru cl i))) (0, 0) _ rfl (setRow_heap _ _ _ _ _ _ HF3.out.1) Tryz.underlying216 rfl (by rw [rowI_size]; exact HI.out)) rfl ?_
      exact ⟨by rw [rowI_list (dd_len nx ru cl i)], below_setRow (HB0.out.trans (HB3.out.mono (by omega))) (by omega) _⟩
end Go.Proofs.YtbbfjjjnifomgaaGreatDoor.A



/- A split of classes, in memory: deeds as keys of a map. -/
namespace Go.Proofs.YtbbfjjjnifomgaaGreatDoor.A
open Go.RowKit Go.Maps
set_option linter.unusedVariables false
set_option maxRecDepth 100000

/-- Deeds that fit. -/
def Fit17 (x : List Int) : Prop := x.length = 17 ∧ ∀ v ∈ x, -1 ≤ v ∧ v ≤ 10000
theorem row58 : 216 < Tryz.prog.types.size := of_decide_eq_true (by kernel_rfl)
theorem keyT58 : Tryz.prog.keyType 216 = true := by kernel_rfl
theorem wide58 : (match Tryz.prog.underlying 216 with | some (.array _ _) | some (.struct _) => true | _ => false) = true := by rw [Tryz.underlying216]
theorem cells216 : Tryz.prog.cellsOf 216 = 17 := by kernel_rfl
set_option maxRecDepth 100000 in
theorem laid8 : laidOutB Tryz.prog = true := by kernel_rfl
theorem law58 : Keyed Tryz.prog 216 := Keyed.of_law (deep_law_gate laid8 smallZ row58 keyT58 wide58)
theorem lits58 {x : List Int} (hx : Fit17 x) (m : Nat) : ∃ ls, Tryz.prog.keyLits (m + 2) 216 (cI x) = some ls := by
  have hl : (cI x).length = 17 := by rw [cI_len]; exact hx.1
  have hu : Tryz.prog.keyLits (m + 2) 216 (cI x) = if (cI x).length = Tryz.prog.cellsOf 216 then ((List.range 17).mapM fun i => Tryz.prog.keyLits (m + 1) 3 (((cI x).drop (i * Tryz.prog.cellsOf 3)).take (Tryz.prog.cellsOf 3))).map List.flatten else none := by
    conv => lhs; unfold Program.keyLits
    simp only [Tryz.underlying216]
  rw [hu, if_pos (by rw [cells216, hl]), cells3Z]
  have : ∀ (L : List Nat), (∀ i ∈ L, i < 17) → ∃ r, (L.mapM fun i => Tryz.prog.keyLits (m + 1) 3 (((cI x).drop (i * 1)).take 1)) = some r := by
    intro L
    induction L with
    | nil => intro _; exact ⟨[], rfl⟩
    | cons i r ih =>
      intro h
      obtain ⟨r', e⟩ := ih (fun j hj => h j (by simp [hj]))
      have hi := h i (by simp)
      have hix : i < x.length := by rw [hx.1]; exact hi
      have e1 : ((cI x).drop (i * 1)).take 1 = [.int .i64 x[i]] := by
        rw [Nat.mul_one, List.drop_eq_getElem_cons (by omega)]
        simp [cI]
      have hv := hx.2 x[i] (List.getElem_mem hix)
      rw [List.mapM_cons, e1, e]
      simp only [Program.keyLits, Tryz.underlying3]
      rw [WalkArith.wf_i64 (by omega)]
      exact ⟨_, rfl⟩
  obtain ⟨r, e⟩ := this (List.range 17) (fun i hi => by simpa using hi)
  rw [e]
  exact ⟨_, rfl⟩
def kD (P : Program) (x : List Int) : Lit := (keyOf P 216 (.agg (cI x).toArray)).getD (.bool false)
theorem key58 {x : List Int} (hx : Fit17 x) : keyOf Tryz.prog 216 (.agg (cI x).toArray) = some (kD Tryz.prog x) := by
  have h : ∃ l, keyOf Tryz.prog 216 (.agg (cI x).toArray) = some l := by
    obtain ⟨m, hm⟩ := types_succZ
    obtain ⟨ls, e⟩ := lits58 hx m
    have hsz : (cI x).toArray.size = 17 := by simp [cI_len, hx.1]
    simp only [keyOf, Tryz.underlying216, keyT58, Value.formed, hsz, cells216, Value.cells, hm]
    rw [e]
    exact ⟨_, rfl⟩
  obtain ⟨l, e⟩ := h
  unfold kD
  rw [e]; rfl
theorem kD_inj {x y : List Int} (hx : Fit17 x) (hy : Fit17 y) (e : kD Tryz.prog x = kD Tryz.prog y) : x = y := by
  have h1 := key58 hx
  rw [e] at h1
  have h2 := law58.inj h1 (key58 hy)
  have h3 : cI x = cI y := by simpa using h2
  apply List.ext_getElem?
  intro i
  have h4 : (cI x)[i]? = (cI y)[i]? := by rw [h3]
  simp only [cI, List.getElem?_map] at h4
  cases hx' : x[i]? <;> cases hy' : y[i]? <;> rw [hx', hy'] at h4 <;> simp at h4 ⊢
  exact h4

/-- The map tells which deeds were found, and their numbers. -/
structure TieD (S : List (List Int)) (D : DataW Unit) : Prop where
  at_ : ∀ s, Fit17 s → Maps.has D (kD Tryz.prog s) = decide (s ∈ S) ∧ (s ∈ S → D.atKey (kD Tryz.prog s) (.lit (.int .i64 0)) = .lit (.int .i64 (S.idxOf s : Nat)))
  size : Maps.size D = S.length
theorem tieD_nil : TieD [] (.map []) := ⟨fun s _ => ⟨by simp [Maps.has], fun h => by cases h⟩, rfl⟩
theorem tieD_new {S : List (List Int)} {D : DataW Unit} (t : TieD S D) (hD : IsMap D) (hT : Tidy D) {s : List Int} (hs : Fit17 s) (hm : ¬ s ∈ S) : TieD (S ++ [s]) (D.put (kD Tryz.prog s) (.lit (.int .i64 (S.length : Nat)))) := by
  refine ⟨fun s' hs' => ?_, ?_⟩
  · by_cases e : s' = s
    · subst e
      rw [has_put_same hD (law58.key (key58 hs)), atKey_put_same hD (law58.key (key58 hs))]
      refine ⟨by simp, fun _ => ?_⟩
      rw [List.idxOf_append, if_neg hm]
      simp
    · have ek : kD Tryz.prog s' ≠ kD Tryz.prog s := fun q => e (kD_inj hs' hs q)
      rw [has_put_other ek, atKey_put_other ek, (t.at_ s' hs').1]
      refine ⟨by simp [e], fun q => ?_⟩
      have q' : s' ∈ S := by simpa [e] using q
      rw [(t.at_ s' hs').2 q', List.idxOf_append, if_pos q']
  · rw [size_put hT, (t.at_ s hs).1, t.size]
    simp [hm]
theorem map_lt {w : World} {k : TypeId} {R : Value → Option (DataW Unit × List MemPlace)} {b n : Nat} {D : DataW Unit} (h : w.ownsMap Tryz.prog k R b n D) : b < w.heap.size := by
  obtain ⟨es, c, e⟩ := map_obj h
  exact (Array.getElem?_eq_some_iff.1 e).1

set_option maxRecDepth 100000 in
set_option maxHeartbeats 6400000 in
theorem split_any (a0 a1 : Option Addr) (n c0 c1 C : Nat) (nx : List (List Int)) (ru : List Int) (cl : Nat → Int) (w : World) (hx : Mx nx ru n) (hm : Dm w a0 a1 n n nx ru) (hc : Ik w C n cl) (hr : ∀ i, i < n → -1 ≤ cl i ∧ cl i ≤ 200) :
    Calls Tryz.prog 130 #[.agg #[.slice a0 n c0, .slice a1 n c1], .slice (some ⟨C, 0, none⟩) n n] w fun e w' => ∃ (S : List (List Int)) (F : Nat → Int) (B : Nat), SpI nx ru cl n S F ∧ e = .returned (.tuple #[.slice (some ⟨B, 0, none⟩) n n, .int .i64 (S.length : Nat)]) ∧ Ik w' B n F ∧ w.heap.size ≤ B ∧ Below w.heap.size w w' := by
  obtain ⟨hv58, hi58⟩ := zero_of_info zero58
  rw [rowI_rep] at hv58
  have hn1 := hx.pos
  have hn2 := hx.most
  have hb0 := (Below.refl w.heap.size w).alloc (Nat.le_refl _) (.cells #[.slice a0 n c0, .slice a1 n c1] 25)
  have HBX := hide (heap_alloc_last w (.cells #[.slice a0 n c0, .slice a1 n c1] 25))
  have HS := hide (show (w.alloc (.cells #[.slice a0 n c0, .slice a1 n c1] 25)).heap.size = w.heap.size + 1 by simp)
  have HB0 := hide hb0
  have HM := hide (dm_below' hb0 hm)
  have HC := hide (ik_old hb0 hc)
  have HX := hide hx
  have HI := hide hi58
  have HR := hide hr
  have HXX := hide (show ∀ wr, Below (w.heap.size + 1) (w.alloc (.cells #[.slice a0 n c0, .slice a1 n c1] 25)) wr → wr.heap[w.heap.size]? = some (.cells #[.slice a0 n c0, .slice a1 n c1] 25 (0, 0)) ∧ Dm wr a0 a1 n n nx ru ∧ Ik wr C n cl from fun wr hb =>
    ⟨(hb.block w.heap.size (by omega)).trans HBX.out, dm_below' (by rw [HS.out]; exact hb) HM.out, ik_old (by rw [HS.out]; exact hb) HC.out⟩)
  have hmp := World.ownsMap_made (w.alloc (.cells #[.slice a0 n c0, .slice a1 n c1] 25)) Tryz.prog 216 (plainElem (H := Unit) Tryz.prog 3)
  have hb2 := ((Below.refl (w.heap.size + 1) (w.alloc (.cells #[.slice a0 n c0, .slice a1 n c1] 25))).alloc (by simp) (.map #[] 0)).alloc (by simp) (.cells (rowI n fun _ => 0) 3)
  have hik := ik_new ((w.alloc (.cells #[.slice a0 n c0, .slice a1 n c1] 25)).alloc (.map #[] 0)) n (fun _ => 0)
  rw [show ((w.alloc (.cells #[.slice a0 n c0, .slice a1 n c1] 25)).alloc (.map #[] 0)).heap.size = w.heap.size + 1 + 1 by simp] at hik
  rw [HS.out] at hmp
  have HMP := hide (map_move hmp (show (((w.alloc (.cells #[.slice a0 n c0, .slice a1 n c1] 25)).alloc (.map #[] 0)).alloc (.cells (rowI n fun _ => 0) 3)).heap[w.heap.size + 1]? = _ from Below.heap_alloc _ _ _ (by simp)))
  have HB2 := hide hb2
  have HIK := hide hik
  have hmm := @run_makeMap Tryz.prog
  have hmi := makeI n (by omega)
  clear hb0 hm hc hx hi58 hmp hb2 hik hr
  go_enter Tryz.func130, Tryz.ntmps130
  go_wp2_with fail
  generalize w.alloc (.cells #[.slice a0 n c0, .slice a1 n c1] 25) = W1 at *
  generalize (W1.alloc (.map #[] 0)).alloc (.cells (rowI n fun _ => 0) 3) = W3 at *
  generalize hA : w.heap.size + 1 = A at *
  clear hmm hmi
  go_loopw [8, 10, 11, 18] (fun _ _ _ u wr => ∃ (k : Nat) (S : List (List Int)) (F : Nat → Int) (D : DataW Unit), k ≤ n ∧ u = .int .i64 k ∧ S.length ≤ k ∧ SpI nx ru cl k S F ∧ wr.ownsMap Tryz.prog 216 (plainElem Tryz.prog 3) A S.length D ∧ TieD S D ∧ Ik wr (A + 1) n F ∧ Below A W1 wr) (fun _ _ _ u _ => n - (intOf u).toNat)
  case atStart => exact ⟨0, [], _, .map [], by omega, rfl, Nat.le_refl _, sp_start _ _, HMP.out, tieD_nil, HIK.out, HB2.out⟩
  case round =>
    obtain ⟨k, S, F, D, hk, rfl, hSk, hsp, hmap, htie, hik, hb⟩ := hrel
    have HSP := hide hsp
    have HMAP := hide hmap
    have HTIE := hide htie
    have HIK2 := hide hik
    have HBW := hide hb
    clear hsp hmap htie hik hb HMP HB2 HIK
    obtain ⟨hX, hDm, hCk⟩ := HXX.out wr HBW.out
    by_cases hlt : k < n
    · obtain ⟨m0, m1⟩ := ik_cell hCk hlt
      obtain ⟨f0, f1⟩ := ik_cell HIK2.out hlt
      obtain ⟨p0, p1, -⟩ := d_cells hX
      have i3 : (0 : Int) ≤ (k : Int) := by omega
      have i4 : (k : Int) < (n : Int) := by omega
      have HDM := hide hDm
      have HCK := hide hCk
      clear hX hDm hCk
      by_cases hcl : cl k = -1
      · have HSN := hide (sp_dead HSP.out hcl)
        rw [hcl] at m0
        have HIN := hide (ik_set HIK2.out hlt (-1))
        have HMN := hide (map_move HMAP.out (Below.heap_setCell wr ⟨A + 1, k, none⟩ (.int .i64 (-1)) A (by simp)))
        have HBN := hide (HBW.out.setCell (p := ⟨A + 1, k, none⟩) (Nat.le_succ A) (.int .i64 (-1)))
        clear hcl
        go_wp2
        go_roundw
        case rel => exact ⟨k + 1, S, _, D, by omega, by go_num, by omega, HSN.out, HMN.out, HTIE.out, HIN.out, HBN.out⟩
        case measure => simp [intOf]; omega
      · have d0 : (cl k == -1) = false := by simp [hcl]
        have HCL := hide hcl
        clear hcl m0 m1 f0 f1 p0 p1
        have HSZ := hide HTIE.out.size
        obtain ⟨hX, -, -⟩ := HXX.out wr HBW.out
        obtain ⟨p0, p1, -⟩ := d_cells hX
        obtain ⟨m0, m1⟩ := ik_cell HCK.out hlt
        clear hX
        go_wp2_with fail
        refine (deeds_any a0 a1 n c0 c1 C k nx ru cl wr HX.out HDM.out HCK.out hlt).mono ?_
        rintro e w2 ⟨rfl, hb2⟩
        have hft : Fit17 (ddF nx ru cl k) := ⟨dd_len _ _ _ _, dd_rng HX.out HR.out hlt⟩
        have hky := key58 hft
        obtain ⟨dd, hdd⟩ : ∃ dd, ddF nx ru cl k = dd := ⟨_, rfl⟩
        have HDD := hide hdd
        rw [hdd] at hft hky ⊢
        have hl17 : (cI dd).length = 17 := by rw [cI_len]; exact hft.1
        have hone : (cI dd).toArray.all (·.oneCell') = true := cI_one dd
        obtain ⟨cx, hcx⟩ : ∃ cx, cI dd = cx := ⟨_, rfl⟩
        rw [hcx] at hky hl17 hone ⊢
        have hsc : (storeCells ⟨w2.heap.size, 0, none⟩ cx 0).run Tryz.prog (w2.alloc (.cells (rowI 17 fun _ => 0) 216)) = .ok () (w2.alloc (.cells cx.toArray 216)) := by
          have := run_storeCells_new (P := Tryz.prog) w2 216 (rowI 17 fun _ => 0) cx.toArray (by rw [List.size_toArray, hl17]; exact HI.out) (by rw [rowI_size, List.size_toArray, hl17]) hone
          simpa using this
        have HKY := hide hky
        have HFT := hide hft
        have HBA := hide (HBW.out.trans ((hb2.alloc hb2.size (.cells cx.toArray 216)).mono (show A ≤ wr.heap.size by have := map_lt HMAP.out; omega)))
        have hwr := Below.block ((hb2.alloc hb2.size (.cells cx.toArray 216)))
        have HMA := hide (map_move HMAP.out (hwr A (map_lt HMAP.out)))
        have HIA := hide (show Ik (w2.alloc (.cells cx.toArray 216)) (A + 1) n F from (hwr (A + 1) (ik_lt HIK2.out)).trans HIK2.out)
        have HBB := hide (heap_alloc_last w2 (.cells cx.toArray 216))
        have HL17 := hide hl17
        have HSA := hide (show A ≤ w2.heap.size by have := map_lt HMAP.out; have := hb2.size; omega)
        clear hb2 hwr hft hky hdd hcx hone hl17 p0 p1 m0 m1
        by_cases hmem : dd ∈ S
        · have hhas : Maps.has D (kD Tryz.prog dd) = true := by rw [(HTIE.out.at_ dd HFT.out).1]; simp [hmem]
          have hat0 := (HTIE.out.at_ dd HFT.out).2 hmem
          have HSN := hide (sp_old HSP.out HCL.out (by rw [HDD.out]; exact hmem))
          rw [HDD.out] at HSN
          clear hmem
          generalize S.idxOf dd = ix at *
          go_upto_region 9 with fail
          generalize hW4 : w2.alloc (.cells cx.toArray 216) = W4 at *
          generalize hb9 : w2.heap.size = b9 at *
          obtain ⟨g0, g1⟩ := ik_cell HIA.out hlt
          have HIN := hide (ik_set HIA.out hlt (ix : Int))
          have HMN := hide (map_move HMA.out (Below.heap_setCell W4 ⟨A + 1, k, none⟩ (.int .i64 (ix : Int)) A (by simp)))
          have HBN := hide (HBA.out.setCell (p := ⟨A + 1, k, none⟩) (Nat.le_succ A) (.int .i64 (ix : Int)))
          go_wp2_with (first
            | refine wpList_load_row rfl 216 _ rfl b9 rfl 216 cx.toArray (0, 0) _ HBB.out Tryz.underlying216 rfl (by rw [List.size_toArray, HL17.out]; exact HI.out) ?_
            | (at_lookup; refine wpList_lookup_own_ok_int _ rfl _ _ 214 rfl 216 3 .i64 law58 Tryz.underlying214 Tryz.underlying3 (zero3 _) A S.length D rfl HMA.out _ _ rfl HKY.out ?_; intro c hat hwc; rw [hhas]; obtain rfl : c = (ix : Int) := by (rw [hat0] at hat; injection hat with h1; injection h1 with _ h2; exact h2.symm)))
          go_roundw
          case rel => exact ⟨k + 1, S, _, D, by omega, by go_num, by omega, HSN.out, HMN.out, HTIE.out, HIN.out, HBN.out⟩
          case measure => simp [intOf]; omega
        · have hhas : Maps.has D (kD Tryz.prog dd) = false := by rw [(HTIE.out.at_ dd HFT.out).1]; simp [hmem]
          have HSN := hide (sp_new HSP.out HCL.out (by rw [HDD.out]; exact hmem))
          rw [HDD.out] at HSN
          have HTN := hide (tieD_new HTIE.out HMA.out.isMap (HMA.out.tidy law58) HFT.out hmem)
          have HLA := hide (show (S ++ [dd]).length = S.length + 1 by simp)
          have hsl : S.length ≤ n := by omega
          clear hmem
          go_upto_region 9 with fail
          generalize hW4 : w2.alloc (.cells cx.toArray 216) = W4 at *
          generalize hb9 : w2.heap.size = b9 at *
          have hA4 : A ≤ W4.heap.size := Nat.le_of_lt (map_lt HMA.out)
          have hmA := HMA.out
          obtain ⟨ns, hns⟩ : ∃ ns, S.length = ns := ⟨_, rfl⟩
          have HNS := hide hns
          rw [hns] at hmA hsl
          clear hns
          go_wp2_with (first
            | refine wpList_load_row rfl 216 _ rfl b9 rfl 216 cx.toArray (0, 0) _ HBB.out Tryz.underlying216 rfl (by rw [List.size_toArray, HL17.out]; exact HI.out) ?_
            | (at_lookup; refine wpList_lookup_own_ok_int _ rfl _ _ 214 rfl 216 3 .i64 law58 Tryz.underlying214 Tryz.underlying3 (zero3 _) A ns D rfl hmA _ _ rfl HKY.out ?_; intro c hat hwc; rw [hhas])
            | (at_len; refine wpList_len_own _ rfl _ 214 rfl 216 3 Tryz.underlying214 _ A ns D rfl hmA ?_; rw [HSZ.out, HNS.out])
            | (at_mapUpdate; refine wpList_mapUpdate_own _ rfl _ _ _ 214 rfl 216 3 law58 Tryz.underlying214 _ A ns D rfl hmA (by unfold maxLen; omega) _ _ _ rfl rfl HKY.out _ [] (plainElem_int Tryz.underlying3 (WalkArith.wf_i64 (by omega))) ?_; intro w5 hown5 hg5; have HM5 := hide hown5; have HI5 := hide (show Ik w5 (A + 1) n F from (hg5.block (A + 1) (ik_lt HIA.out) (fun e => by have := Option.some.inj e; omega)).trans HIA.out); have HB5 := hide (HBA.out.grown hg5 hA4 (fun q hq => by cases hq; exact Nat.le_refl A)); obtain ⟨g0, g1⟩ := ik_cell HI5.out hlt; clear hown5 hg5 hmA))
          have HIN := hide (ik_set HI5.out hlt (ns : Int))
          have HMN := hide (map_move HM5.out (Below.heap_setCell w5 ⟨A + 1, k, none⟩ (.int .i64 (ns : Int)) A (by simp)))
          have HBN := hide (HB5.out.setCell (p := ⟨A + 1, k, none⟩) (Nat.le_succ A) (.int .i64 (ns : Int)))
          rw [HNS.out] at HSN HTN HLA
          go_roundw
          case rel => exact ⟨k + 1, S ++ [dd], _, _, by omega, by go_num, by rw [HLA.out]; have := HNS.out; omega, HSN.out, by rw [HLA.out]; exact HMN.out, HTN.out, HIN.out, HBN.out⟩
          case measure => simp [intOf]; omega
    · obtain rfl : k = n := by omega
      clear hX hDm hCk
      have HSZ := hide HTIE.out.size
      go_wp2_with ((at_len; refine wpList_len_own _ rfl _ 214 rfl 216 3 Tryz.underlying214 _ A S.length D rfl HMAP.out ?_; rw [HSZ.out]))
      go_ret2
      exact ⟨S, F, A + 1, HSP.out, rfl, HIK2.out, by omega, HB0.out.trans (HBW.out.mono (by omega))⟩
end Go.Proofs.YtbbfjjjnifomgaaGreatDoor.A



/- The program's classes of states. -/
namespace Go.Proofs.YtbbfjjjnifomgaaGreatDoor.A
open Go.RowKit Go.Maps
set_option linter.unusedVariables false

set_option maxRecDepth 100000 in
set_option maxHeartbeats 6400000 in
theorem classes_any (a0 a1 : Option Addr) (n c0 c1 : Nat) (nx : List (List Int)) (ru : List Int) (w : World) (hx : Mx nx ru n) (hm : Dm w a0 a1 n n nx ru) :
    Calls Tryz.prog 102 #[.agg #[.slice a0 n c0, .slice a1 n c1]] w fun e w' => ∃ (F : Nat → Int) (B : Nat), IsCls nx ru n F ∧ e = .returned (.slice (some ⟨B, 0, none⟩) n n) ∧ Ik w' B n F ∧ w.heap.size ≤ B ∧ Below w.heap.size w w' := by
  have hn1 := hx.pos
  have hn2 := hx.most
  have hb0 := (Below.refl w.heap.size w).alloc (Nat.le_refl _) (.cells #[.slice a0 n c0, .slice a1 n c1] 25)
  have HBX := hide (heap_alloc_last w (.cells #[.slice a0 n c0, .slice a1 n c1] 25))
  have HS := hide (show (w.alloc (.cells #[.slice a0 n c0, .slice a1 n c1] 25)).heap.size = w.heap.size + 1 by simp)
  have HB0 := hide hb0
  have HM := hide (dm_below' hb0 hm)
  have HX := hide hx
  have HXX := hide (show ∀ wr, Below (w.heap.size + 1) (w.alloc (.cells #[.slice a0 n c0, .slice a1 n c1] 25)) wr → wr.heap[w.heap.size]? = some (.cells #[.slice a0 n c0, .slice a1 n c1] 25 (0, 0)) ∧ Dm wr a0 a1 n n nx ru from fun wr hb =>
    ⟨(hb.block w.heap.size (by omega)).trans HBX.out, dm_below' (by rw [HS.out]; exact hb) HM.out⟩)
  have HB2 := hide ((Below.refl (w.heap.size + 1) (w.alloc (.cells #[.slice a0 n c0, .slice a1 n c1] 25))).alloc (by simp) (.cells (rowI n fun _ => 0) 3))
  have hik := ik_new (w.alloc (.cells #[.slice a0 n c0, .slice a1 n c1] 25)) n (fun _ => 0)
  rw [HS.out] at hik
  have HIK := hide hik
  have HS2 := hide (show ((w.alloc (.cells #[.slice a0 n c0, .slice a1 n c1] 25)).alloc (.cells (rowI n fun _ => 0) 3)).heap.size = w.heap.size + 2 by simp)
  have hmi := makeI n (by omega)
  obtain ⟨p0, p1, -⟩ := d_cells HBX.out
  clear hb0 hm hx hik
  go_enter Tryz.func102, Tryz.ntmps102
  go_upto_region 2 with fail
  obtain ⟨hX, hDm⟩ := HXX.out _ HB2.out
  obtain ⟨p0, p1, -⟩ := d_cells hX
  have HDM := hide hDm
  clear hX hDm
  generalize w.alloc (.cells #[.slice a0 n c0, .slice a1 n c1] 25) = W1 at *
  generalize W1.alloc (.cells (rowI n fun _ => 0) 3) = W3 at *
  generalize hA : w.heap.size + 1 = A at *
  go_wp2_with fail
  refine (deadS_any a0 a1 n c0 c1 nx ru W3 HX.out HDM.out).mono ?_
  rintro e w4 ⟨g, hlv, B, hB, rfl, hmk, hb4⟩
  have HLV := hide hlv
  have HMK := hide hmk
  have HB4 := hide (HB2.out.trans (hb4.mono (by rw [HS2.out]; omega)))
  have HIK4 := hide (ik_old hb4 HIK.out)
  have hAB : A ≠ B := by have := HS2.out; omega
  have hAB2 : A < B := by have := HS2.out; omega
  clear hlv hmk hb4 p0 p1 hmi HIK HB2 HDM
  go_wp2_with fail
  go_loopw [4, 5, 16] (fun _ _ u wr => ∃ k : Nat, k ≤ n ∧ u = .int .i64 k ∧ Ik wr A n (fun j => if j < k then (if g j then 0 else -1) else 0) ∧ Mk wr B n (fun j => !g j) ∧ Below A W1 wr) (fun _ _ u _ => n - (intOf u).toNat)
  case atStart => exact ⟨0, by omega, rfl, ik_congr HIK4.out (fun j _ => by simp), HMK.out, HB4.out⟩
  case round =>
    obtain ⟨k, hk, rfl, hik, hmk, hb⟩ := hrel
    have HIK2 := hide hik
    have HMK2 := hide hmk
    have HBW := hide hb
    clear hik hmk hb HIK4 HMK HB4
    by_cases hlt : k < n
    · obtain ⟨m0, m1⟩ := mk_cell HMK2.out hlt
      obtain ⟨f0, f1⟩ := ik_cell HIK2.out hlt
      have i3 : (0 : Int) ≤ (k : Int) := by omega
      have i4 : (k : Int) < (n : Int) := by omega
      cases hg : g k
      · rw [hg] at m0
        have HIN := hide (ik_congr (ik_set HIK2.out hlt (-1)) (h := fun j => if j < k + 1 then (if g j then 0 else -1) else 0) (fun j hj => by
          by_cases e : j = k
          · subst e; simp [hg]
          · by_cases e2 : j < k
            · simp [e, e2, show j < k + 1 by omega]
            · simp [e, e2, show ¬ j < k + 1 by omega]))
        have HMN := hide (mk_other HMK2.out (Ne.symm hAB) k (.int .i64 (-1)))
        have HBN := hide (HBW.out.setCell (p := ⟨A, k, none⟩) (Nat.le_refl A) (.int .i64 (-1)))
        clear hg
        go_wp2
        go_roundw
        case rel => exact ⟨k + 1, by omega, by go_num, HIN.out, HMN.out, HBN.out⟩
        case measure => simp [intOf]; omega
      · rw [hg] at m0
        have HIN := hide (ik_congr HIK2.out (h := fun j => if j < k + 1 then (if g j then 0 else -1) else 0) (fun j hj => by
          by_cases e : j = k
          · subst e; simp [hg]
          · by_cases e2 : j < k
            · simp [e2, show j < k + 1 by omega]
            · simp [e2, show ¬ j < k + 1 by omega]))
        clear hg
        go_wp2
        go_roundw
        case rel => exact ⟨k + 1, by omega, by go_num, HIN.out, HMK2.out, HBW.out⟩
        case measure => simp [intOf]; omega
    · obtain rfl : k = n := by omega
      have HIV := hide (iv_start HX.out HLV.out)
      have HIC := hide (ik_congr HIK2.out (h := fun j => if g j then 0 else -1) (fun j hj => by simp [hj]))
      clear HIK2 HMK2
      go_wp2_with fail
      generalize wr = W5 at *
      go_loopw [3, 6, 7, 8] (fun s3 s6 _ _ wr => ∃ (cl : Nat → Int) (cnt C : Nat), s3 = .slice (some ⟨C, 0, none⟩) k k ∧ s6 = .int .i64 cnt ∧ cnt ≤ k ∧ A ≤ C ∧ Ik wr C k cl ∧ Iv nx ru k cl cnt ∧ Below A W1 wr) (fun _ s6 _ _ _ => k + 1 - (intOf s6).toNat)
      case atStart => exact ⟨_, 0, A, rfl, rfl, by omega, Nat.le_refl _, HIC.out, HIV.out, HBW.out⟩
      case round =>
        obtain ⟨cl, cnt, C, rfl, rfl, hcn, hAC, hik, hiv, hb⟩ := hrel
        have HIK3 := hide hik
        have HIV3 := hide hiv
        have HB3 := hide hb
        clear hik hiv hb HIC HIV HBW
        obtain ⟨hX, hDm⟩ := HXX.out wr HB3.out
        obtain ⟨p0, p1, -⟩ := d_cells hX
        have HDM := hide hDm
        clear hX hDm
        go_wp2_with fail
        refine (split_any a0 a1 k c0 c1 C nx ru cl wr HX.out HDM.out HIK3.out HIV3.out.rng).mono ?_
        rintro e w6 ⟨S, F, B', hsp, rfl, hik6, hB6, hb6⟩
        have HIK6 := hide hik6
        have HB6 := hide (HB3.out.trans (hb6.mono (by have := ik_lt HIK3.out; omega)))
        have hle := sp_len hsp
        have hmo := sp_more HIV3.out hsp
        have hAB' : A ≤ B' := by have := ik_lt HIK3.out; omega
        have HIVN := hide (iv_next HX.out HIV3.out hsp)
        have HEND := hide (fun q => iv_end HX.out HIV3.out hsp q)
        clear hsp hik6 hb6
        obtain ⟨ns, hns⟩ : ∃ ns, S.length = ns := ⟨_, rfl⟩
        rw [hns] at hle hmo HIVN HEND ⊢
        clear hns
        by_cases heq : ns = cnt
        · have HCL := hide (HEND.out heq)
          clear HEND
          subst heq
          have d0 : ((ns : Int) == (ns : Int)) = true := by simp
          go_wp2_with fail
          go_ret
          exact ⟨F, B', HCL.out, rfl, HIK6.out, by omega, HB0.out.trans (HB6.out.mono (by omega))⟩
        · have d0 : ((ns : Int) == (cnt : Int)) = false := by simp; omega
          go_wp2_with fail
          go_roundw
          case rel => exact ⟨F, ns, B', rfl, rfl, hle, hAB', HIK6.out, HIVN.out, HB6.out⟩
          case measure => simp [intOf]; omega
end Go.Proofs.YtbbfjjjnifomgaaGreatDoor.A


