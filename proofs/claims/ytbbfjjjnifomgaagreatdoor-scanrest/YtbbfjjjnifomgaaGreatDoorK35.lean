/- Classes of alike states, numbered as they are found: plain mathematics. -/
import Derived.OpenShut
import Derived.Lib.LaidTab
import Derived.Below
import Derived.Outline
import Derived.Deep.Heap
import Derived.Deep.OwnRows
import Derived.Deep.QuietTactic
import Derived.Deep.Slices
import Derived.ProofKit
import Derived.WalkKit
import Derived.WalkSpells
import Derived.WalkLawsBesides
import Derived.Deep.WholeRow
import Derived.Deep.MidRow
import Derived.DeepKeys5
import Derived.Maps.OwnSet
import Derived.Maps.OwnOps
import Derived.Maps.AppendAt
import Derived.Maps.RangeWalk
import Derived.Deep.RegionLaw
import Derived.Deep.Cut
import Derived.Deep.CutRange
import Derived.Deep.RegionHeld3
import Derived.Deep.AppendLies
import Derived.BigQuiet
import Derived.Deep.AppendSrc
import Derived.Deep.Strs
import Derived.Laws.AppendOwnNone
import Derived.Laws.AppendOwn
import Derived.Shelf.Small.Strs
import Derived.Shelf.Strconv.Itoa0
import Derived.Shelf.Strconv.Itoa1
import Derived.Shelf.LaysM
import Derived.Shelf.Strconv.Itoa2
import Derived.Shelf.Strconv.Clone
import Derived.Shelf.Strings.Search1
import Derived.Shelf.Strings.Search2
import Derived.Shelf.Strings.Search3
import Derived.Shelf.Strings.Count
import Derived.Shelf.Strings.Shaped
import Derived.Shelf.Strconv.AppendUint10
import Derived.Shelf.Strconv.AppendInt10
import Derived.Shelf.Strconv.AppendIntPublic10
import Derived.Shelf.Strings.Split
import Derived.Shelf.Strings.SplitShaped
import Derived.Shelf.Bits.Mul64
import Derived.Shelf.Unicode.DecodeSlow
import Derived.Ground.Names2Prog
import Derived.Shelf.Slices.Clone
import Derived.Ground.SlgnProg
import Derived.Shelf.SlicesE.Clone
import Derived.Laws.IdiomStrings
import Derived.Laws.BytesArg
import Derived.LaidMore
import Derived.HandedShaped
import Derived.Shelf.Vars
import Derived.MakeChecks
import Derived.Stop.LaidErr
import Derived.Laws.OwnMore
import Derived.OwnWalk
import Derived.Defers
import Derived.Recover
import Derived.Lib.SplitLaws
import Derived.Test.YtbbfjjjnifomgaaGreatDoorK6
import Derived.Test.YtbbfjjjnifomgaaGreatDoorK11
import Derived.Test.YtbbfjjjnifomgaaGreatDoorK20
import Derived.Test.YtbbfjjjnifomgaaGreatDoorK23
import Derived.Test.YtbbfjjjnifomgaaGreatDoorK26
import Derived.Test.YtbbfjjjnifomgaaGreatDoorK33
import Derived.Test.YtbbfjjjnifomgaaGreatDoorK34
namespace Go.Proofs.YtbbfjjjnifomgaaGreatDoor.A
open Go.RowKit
set_option linter.unusedVariables false

/-- A state's class; none of a dead one, and of nowhere. -/
def clsM (A : Nat → Nat → Bool) (n s : Nat) : List Int := lstL (A s) n
def clsD (A : Nat → Nat → Bool) (g : Nat → Bool) (n : Nat) (z : Int) : List Int := if z < 0 ∨ g z.toNat = false then [] else clsM A n z.toNat
def trM (nx : List (List Int)) (A : Nat → Nat → Bool) (g : Nat → Bool) (n : Nat) (L : List Int) (c : Nat) : List Int := clsD A g n (stepF nx (L.headD 0) c)
def lsM (ru : List Int) (L : List Int) : Int := ru.getD (L.headD 0).toNat (-1)
theorem nodup_le : ∀ (n : Nat) (l : List Int), l.Nodup → (∀ x ∈ l, 0 ≤ x ∧ x < (n : Int)) → l.length ≤ n
  | 0, l, _, h => by
    cases l with
    | nil => simp
    | cons x r => have := h x (by simp); omega
  | n + 1, l, hd, h => by
    have h1 := nodup_le n (l.erase (n : Int)) (hd.erase _) (fun x hx => by
      have h2 := (hd.mem_erase_iff).1 hx
      have h3 := h x h2.2
      have h4 := h2.1
      omega)
    have h2 := List.length_erase (a := (n : Int)) (l := l)
    split at h2 <;> omega
section
variable {nx : List (List Int)} {ru : List Int} {n : Nat} {g : Nat → Bool} {A : Nat → Nat → Bool}
theorem cls_mem (h : IsAlk nx ru n A) {s : Nat} (z : Int) : z ∈ clsM A n s ↔ ∃ j : Nat, z = j ∧ j < n ∧ A s j = true := lst_mem _ _ _
theorem cls_self (h : IsAlk nx ru n A) {s : Nat} (hs : s < n) : (s : Int) ∈ clsM A n s := (cls_mem h _).2 ⟨s, rfl, hs, (h s s hs hs).2 (alk_refl _ _ _)⟩
theorem cls_iff (h : IsAlk nx ru n A) {s t : Nat} (hs : s < n) (ht : t < n) : clsM A n s = clsM A n t ↔ A s t = true := by
  constructor
  · intro e
    have h1 := cls_self h ht
    rw [← e] at h1
    obtain ⟨j, e1, _, e2⟩ := (cls_mem h _).1 h1
    obtain rfl : t = j := by omega
    exact e2
  · intro q
    refine lst_congr fun j hj => ?_
    rw [Bool.eq_iff_iff, h s j hs hj, h t j ht hj]
    have q' := (h s t hs ht).1 q
    exact ⟨fun k => alk_trans (alk_symm q') k, fun k => alk_trans q' k⟩
theorem cls_head (h : IsAlk nx ru n A) {s : Nat} (hs : s < n) : ∃ k : Nat, (clsM A n s).headD 0 = (k : Int) ∧ k < n ∧ A s k = true := by
  have h1 := cls_self h hs
  cases e : clsM A n s with
  | nil => rw [e] at h1; cases h1
  | cons x r =>
    have : x ∈ clsM A n s := by rw [e]; simp
    obtain ⟨j, e1, e2, e3⟩ := (cls_mem h _).1 this
    exact ⟨j, e1, e2, e3⟩
theorem clsD_live (h : IsAlk nx ru n A) {z : Nat} (hz : z < n) (hg : g z = true) : clsD A g n (z : Int) = clsM A n z := by
  unfold clsD
  rw [if_neg]
  · rw [show ((z : Nat) : Int).toNat = z by omega]
  · rintro (q | q)
    · omega
    · rw [show ((z : Nat) : Int).toNat = z by omega, hg] at q; cases q
theorem clsD_nil {z : Int} (hz : z < 0 ∨ g z.toNat = false) : clsD A g n z = [] := by unfold clsD; rw [if_pos hz]
theorem clsD_alk (hx : Mx nx ru n) (h : IsAlk nx ru n A) (hg : IsLive nx ru n g) {a b : Int} (ha : a < (n : Int)) (hb : b < (n : Int)) (q : Alk nx ru a b) : clsD A g n a = clsD A g n b := by
  have live : ∀ z : Int, z < (n : Int) → ((z < 0 ∨ g z.toNat = false) ↔ ¬ Live nx ru z) := fun z hz => by
    by_cases h0 : z < 0
    · exact ⟨fun _ => dead_neg h0, fun _ => .inl h0⟩
    · have e := hg z.toNat (by omega)
      rw [show ((z.toNat : Nat) : Int) = z by omega] at e
      constructor
      · rintro (k | k)
        · exact absurd k h0
        · intro l; rw [e.2 l] at k; cases k
      · intro l
        right
        cases k : g z.toNat
        · rfl
        · exact absurd (e.1 k) l
  by_cases hd : Live nx ru a
  · have ha' : ¬ (a < 0 ∨ g a.toNat = false) := fun k => (live a ha).1 k hd
    have hb' : ¬ (b < 0 ∨ g b.toNat = false) := fun k => (live b hb).1 k ((alk_live q).1 hd)
    unfold clsD
    rw [if_neg ha', if_neg hb']
    have a0 : ¬ a < 0 := fun k => ha' (.inl k)
    have b0 : ¬ b < 0 := fun k => hb' (.inl k)
    refine (cls_iff h (by omega) (by omega)).2 ((h _ _ (by omega) (by omega)).2 ?_)
    rw [show ((a.toNat : Nat) : Int) = a by omega, show ((b.toNat : Nat) : Int) = b by omega]
    exact q
  · rw [clsD_nil ((live a ha).2 hd), clsD_nil ((live b hb).2 (fun k => hd ((alk_live q).2 k)))]
theorem trM_cls (hx : Mx nx ru n) (h : IsAlk nx ru n A) (hg : IsLive nx ru n g) {s : Nat} (hs : s < n) (c : Nat) : trM nx A g n (clsM A n s) c = clsD A g n (stepF nx s c) := by
  obtain ⟨k, e, hk, q⟩ := cls_head h hs
  unfold trM
  rw [e]
  exact clsD_alk hx h hg (step_in8 hx k (by omega) c) (step_in8 hx s (by omega) c) (alk_step (alk_symm ((h s k hs hk).1 q)) c)
theorem lsM_cls (hx : Mx nx ru n) (h : IsAlk nx ru n A) {s : Nat} (hs : s < n) {r : Int} (hr : ru[s]? = some r) : lsM ru (clsM A n s) = r := by
  obtain ⟨k, e, hk, q⟩ := cls_head h hs
  unfold lsM
  rw [e, show ((k : Nat) : Int).toNat = k by omega]
  have h1 := (h s k hs hk).1 q []
  obtain ⟨r1, e1, _, _, o1⟩ := mx_rule hx hs
  obtain ⟨r2, e2, _, _, o2⟩ := mx_rule hx hk
  rw [o1, o2] at h1
  rw [List.getD_eq_getElem?_getD, e2, Option.getD_some, ← h1]
  rw [e1] at hr
  exact Option.some.inj hr
theorem clsD_cls {z : Int} (hz : z < (n : Int)) (hne : clsD A g n z ≠ []) : ∃ s, s < n ∧ clsD A g n z = clsM A n s := by
  unfold clsD at hne ⊢
  split
  · rename_i q; rw [if_pos q] at hne; exact absurd rfl hne
  · rename_i q; exact ⟨z.toNat, by omega, rfl⟩
/-- All sets that are found are classes, and no more than states. -/
theorem stM_all (hx : Mx nx ru n) (h : IsAlk nx ru n A) (hg : IsLive nx ru n g) (m : Nat) : ∀ x ∈ (stF (trM nx A g n) (lsM ru) (clsM A n 0) m).1, ∃ s, s < n ∧ x = clsM A n s :=
  st_all (P := fun x => ∃ s, s < n ∧ x = clsM A n s) ⟨0, hx.pos, rfl⟩ (fun x ⟨s, hs, e⟩ c _ hne => by
    rw [e, trM_cls hx h hg hs] at hne ⊢
    exact clsD_cls (step_in8 hx s (by omega) c) hne) m
theorem cls_le (h : IsAlk nx ru n A) {S : List (List Int)} (hd : S.Nodup) (ha : ∀ x ∈ S, ∃ s, s < n ∧ x = clsM A n s) : S.length ≤ n := by
  have h1 := nodup_le n (S.map fun x => x.headD 0) (by
    unfold List.Nodup at hd ⊢
    rw [List.pairwise_map]
    refine hd.imp_of_mem fun {a b} ma mb hne e => hne ?_
    obtain ⟨s, hs, rfl⟩ := ha a ma
    obtain ⟨t, ht, rfl⟩ := ha b mb
    obtain ⟨i, ei, hi, qi⟩ := cls_head h hs
    obtain ⟨j, ej, hj, qj⟩ := cls_head h ht
    rw [ei, ej] at e
    obtain rfl : i = j := by omega
    exact (cls_iff h hs ht).2 ((h s t hs ht).2 (alk_trans ((h s i hs hi).1 qi) (alk_symm ((h t i ht hi).1 qj))))) (fun x hx => by
    obtain ⟨y, hy, rfl⟩ := List.mem_map.1 hx
    obtain ⟨s, hs, rfl⟩ := ha y hy
    obtain ⟨i, ei, hi, _⟩ := cls_head h hs
    rw [ei]; omega)
  rw [List.length_map] at h1
  exact h1
theorem stM_len (hx : Mx nx ru n) (h : IsAlk nx ru n A) (hg : IsLive nx ru n g) (m : Nat) : (stF (trM nx A g n) (lsM ru) (clsM A n 0) m).1.length ≤ n := cls_le h (st_nodup m) (stM_all hx h hg m)
end
end Go.Proofs.YtbbfjjjnifomgaaGreatDoor.A


