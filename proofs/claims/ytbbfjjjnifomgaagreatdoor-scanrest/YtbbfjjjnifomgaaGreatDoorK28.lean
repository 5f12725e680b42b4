/- Beginnings of words: plain mathematics. -/
import Derived.WalkKit
import Derived.ProofKit
import Derived.Outline
import Derived.BigQuiet
import Derived.Deep.QuietTactic
import Derived.Below
import Derived.Deep.RegionHeld3
import Derived.OpenShut
import Derived.Deep.Slices
import Derived.Deep.Strs
import Derived.Deep.OwnRows
import Derived.Deep.WholeRow
import Derived.Deep.AppendSrc
import Derived.Deep.Heap
import Derived.Laws.AppendOwnNone
import Derived.Deep.AppendLies
import Derived.Deep.RegionLaw
import Derived.Shelf.Small.Strs
import Derived.Shelf.Strconv.Itoa0
import Derived.Shelf.Strconv.Itoa1
import Derived.Shelf.LaysM
import Derived.Shelf.Strconv.Itoa2
import Derived.Shelf.Strconv.Clone
import Derived.Shelf.Strings.Search1
import Derived.Shelf.Strings.Search2
import Derived.Shelf.Strings.Search3
import Derived.Shelf.Strings.Count
import Derived.Shelf.Strings.Shaped
import Derived.Shelf.Strconv.AppendUint10
import Derived.Shelf.Strconv.AppendInt10
import Derived.Shelf.Strconv.AppendIntPublic10
import Derived.Shelf.Strings.Split
import Derived.Shelf.Strings.SplitShaped
import Derived.Shelf.Bits.Mul64
import Derived.Shelf.Unicode.DecodeSlow
import Derived.Ground.Names2Prog
import Derived.Shelf.Slices.Clone
import Derived.Ground.SlgnProg
import Derived.Shelf.SlicesE.Clone
import Derived.Laws.IdiomStrings
import Derived.Laws.BytesArg
import Derived.Maps.OwnSet
import Derived.Maps.OwnOps
import Derived.Deep.MidRow
import Derived.WalkLawsBesides
import Derived.Laws.AppendOwn
import Derived.Test.YtbbfjjjnifomgaaGreatDoorK20
import Derived.Test.YtbbfjjjnifomgaaGreatDoorK26
import Derived.Test.YtbbfjjjnifomgaaGreatDoorK1
import Derived.Test.YtbbfjjjnifomgaaGreatDoorK6
import Derived.Test.YtbbfjjjnifomgaaGreatDoorK7
import Derived.Test.YtbbfjjjnifomgaaGreatDoorK10
import Derived.Test.YtbbfjjjnifomgaaGreatDoorK11
import Derived.Test.YtbbfjjjnifomgaaGreatDoorK12
import Derived.Test.YtbbfjjjnifomgaaGreatDoorK23
import Derived.Test.YtbbfjjjnifomgaaGreatDoorK24
import Derived.Deep.Cut
import Derived.Deep.CutRange
import Derived.Test.YtbbfjjjnifomgaaGreatDoorK3
import Derived.Test.YtbbfjjjnifomgaaGreatDoorK15
import Derived.Test.YtbbfjjjnifomgaaGreatDoorK16
import Derived.Test.YtbbfjjjnifomgaaGreatDoorK17
namespace Go.Proofs.YtbbfjjjnifomgaaGreatDoor.A
open Go.RowKit

theorem run_take {nx : List (List Int)} {word : List Int} {m : Nat} : ∀ k, k ≤ m → m ≤ word.length → runF nx (word.take m) k = runF nx word k
  | 0, _, _ => rfl
  | k + 1, hk, hm => by
    show stepF nx (runF nx (word.take m) k) ((word.take m).getD k 0) = stepF nx (runF nx word k) (word.getD k 0)
    rw [run_take k (by omega) hm, List.getD_eq_getElem?_getD, List.getD_eq_getElem?_getD, List.getElem?_take_of_lt (by omega)]
theorem lg_le {nx : List (List Int)} {ru word : List Int} {f : Int} (hf : 0 ≤ f) : ∀ k : Nat, -1 ≤ (lgF nx ru word f k).1 ∧ (lgF nx ru word f k).1 ≤ f + (k : Int)
  | 0 => by
    show -1 ≤ (-1 : Int) ∧ (-1 : Int) ≤ f + ((0 : Nat) : Int)
    omega
  | k + 1 => by
    have ih := lg_le (nx := nx) (ru := ru) (word := word) hf k
    unfold lgF
    split
    · simp only; omega
    · omega
end Go.Proofs.YtbbfjjjnifomgaaGreatDoor.A



/- The machine of sets goes where the states of the machine go: plain mathematics. -/
namespace Go.Proofs.YtbbfjjjnifomgaaGreatDoor.A
open Go.RowKit
set_option linter.unusedVariables false

/-- What the machine of sets is. -/
structure Tb (tr : List Int → Nat → List Int) (ls : List Int → Int) (start : List Int) (S nx : List (List Int)) (ru : List Int) : Prop where
  ln : nx.length = S.length
  lr : ru.length = S.length
  pos : 1 ≤ S.length
  most : S.length ≤ 200
  zero : S[0]? = some start
  at_ : ∀ (i : Nat) (s : List Int), S[i]? = some s → ∃ row, nx[i]? = some row ∧ row.length = 16 ∧ ru[i]? = some (ls s) ∧ Means tr S s row 16

theorem tb_of {tr : List Int → Nat → List Int} {ls : List Int → Int} {start : List Int} (hb : (stF tr ls start 201).1.length ≤ 200) : Tb tr ls start (stF tr ls start 201).1 (stF tr ls start 201).2.1 (stF tr ls start 201).2.2 := by
  obtain ⟨k, h1, h2, h3, h4⟩ := st_reach hb
  obtain ⟨l1, l2⟩ := st_len (tr := tr) (ls := ls) (start := start) k h3
  rw [h4]
  have h0 := st_start (tr := tr) (ls := ls) (start := start) k
  have hp := (List.getElem?_eq_some_iff.1 h0).1
  refine ⟨by omega, by omega, by omega, by omega, h0, fun i s hs => ?_⟩
  have hi := (List.getElem?_eq_some_iff.1 hs).1
  obtain ⟨s', row, e1, e2, e3, e4, e5⟩ := st_means (tr := tr) (ls := ls) (start := start) k h3 i (by omega)
  rw [hs] at e1
  cases e1
  exact ⟨row, e2, e3, e4, e5⟩

theorem lst_rng {rs : List Int} (hr : ∀ (i : Nat) (r : Int), rs[i]? = some r → -1 ≤ r ∧ r ≤ 15) : ∀ (zs : List Int) (m : Int), -1 ≤ m ∧ m ≤ 15 → -1 ≤ zs.foldl (lst1 rs) m ∧ zs.foldl (lst1 rs) m ≤ 15
  | [], _, h => h
  | z :: zs, m, h => lst_rng hr zs _ (by
      cases e : rs[z.toNat]? with
      | none => unfold lst1; rw [e]; exact h
      | some r =>
        by_cases c : r ≠ -1 ∧ (m = -1 ∨ r < m)
        · rw [lst1_yes e c]; exact hr _ r e
        · rw [lst1_no e c]; exact h)

theorem tb_right {tr : List Int → Nat → List Int} {ls : List Int → Int} {start : List Int} {S nx : List (List Int)} {ru : List Int} (h : Tb tr ls start S nx ru) (hl : ∀ s, -1 ≤ ls s ∧ ls s ≤ 15) : rightD nx ru = true := by
  have hn := h.ln
  have hr := h.lr
  have h1 := h.pos
  have h2 := h.most
  unfold rightD
  simp only [Bool.and_eq_true, decide_eq_true_eq, List.all_eq_true, List.mem_range]
  refine ⟨by omega, by omega, by omega, fun i hi => ?_⟩
  obtain ⟨row, e1, e2, e3, e4⟩ := h.at_ i _ (List.getElem?_eq_getElem (by omega))
  rw [List.getD_eq_getElem?_getD, e3, List.getD_eq_getElem?_getD, e1, Option.getD_some, Option.getD_some]
  refine ⟨?_, ?_⟩
  · unfold okRule
    rw [Bool.and_eq_true, decide_eq_true_eq, decide_eq_true_eq]
    exact hl _
  · unfold okRow
    rw [List.all_eq_true]
    intro z hz
    obtain ⟨c, hc, e⟩ := List.getElem_of_mem hz
    have ez : row[c]? = some z := by rw [List.getElem?_eq_getElem hc, e]
    rcases e4 c (by omega) with ⟨_, q⟩ | ⟨_, j, q, q2⟩
    · rw [ez] at q; cases q; simp; omega
    · rw [ez] at q; cases q
      have := (List.getElem?_eq_some_iff.1 q2).1
      simp; omega

theorem lst_nil' {g : Nat → Bool} {N : Nat} (h : lstL g N = []) (j : Nat) (hj : j < N) : g j = false := by
  cases e : g j with
  | false => rfl
  | true =>
    have := (lst_mem g N (j : Int)).2 ⟨j, rfl, hj, e⟩
    rw [h] at this; cases this
theorem lst_none {g : Nat → Bool} {N : Nat} (h : ∀ j, j < N → g j = false) : lstL g N = [] := by
  rw [List.eq_nil_iff_forall_not_mem]
  intro z hz
  obtain ⟨j, _, hj, e⟩ := (lst_mem g N z).1 hz
  rw [h j hj] at e; cases e
theorem rch_none {fs : List (List Int)} {N : Nat} {o : Nat → Bool} {j : Nat} (h : Rch fs N o j) (h0 : ∀ j, o j = false) : False := by
  induction h with
  | here hn e => rw [h0] at e; cases e
  | on _ _ _ ih => exact ih
theorem cl_none {fs : List (List Int)} {N : Nat} {o g : Nat → Bool} (h : IsCl fs N o g) (h0 : ∀ j, o j = false) : lstL g N = [] := by
  apply lst_none
  intro j hj
  cases e : g j with
  | false => rfl
  | true => exact (rch_none ((h j hj).1 e) h0).elim
theorem stp_out {ss : List Nat} {ts : List Int} {c : Int} {o : Nat → Bool} {N j : Nat} (h : ¬ (0 ≤ c ∧ c < 16)) : stpB ss ts c o N j = false := by
  unfold stpB
  rw [List.any_eq_false]
  intro i _ e
  rw [Bool.and_eq_true] at e
  have e2 := e.2
  split at e2
  · rw [inS_out h, Bool.false_and] at e2; cases e2
  · cases e2

section
variable {fs : List (List Int)} {ss : List Nat} {ts rs : List Int} {N : Nat} {tr : List Int → Nat → List Int} {g0 : Nat → Bool} {ls : List Int → Int} {S nx : List (List Int)} {ru : List Int}
theorem set_run (hT : TrS fs ss ts N tr) (hg0 : IsCl fs N (tblB [0] 1) g0) (h : Tb tr ls (lstL g0 N) S nx ru) (word : List Int) : ∀ k, ∃ g, IsRun fs ss ts N word k g ∧ ((runF nx word k = -1 ∧ lstL g N = []) ∨ ∃ st : Nat, runF nx word k = st ∧ S[st]? = some (lstL g N))
  | 0 => ⟨g0, run_zero hg0, .inr ⟨0, rfl, h.zero⟩⟩
  | k + 1 => by
    obtain ⟨g, hg, hc⟩ := set_run hT hg0 h word k
    rcases hc with ⟨hr, hn⟩ | ⟨st, hr, hs⟩
    · obtain ⟨g', h1, h2⟩ := run_stop hg (lst_nil' hn) 1
      exact ⟨g', h1, .inl ⟨run_dead' hr (by omega), lst_none h2⟩⟩
    · by_cases cc : 0 ≤ word.getD k 0 ∧ word.getD k 0 < 16
      · obtain ⟨c, hc⟩ : ∃ c : Nat, word.getD k 0 = c := ⟨(word.getD k 0).toNat, by omega⟩
        have c16 : c < 16 := by omega
        obtain ⟨h', q1, q2⟩ := hT g c c16
        obtain ⟨row, e1, e2, e3, e4⟩ := h.at_ st _ hs
        have hst : runF nx word (k + 1) = stepF nx st c := by
          show stepF nx (runF nx word k) (word.getD k 0) = _
          rw [hr, hc]
        refine ⟨h', ⟨g, hg, by rw [hc]; exact q1⟩, ?_⟩
        rcases e4 c c16 with ⟨z1, z2⟩ | ⟨z1, j, z2, z3⟩
        · exact .inl ⟨by rw [hst]; exact dstep_in e1 z2 c16, by rw [← q2]; exact z1⟩
        · exact .inr ⟨j, by rw [hst]; exact dstep_in e1 z2 c16, by rw [← q2]; exact z3⟩
      · obtain ⟨g', hg'⟩ := close_is fs N (stpB ss ts (word.getD k 0) g N)
        exact ⟨g', ⟨g, hg, hg'⟩, .inl ⟨step_out cc, cl_none hg' (fun j => stp_out cc)⟩⟩
theorem set_mat (hT : TrS fs ss ts N tr) (hg0 : IsCl fs N (tblB [0] 1) g0) (h : Tb tr (lstR rs) (lstL g0 N) S nx ru) (hl : rs.length = N) (hrr : ∀ (i : Nat) (r : Int), rs[i]? = some r → -1 ≤ r ∧ r ≤ 15) (word : List Int) (g : Nat → Bool) (hg : IsRun fs ss ts N word word.length g) : matR nx ru word = endR rs g N := by
  have hr := tb_right h (fun s => lst_rng hrr s (-1) (by omega))
  obtain ⟨g', h1, h2⟩ := set_run hT hg0 h word word.length
  rw [endR_congr (run_one _ _ _ hg h1), ← least_same hl hrr]
  unfold matR runR
  rw [if_pos hr]
  rcases h2 with ⟨e1, e2⟩ | ⟨st, e1, e2⟩
  · rw [e1, e2]; rfl
  · obtain ⟨row, q1, q2, q3, q4⟩ := h.at_ st _ e2
    rw [e1, if_pos (by omega), show ((st : Nat) : Int).toNat = st by omega, List.getD_eq_getElem?_getD, q3]; rfl
end
end Go.Proofs.YtbbfjjjnifomgaaGreatDoor.A



/- What Build tells, of any expressions. -/
namespace Go.Proofs.YtbbfjjjnifomgaaGreatDoor.A
open Go.RowKit
set_option linter.unusedVariables false

theorem tb_of' {tr : List Int → Nat → List Int} {ls : List Int → Int} {start : List Int} : ∀ m, m = 201 → (stF tr ls start m).1.length ≤ 200 → Tb tr ls start (stF tr ls start m).1 (stF tr ls start m).2.1 (stF tr ls start m).2.2 := by
  intro m hm
  subst hm
  exact tb_of

theorem pos_most {w : World} {n : Nat} {a : Option Addr} {len : Nat} {l : List (Ex n)} (h : mayB l = true) (hk : Kids w n a len l) (h6 : l.length = len) : posE 1 l len ≤ 3300 := by
  obtain ⟨h1, h2, h3, h4⟩ := may_open h hk h6
  have hall : ∀ x ∈ l, rightE n x = true := by
    unfold mayB at h
    simp only [Bool.and_eq_true, decide_eq_true_eq, List.all_eq_true] at h
    exact h.2.2
  have hri : ∀ x ∈ l, realN n x ≤ 100 := fun x hx => by
    obtain ⟨r1, _, _⟩ := (right_iff (h3 x hx)).1 (hall x hx)
    omega
  have hsum := sum_le l hri
  have hpall := pos_all l 1
  rw [h6] at hpall hsum
  omega

end Go.Proofs.YtbbfjjjnifomgaaGreatDoor.A


