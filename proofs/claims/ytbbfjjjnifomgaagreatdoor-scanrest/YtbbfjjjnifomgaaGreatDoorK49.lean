/- The machine of the chapter's example, as it is told of its text. -/
import Derived.WalkKit
import Derived.ProofKit
import Derived.Outline
import Derived.BigQuiet
import Derived.Deep.QuietTactic
import Derived.Below
import Derived.Deep.RegionHeld3
import Derived.OpenShut
import Derived.Deep.Slices
import Derived.Deep.Strs
import Derived.Deep.OwnRows
import Derived.Deep.WholeRow
import Derived.Deep.AppendSrc
import Derived.Deep.Heap
import Derived.Laws.AppendOwnNone
import Derived.Deep.AppendLies
import Derived.Deep.RegionLaw
import Derived.Shelf.Small.Strs
import Derived.Shelf.Strconv.Itoa0
import Derived.Shelf.Strconv.Itoa1
import Derived.Shelf.LaysM
import Derived.Shelf.Strconv.Itoa2
import Derived.Shelf.Strconv.Clone
import Derived.Shelf.Strings.Search1
import Derived.Shelf.Strings.Search2
import Derived.Shelf.Strings.Search3
import Derived.Shelf.Strings.Count
import Derived.Shelf.Strings.Shaped
import Derived.Shelf.Strconv.AppendUint10
import Derived.Shelf.Strconv.AppendInt10
import Derived.Shelf.Strconv.AppendIntPublic10
import Derived.Shelf.Strings.Split
import Derived.Shelf.Strings.SplitShaped
import Derived.Shelf.Bits.Mul64
import Derived.Shelf.Unicode.DecodeSlow
import Derived.Ground.Names2Prog
import Derived.Shelf.Slices.Clone
import Derived.Ground.SlgnProg
import Derived.Shelf.SlicesE.Clone
import Derived.Laws.IdiomStrings
import Derived.Laws.BytesArg
import Derived.Maps.OwnSet
import Derived.Maps.OwnOps
import Derived.Deep.MidRow
import Derived.Deep.Cut
import Derived.Deep.CutRange
import Derived.WalkLawsBesides
import Derived.Laws.AppendOwn
import Derived.Laws.OwnMore
import Derived.OwnWalk
import Derived.Defers
import Derived.Recover
import Derived.Lib.SplitLaws
import Derived.Lib.LaidTab
import Derived.WalkSpells
import Derived.DeepKeys5
import Derived.Maps.AppendAt
import Derived.Maps.RangeWalk
import Derived.LaidMore
import Derived.HandedShaped
import Derived.Shelf.Vars
import Derived.MakeChecks
import Derived.Stop.LaidErr
import Derived.Maps.Keyed
import Derived.Laws.Tables
import Derived.Laws.Rows
import Derived.Laws.CopyOwn
import Derived.Deep.LoopGhost
import Derived.BigRegion
import Derived.Laws.Pointers
import Derived.Laws.LoneSync
import Derived.RegionTactic
import Derived.RegionCalls
import Derived.ChangeAlike
import Derived.Laws.NewBlocks
import Derived.Test.YtbbfjjjnifomgaaGreatDoorK1
import Derived.Test.YtbbfjjjnifomgaaGreatDoorK6
import Derived.Test.YtbbfjjjnifomgaaGreatDoorK7
import Derived.Test.YtbbfjjjnifomgaaGreatDoorK8
import Derived.Test.YtbbfjjjnifomgaaGreatDoorK9
import Derived.Test.YtbbfjjjnifomgaaGreatDoorK10
import Derived.Test.YtbbfjjjnifomgaaGreatDoorK11
import Derived.Test.YtbbfjjjnifomgaaGreatDoorK13
import Derived.Test.YtbbfjjjnifomgaaGreatDoorK15
import Derived.Test.YtbbfjjjnifomgaaGreatDoorK16
import Derived.Test.YtbbfjjjnifomgaaGreatDoorK17
import Derived.Test.YtbbfjjjnifomgaaGreatDoorK20
import Derived.Test.YtbbfjjjnifomgaaGreatDoorK22
import Derived.Test.YtbbfjjjnifomgaaGreatDoorK23
import Derived.Test.YtbbfjjjnifomgaaGreatDoorK24
import Derived.Test.YtbbfjjjnifomgaaGreatDoorK26
import Derived.Test.YtbbfjjjnifomgaaGreatDoorK41
import Derived.Test.YtbbfjjjnifomgaaGreatDoorK42
import Derived.Test.YtbbfjjjnifomgaaGreatDoorK46
import Derived.Test.YtbbfjjjnifomgaaGreatDoorK3
import Derived.Test.YtbbfjjjnifomgaaGreatDoorK4
import Derived.Test.YtbbfjjjnifomgaaGreatDoorK29
import Derived.Test.YtbbfjjjnifomgaaGreatDoorK37
import Derived.Test.YtbbfjjjnifomgaaGreatDoorK39
import Derived.Test.YtbbfjjjnifomgaaGreatDoorK45
import Derived.Test.YtbbfjjjnifomgaaGreatDoorK44
import Derived.Test.YtbbfjjjnifomgaaGreatDoorK47
import Derived.Test.YtbbfjjjnifomgaaGreatDoorK48
namespace Go.Proofs.YtbbfjjjnifomgaaGreatDoor.A
open Go.RowKit
set_option linter.unusedVariables false

def tx9 : ByteArray := { data := #[115, 116, 100, 58, 32, 67, 40, 72, 67, 41, 42, 10, 98, 97, 100, 33, 58, 32, 91, 72, 78, 93, 43] }
def fs9 : List (List Int) := [[1, 13], [2], [], [4], [5, 11], [6], [], [8], [], [10], [5, 11], [12], [], [14], [], [16], [17, 19], [], [17, 19], [20], []]
def ss9 : List Nat := [0, 0, 2, 0, 0, 0, 16, 0, 2, 0, 0, 0, 0, 0, 24, 0, 0, 24, 0, 0, 0]
def ts9 : List Int := [0, 0, 3, 0, 0, 0, 7, 0, 9, 0, 0, 0, 0, 0, 15, 0, 0, 18, 0, 0, 0]
def rs9 : List Int := [-1, -1, -1, -1, -1, -1, -1, -1, -1, -1, -1, -1, 0, -1, -1, -1, -1, -1, -1, -1, 1]
def good9 : Bool := match parseF tx9 with
  | (some l, 0, 0) => rightG l && (l.map (fun x : Rl => x.br) == [false, true]) && l.all (fun x : Rl => decide (x.n ≤ 49)) && mayB (exsL 49 l) && decide (posE 1 (exsL 49 l) 2 = 21) && decide ((layE 1 (exsL 49 l)).map en = [12, 20]) && decide ((List.range 21).map (layA (exsL 49 l) 1 mc0).fr = fs9) && decide ((List.range 21).map (layA (exsL 49 l) 1 mc0).st = ss9) && decide ((List.range 21).map (layA (exsL 49 l) 1 mc0).to = ts9) && ((cutW (lgW l [1, 4, 1, 4, 4, 1, 0]) 7).map (fun p => (p.f, p.t, p.r)) == [(0, 3, 0), (3, 5, 1), (5, 6, 0), (6, 7, -1)])
  | _ => false
set_option maxRecDepth 1000000 in
theorem good9_ok : good9 = true := by decide +kernel
theorem tx9_rules : ∃ l, parseF tx9 = (some l, 0, 0) ∧ rightG l = true ∧ l.map (fun x : Rl => x.br) = [false, true] ∧ (∀ x ∈ l, x.n ≤ 49) ∧ mayB (exsL 49 l) = true ∧ posE 1 (exsL 49 l) 2 = 21 ∧ (layE 1 (exsL 49 l)).map en = [12, 20] ∧ (List.range 21).map (layA (exsL 49 l) 1 mc0).fr = fs9 ∧ (List.range 21).map (layA (exsL 49 l) 1 mc0).st = ss9 ∧ (List.range 21).map (layA (exsL 49 l) 1 mc0).to = ts9 ∧ (cutW (lgW l [1, 4, 1, 4, 4, 1, 0]) 7).map (fun p => (p.f, p.t, p.r)) = [(0, 3, 0), (3, 5, 1), (5, 6, 0), (6, 7, -1)] := by
  have h := good9_ok
  unfold good9 at h
  split at h
  · rename_i l heq
    simp only [Bool.and_eq_true, decide_eq_true_eq, beq_iff_eq, List.all_eq_true] at h
    obtain ⟨⟨⟨⟨⟨⟨⟨⟨⟨h1, h2⟩, h3⟩, h4⟩, h5⟩, h6⟩, h7⟩, h8⟩, h9⟩, h10⟩ := h
    exact ⟨l, heq, h1, h2, h3, h4, h5, h6, h7, h8, h9, h10⟩
  · cases h
theorem rs9_at : ∀ i : Nat, i < 21 → rs9[i]? = some (if i = 12 then 0 else if i = 20 then 1 else -1) := by decide +kernel
theorem rs9_is {n : Nat} {l : List (Ex n)} (h : (layE 1 l).map en = [12, 20]) : RsI l 2 rs9 := fun i r hr => by
  have hi : i < 21 := (List.getElem?_eq_some_iff.1 hr).1
  rw [rs9_at i hi] at hr
  have hr' := Option.some.inj hr
  have key : ∀ (m : Nat) (p : Nat × Ex n), (layE 1 l)[m]? = some p → (m = 0 ∧ en p = 12) ∨ (m = 1 ∧ en p = 20) := fun m p hp => by
    have h2 : ((layE 1 l).map en)[m]? = some (en p) := by rw [List.getElem?_map, hp]; rfl
    rw [h] at h2
    match m, h2 with
    | 0, h2 => left; exact ⟨rfl, by simpa using h2.symm⟩
    | 1, h2 => right; exact ⟨rfl, by simpa using h2.symm⟩
    | m + 2, h2 => simp at h2
  have hlen : (layE 1 l).length = 2 := by have := congrArg List.length h; simpa using this
  by_cases e0 : i = 12
  · rw [if_pos e0] at hr'
    obtain ⟨p, hp⟩ : ∃ p, (layE 1 l)[0]? = some p := ⟨_, List.getElem?_eq_getElem (by omega)⟩
    left
    refine ⟨0, p, by omega, hp, ?_, by rw [← hr']; rfl⟩
    rcases key 0 p hp with q | q
    · rw [q.2, e0]
    · omega
  · by_cases e1 : i = 20
    · rw [if_neg e0, if_pos e1] at hr'
      obtain ⟨p, hp⟩ : ∃ p, (layE 1 l)[1]? = some p := ⟨_, List.getElem?_eq_getElem (by omega)⟩
      left
      refine ⟨1, p, by omega, hp, ?_, by rw [← hr']; rfl⟩
      rcases key 1 p hp with q | q
      · omega
      · rw [q.2, e1]
    · rw [if_neg e0, if_neg e1] at hr'
      right
      refine ⟨fun m p hm hp => ?_, hr'.symm⟩
      rcases key m p hp with q | q
      · rw [q.2]; exact e0
      · rw [q.2]; exact e1

def A9 : Nat → List Nat
  | 0 => [0, 1, 2, 13, 14]
  | 1 => [3, 4, 5, 6, 11, 12]
  | 2 => [15, 16, 17, 19, 20]
  | 3 => [7, 8]
  | 4 => [17, 18, 19, 20]
  | _ => [5, 6, 9, 10, 11, 12]
def L9 (i : Nat) : List Int := lstL (fun j => (A9 i).contains j) 21
def ordN (i c : Nat) : List Nat := if c = 1 then (if i = 0 then [3, 4, 5, 11, 6, 12] else if i = 3 then [9, 10, 5, 11, 6, 12] else []) else if c = 3 then (if i = 0 then [15, 16, 17, 19, 20] else if i = 2 then [18, 17, 19, 20] else if i = 4 then [18, 17, 19, 20] else []) else if c = 4 then (if i = 0 then [15, 16, 17, 19, 20] else if i = 1 then [7, 8] else if i = 2 then [18, 17, 19, 20] else if i = 4 then [18, 17, 19, 20] else if i = 5 then [7, 8] else []) else []
theorem chk9 : ∀ i : Nat, i < 6 → ∀ c : Nat, c < 16 → chkB fs9 21 (stpB ss9 ts9 (c : Int) (fun j => (A9 i).contains j) 21) (ordN i c) = true := by decide +kernel
theorem chk9s : chkB fs9 21 (tblB [0] 1) [0, 1, 13, 2, 14] = true := by decide +kernel
def trN (s : List Int) (c : Nat) : List Int :=
  if s = L9 0 then lstL (fun j => (ordN 0 c).contains j) 21 else if s = L9 1 then lstL (fun j => (ordN 1 c).contains j) 21 else if s = L9 2 then lstL (fun j => (ordN 2 c).contains j) 21 else if s = L9 3 then lstL (fun j => (ordN 3 c).contains j) 21 else if s = L9 4 then lstL (fun j => (ordN 4 c).contains j) 21 else lstL (fun j => (ordN 5 c).contains j) 21
theorem tr9 {tr : List Int → Nat → List Int} (h : TrS fs9 ss9 ts9 21 tr) (i : Nat) (hi : i < 6) (c : Nat) (hc : c < 16) : tr (L9 i) c = lstL (fun j => (ordN i c).contains j) 21 := by
  obtain ⟨g, h1, h2⟩ := h (fun j => (A9 i).contains j) c hc
  show tr (lstL _ 21) c = _
  rw [h2]
  exact lst_congr (isCl_one h1 (chk_is (chk9 i hi c hc)))
theorem trN_at : ∀ i : Nat, i < 6 → ∀ c : Nat, c < 16 → trN (L9 i) c = lstL (fun j => (ordN i c).contains j) 21 := by decide +kernel
theorem trN_in : ∀ i : Nat, i < 6 → ∀ c : Nat, c < 16 → trN (L9 i) c = [] ∨ trN (L9 i) c = L9 0 ∨ trN (L9 i) c = L9 1 ∨ trN (L9 i) c = L9 2 ∨ trN (L9 i) c = L9 3 ∨ trN (L9 i) c = L9 4 ∨ trN (L9 i) c = L9 5 := by decide +kernel
def nx9 : List (List Int) := [[-1, 1, -1, 2, 2, -1, -1, -1, -1, -1, -1, -1, -1, -1, -1, -1], [-1, -1, -1, -1, 3, -1, -1, -1, -1, -1, -1, -1, -1, -1, -1, -1], [-1, -1, -1, 4, 4, -1, -1, -1, -1, -1, -1, -1, -1, -1, -1, -1], [-1, 5, -1, -1, -1, -1, -1, -1, -1, -1, -1, -1, -1, -1, -1, -1], [-1, -1, -1, 4, 4, -1, -1, -1, -1, -1, -1, -1, -1, -1, -1, -1], [-1, -1, -1, -1, 3, -1, -1, -1, -1, -1, -1, -1, -1, -1, -1, -1]]
def ru9 : List Int := [-1, 0, 1, -1, 1, 0]
theorem stN : (stF trN (lstR rs9) (L9 0) 6) = ([L9 0, L9 1, L9 2, L9 3, L9 4, L9 5], nx9, ru9) := by decide +kernel
theorem st9 {tr : List Int → Nat → List Int} (h : TrS fs9 ss9 ts9 21 tr) : stF tr (lstR rs9) (L9 0) 201 = ([L9 0, L9 1, L9 2, L9 3, L9 4, L9 5], nx9, ru9) := by
  have e := stF_congr (tr := tr) (tr' := trN) (ls := lstR rs9) (ls' := lstR rs9) (start := L9 0) (fun s => ∃ i, i < 6 ∧ s = L9 i) ⟨0, by omega, rfl⟩ (fun s ⟨i, hi, e⟩ c hc => by
    subst e
    refine ⟨by rw [tr9 h i hi c hc, trN_at i hi c hc], fun hne => ?_⟩
    rcases trN_in i hi c hc with q | q | q | q | q | q | q
    · exact absurd q hne
    · exact ⟨0, by omega, q⟩
    · exact ⟨1, by omega, q⟩
    · exact ⟨2, by omega, q⟩
    · exact ⟨3, by omega, q⟩
    · exact ⟨4, by omega, q⟩
    · exact ⟨5, by omega, q⟩) (fun _ _ => rfl)
  rw [st_end (k := 6) (by rw [e 6, stN]; rfl) (by omega), e 6, stN]

/-- Both builders tell this machine. -/
theorem mac9 {l : List Rl} (hm : mayB (exsL 49 l) = true) (hpos : posE 1 (exsL 49 l) 2 = 21) (hen : (layE 1 (exsL 49 l)).map en = [12, 20]) (h1 : (List.range 21).map (layA (exsL 49 l) 1 mc0).fr = fs9) (h2 : (List.range 21).map (layA (exsL 49 l) 1 mc0).st = ss9) (h3 : (List.range 21).map (layA (exsL 49 l) 1 mc0).to = ts9)
    {w : World} {a : Option Addr} (hx : Exs w 49 a (exsL 49 l)) (hlen : (exsL 49 l).length = 2) : ∃ nx ru, Mac (exsL 49 l) nx ru 0 := by
  have hk := exs_kids hx hlen
  obtain ⟨hl1, hl2, hful, hsh⟩ := may_open hm hk hlen
  have hi : Is (FrA (exsL 49 l)) (SpA (exsL 49 l)) 21 fs9 ss9 ts9 := by
    have := lists_is (fun x hx => ⟨hful x hx, hsh x hx⟩) 21
    rw [h1, h2, h3] at this
    exact this
  obtain ⟨tr, htr⟩ := tr_is fs9 ss9 ts9 21
  have hM := mac_of hx hm hlen fs9 ss9 ts9 rs9 21 tr (fun j => [0, 1, 13, 2, 14].contains j) hi (rs9_is hen) rfl hpos.symm htr (chk_is chk9s)
  obtain ⟨nx, ru, z, hM, hz⟩ := hM
  rw [show lstL (fun j => [0, 1, 13, 2, 14].contains j) 21 = L9 0 from rfl] at hz
  have h9 := st9 htr
  have : z = 0 := hz 201 rfl (by rw [h9]; exact (by decide : (6 : Nat) ≤ 200))
  subst this
  exact ⟨nx, ru, hM⟩
end Go.Proofs.YtbbfjjjnifomgaaGreatDoor.A


/- What every right program answers: the chapter's example, walked. -/
namespace Go.Proofs.YtbbfjjjnifomgaaGreatDoor.A
open Go.RowKit
set_option linter.unusedVariables false

/-- A smallest machine of rules cuts by the expressions alone. -/
theorem cut_words {N : Nat} {l : List Rl} {nx0 nx : List (List Int)} {ru0 ru : List Int} (hM : Mac (exsL N l) nx0 ru0 0) (hs : SmOf nx0 ru0 nx ru) (hN : ∀ x ∈ l, x.n ≤ N ∧ full x.n x.t) (word : List Int) : cutW (fun a => longR nx ru word (a : Int)) word.length = cutW (lgW l word) word.length := by
  obtain ⟨h1, h2, h3, h4⟩ := smOf_eqo hs
  refine cut_one h1 h2.row (fun v => ?_) word
  rcases hM.fact with ⟨h0, -⟩ | ⟨-, q1, q2, q3⟩
  · cases h0
  · rw [← eqo_mat h3 h2 q1 h1 h4 v, q3 v, least_exs hN v _ 0]
    unfold exsL
    rw [List.length_map]
theorem seven_wd (w : World) (x0 x1 x2 x3 x4 x5 x6 : Int) : Wd (w.alloc (.cells #[.int .i64 x0, .int .i64 x1, .int .i64 x2, .int .i64 x3, .int .i64 x4, .int .i64 x5, .int .i64 x6] 3)) (some ⟨w.heap.size, 0, none⟩) [x0, x1, x2, x3, x4, x5, x6] := fun i c hc => by
  refine ⟨_, 0, rfl, ?_⟩
  rw [Nat.zero_add, cell_of_row _ _ i _ _ _ (heap_alloc_last w _)]
  match i with
  | 0 | 1 | 2 | 3 | 4 | 5 | 6 => simp at hc; subst hc; rfl
  | i + 7 => simp at hc
def ps9 : List Pc := [⟨0, 3, 0⟩, ⟨3, 5, 1⟩, ⟨5, 6, 0⟩, ⟨6, 7, -1⟩]
theorem four_seg (w : World) : SegP (w.alloc (.cells #[.int .i64 0, .int .i64 3, .int .i64 0, .int .i64 3, .int .i64 5, .int .i64 1, .int .i64 5, .int .i64 6, .int .i64 0, .int .i64 6, .int .i64 7, .int .i64 (-1)] 30)) (some ⟨w.heap.size, 0, none⟩) ps9 := fun i p hp => by
  refine ⟨_, 0, rfl, ?_⟩
  rw [Nat.zero_add, cell_of_row _ _ _ _ _ _ (heap_alloc_last w _), cell_of_row _ _ _ _ _ _ (heap_alloc_last w _), cell_of_row _ _ _ _ _ _ (heap_alloc_last w _)]
  unfold ps9 at hp
  match i with
  | 0 | 1 | 2 | 3 => simp at hp; subst hp; exact ⟨rfl, rfl, rfl⟩
  | i + 4 => simp at hp
theorem ps_eq {ps : List Pc} (h : ps.map (fun p => (p.f, p.t, p.r)) = [(0, 3, 0), (3, 5, 1), (5, 6, 0), (6, 7, -1)]) : ps = ps9 := by
  have e : (ps.map (fun p => (p.f, p.t, p.r))).map (fun x => (⟨x.1, x.2.1, x.2.2⟩ : Pc)) = ps := by
    rw [List.map_map]
    exact List.map_id' ps
  rw [h] at e
  exact e.symm

set_option maxRecDepth 100000 in
set_option maxHeartbeats 6400000 in
theorem alive_any9 (m : Int) (w : World) (hm : w.cell? ⟨0, 0, none⟩ = some (.int .i64 m)) (ht : Tab w.heap.size w) : Calls Tryz.prog 7 #[] w fun e w' => e = .returned (.bool true) ∧ Below w.heap.size w w' := by
  obtain ⟨l, hp, hrg, hbr, hN, hmay, hpos, hen, h1, h2, h3, hcut⟩ := tx9_rules
  have HP := hide (show Calls Tryz.prog 27 #[.string { data := #[115, 116, 100, 58, 32, 67, 40, 72, 67, 41, 42, 10, 98, 97, 100, 33, 58, 32, 91, 72, 78, 93, 43] }] w fun e w' => ∃ a cap, e = .returned (.tuple #[.slice a 2 cap, .int .i64 0, .int .i64 0]) ∧ 2 ≤ cap ∧ cap ≤ maxLen ∧ Rs w' a 2 l ∧ Below w.heap.size w w' from by
    refine (parse_any tx9 m w (by decide) hm).mono ?_
    intro e w' hout
    rw [hp] at hout
    obtain ⟨a, len, cap, rfl, h1, h2, h3, h4⟩ := hout
    have e : len = 2 := by have := congrArg List.length hbr; simp at this; exact h3.1.symm.trans this
    subst e
    exact ⟨a, cap, rfl, h1, h2, h3, h4⟩)
  have HRG := hide hrg
  have HBR := hide hbr
  have HNN := hide hN
  have HMC := hide (And.intro hmay (And.intro hpos (And.intro hen (And.intro h1 (And.intro h2 h3)))))
  have HCUT := hide hcut
  have HT := hide ht
  clear hp hrg hbr hN hmay hpos hen h1 h2 h3 hcut hm ht
  go_enter Tryz.func7, Tryz.ntmps7
  go_wp2_with fail
  refine HP.out.mono ?_
  rintro e w1 ⟨a, cap, rfl, hc1, hc2, hrs, hb1⟩
  have HB1 := hide hb1
  have HRS := hide hrs
  have HFL := hide (fun (x : Rl) (hx : x ∈ l) => show x.n ≤ 49 ∧ full x.n x.t from ⟨HNN.out x hx, by
    obtain ⟨i, hi⟩ := List.getElem?_of_mem hx
    have hlt := (List.getElem?_eq_some_iff.1 hi).1
    obtain ⟨y, b, off, k, s, a', l', c, -, hy, -, -, -, -, -, -, p6⟩ := rs_open hrs (i := i) (by rw [← hrs.1]; exact hlt)
    obtain rfl : x = y := Option.some.inj (hi.symm.trans hy)
    exact rx_full _ _ _ p6⟩)
  have HL2 := hide hrs.1
  clear hb1 hrs HP
  go_wp2_with fail
  refine (new_yes a 2 cap l w1 hc1 hc2 HRS.out HRG.out).mono ?_
  rintro e w2 ⟨q, rfl, hq1, hb2, hsn⟩
  have hMac : ∃ nx0 ru0, Mac (exsL 49 l) nx0 ru0 0 := by
    obtain ⟨ps, x, b, rfl, hsk, hmk, hbo⟩ := hsn
    obtain ⟨a', c', -, hex⟩ := mkx_exs hmk (N := 49) (fun p hp => HNN.out p.1 (List.mem_map_of_mem hp))
    obtain ⟨k1, k2, k3, k4, k5, k6⟩ := HMC.out
    exact mac9 k1 k2 k3 k4 k5 k6 hex (by unfold exsL; rw [List.length_map]; exact HL2.out)
  obtain ⟨nx0, ru0, hM⟩ := hMac
  have HM := hide hM
  have hq2 := scn_lt hsn
  have HB2 := hide (HB1.out.trans (hb2.mono HB1.out.size))
  have hbA := (Below.refl w2.heap.size w2).alloc (Nat.le_refl _) (.cells #[.int .i64 1, .int .i64 4, .int .i64 1, .int .i64 4, .int .i64 4, .int .i64 1, .int .i64 0] 3)
  have HBA := hide (HB2.out.alloc HB2.out.size (.cells #[.int .i64 1, .int .i64 4, .int .i64 1, .int .i64 4, .int .i64 4, .int .i64 1, .int .i64 0] 3))
  have HSN := hide (scn_below hsn hbA)
  have HW7 := hide (seven_wd w2 1 4 1 4 4 1 0)
  have HBQ := hide (show w.heap.size ≤ q by have := HB1.out.size; omega)
  have HQ2 := hide hq2
  clear hM hsn hb2 hbA hq1 hq2
  go_wp2_with fail
  generalize w2.alloc (.cells #[.int .i64 1, .int .i64 4, .int .i64 1, .int .i64 4, .int .i64 4, .int .i64 1, .int .i64 0] 3) = W at *
  refine (scut_any q 49 w.heap.size l nx0 ru0 0 0 _ 7 7 [1, 4, 1, 4, 4, 1, 0] W (.inl ⟨rfl, HSN.out⟩) (fun x hx => HNN.out x hx) (by rw [HL2.out]; omega) HM.out HBQ.out (tab_on HT.out HBA.out) rfl (by omega) (by decide) (by omega) HW7.out (fun _ x hx => by have e := Option.some.inj hx; have := HQ2.out; rw [← e]; show w2.heap.size ≠ q; omega) (by omega) (by omega)).mono ?_
  rintro e w3 ⟨nx, ru, hsm, hg, ⟨h7, -⟩ | ⟨-, ps, pa, pc, hps, hcnt, rfl, hseg, hup, hsc⟩⟩
  · exact absurd h7 (by decide)
  have hso : SmOf nx0 ru0 nx ru := by
    rcases hsm with ⟨h7, -⟩ | ⟨-, h⟩
    · exact absurd h7 (by decide)
    · exact h
  have hpe : ps = ps9 := by
    refine ps_eq ?_
    rw [hps, show (7 : Nat) = ([1, 4, 1, 4, 4, 1, 0] : List Int).length from rfl, cut_words HM.out hso HFL.out]
    exact HCUT.out
  clear hps hcnt hso hsm
  subst hpe
  have HB3 := hide (HBA.out.trans (gb_low hg HBQ.out (by have := scn_lt HSN.out; exact this)))
  obtain ⟨b1, o1, rfl, -, -, -⟩ := hseg 0 ⟨0, 3, 0⟩ rfl
  have HALL := hide (fun (u : World) (hb : Below w3.heap.size w3 u) => show SegP u (some ⟨b1, o1, none⟩) ps9 ∧ Scs u q l nx0 ru0 0 4 ∧ (u.cell? ⟨b1, o1, none⟩ = some (.int .i64 0) ∧ u.cell? ⟨b1, o1 + 1, none⟩ = some (.int .i64 3) ∧ u.cell? ⟨b1, o1 + 2, none⟩ = some (.int .i64 0)) ∧ (u.cell? ⟨b1, o1 + 3, none⟩ = some (.int .i64 3) ∧ u.cell? ⟨b1, o1 + 3 + 1, none⟩ = some (.int .i64 5) ∧ u.cell? ⟨b1, o1 + 3 + 2, none⟩ = some (.int .i64 1)) from by
    have hs := segP_below hb hseg
    obtain ⟨b, o, e, c0, c1, c2⟩ := hs 0 ⟨0, 3, 0⟩ rfl
    obtain ⟨b', o', e', d0, d1, d2⟩ := hs 1 ⟨3, 5, 1⟩ rfl
    obtain ⟨rfl, rfl, -⟩ := Addr.mk.inj (Option.some.inj e)
    obtain ⟨rfl, rfl, -⟩ := Addr.mk.inj (Option.some.inj e')
    exact ⟨hs, scs_below hsc hb, ⟨by simpa using c0, by simpa using c1, by simpa using c2⟩, ⟨by simpa using d0, by simpa using d1, by simpa using d2⟩⟩)
  have HBR1 := hide (show brF l 1 = true ∧ brF l 0 = false from by
    have b := HBR.out
    have q0 : (l.map (fun x : Rl => x.br))[0]? = some false := by rw [b]; rfl
    have q1 : (l.map (fun x : Rl => x.br))[1]? = some true := by rw [b]; rfl
    rw [List.getElem?_map] at q0 q1
    obtain ⟨x0, e0, f0⟩ := Option.map_eq_some_iff.1 q0
    obtain ⟨x1, e1, f1⟩ := Option.map_eq_some_iff.1 q1
    unfold brF
    rw [HL2.out]
    simp [e0, e1, f0, f1])
  clear hg hseg hup hsc
  have hbB := (Below.refl w3.heap.size w3).alloc (Nat.le_refl _) (.cells #[.int .i64 0, .int .i64 3, .int .i64 0, .int .i64 3, .int .i64 5, .int .i64 1, .int .i64 5, .int .i64 6, .int .i64 0, .int .i64 6, .int .i64 7, .int .i64 (-1)] 30)
  have HBB := hide hbB
  have HS4 := hide (four_seg w3)
  clear hbB
  go_wp2_with fail
  refine (rsame_any9 (some ⟨b1, o1, none⟩) _ _ _ pc _ ps9 ps9 _ rfl rfl (by decide) (by decide) (HALL.out _ HBB.out).1 HS4.out).mono ?_
  rintro e w4 ⟨rfl, hb4⟩
  rw [show sameP ps9 ps9 = true from by decide]
  have HX4 := hide (HBB.out.trans (hb4.mono HBB.out.size))
  clear hb4
  go_wp2_with fail
  refine (cuts_any q l nx0 ru0 0 4 w4 (HALL.out _ HX4.out).2.1).mono ?_
  rintro e w5 ⟨rfl, rfl⟩
  obtain ⟨d0, d1, d2⟩ := (HALL.out _ HX4.out).2.2.2
  go_wp2_with fail
  refine (broken_any q l nx0 ru0 0 4 3 5 1 _ (HALL.out _ HX4.out).2.1).mono ?_
  rintro e w6 ⟨rfl, hb6⟩
  rw [HBR1.out.1]
  have HX6 := hide (HX4.out.trans (hb6.mono HX4.out.size))
  clear hb6 d0 d1 d2
  obtain ⟨d0, d1, d2⟩ := (HALL.out _ HX6.out).2.2.1
  go_wp2_with fail
  refine (broken_any q l nx0 ru0 0 4 0 3 0 _ (HALL.out _ HX6.out).2.1).mono ?_
  rintro e w7 ⟨rfl, hb7⟩
  rw [HBR1.out.2]
  have HX7 := hide (HX6.out.trans (hb7.mono HX6.out.size))
  clear hb7 d0 d1 d2
  go_wp2_with fail
  refine (whole_any (some ⟨b1, o1, none⟩) _ pc ps9 7 _ rfl (by decide) (HALL.out _ HX7.out).1).mono ?_
  rintro e w8 ⟨rfl, hb8⟩
  rw [show wholeF 0 ps9 7 = true from by decide]
  have HX8 := hide (HB3.out.trans ((HX7.out.trans (hb8.mono HX7.out.size)).mono HB3.out.size))
  clear hb8
  go_wp2
  go_ret
  exact ⟨rfl, HX8.out⟩
end Go.Proofs.YtbbfjjjnifomgaaGreatDoor.A

