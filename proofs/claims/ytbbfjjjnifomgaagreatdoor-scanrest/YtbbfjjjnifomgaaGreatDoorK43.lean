/- Plain mathematics: what is left of a word is cut as it was; pieces are all of a word. -/
import Derived.OpenShut
import Derived.Lib.LaidTab
import Derived.Below
import Derived.Outline
import Derived.Deep.Heap
import Derived.Deep.OwnRows
import Derived.Deep.QuietTactic
import Derived.Deep.Slices
import Derived.ProofKit
import Derived.WalkKit
import Derived.WalkSpells
import Derived.WalkLawsBesides
import Derived.Deep.WholeRow
import Derived.Deep.MidRow
import Derived.DeepKeys5
import Derived.Maps.OwnSet
import Derived.Maps.OwnOps
import Derived.Maps.AppendAt
import Derived.Maps.RangeWalk
import Derived.Deep.RegionLaw
import Derived.Deep.Cut
import Derived.Deep.CutRange
import Derived.Deep.RegionHeld3
import Derived.Deep.AppendLies
import Derived.BigQuiet
import Derived.Laws.AppendOwn
import Derived.Shelf.Small.Strs
import Derived.Shelf.Strconv.Itoa0
import Derived.Shelf.Strconv.Itoa1
import Derived.Shelf.LaysM
import Derived.Shelf.Strconv.Itoa2
import Derived.Shelf.Strconv.Clone
import Derived.Shelf.Strings.Search1
import Derived.Shelf.Strings.Search2
import Derived.Shelf.Strings.Search3
import Derived.Shelf.Strings.Count
import Derived.Shelf.Strings.Shaped
import Derived.Shelf.Strconv.AppendUint10
import Derived.Shelf.Strconv.AppendInt10
import Derived.Shelf.Strconv.AppendIntPublic10
import Derived.Shelf.Strings.Split
import Derived.Shelf.Strings.SplitShaped
import Derived.Shelf.Bits.Mul64
import Derived.Shelf.Unicode.DecodeSlow
import Derived.Ground.Names2Prog
import Derived.Shelf.Slices.Clone
import Derived.Ground.SlgnProg
import Derived.Shelf.SlicesE.Clone
import Derived.Deep.Strs
import Derived.Deep.AppendSrc
import Derived.Laws.AppendOwnNone
import Derived.Laws.IdiomStrings
import Derived.Laws.BytesArg
import Derived.LaidMore
import Derived.HandedShaped
import Derived.Shelf.Vars
import Derived.MakeChecks
import Derived.Stop.LaidErr
import Derived.Laws.OwnMore
import Derived.OwnWalk
import Derived.Defers
import Derived.Recover
import Derived.Lib.SplitLaws
import Derived.Maps.Keyed
import Derived.Laws.Tables
import Derived.Laws.Rows
import Derived.Laws.CopyOwn
import Derived.Deep.LoopGhost
import Derived.Test.YtbbfjjjnifomgaaGreatDoorK20
import Derived.Test.YtbbfjjjnifomgaaGreatDoorK26
import Derived.Test.YtbbfjjjnifomgaaGreatDoorK41
namespace Go.Proofs.YtbbfjjjnifomgaaGreatDoor.A
open Go.RowKit
set_option linter.unusedVariables false

/-- A piece so much further on. -/
def shP (c : Nat) (p : Pc) : Pc := ⟨p.f + (c : Int), p.t + (c : Int), p.r⟩
theorem lg_shift (nx : List (List Int)) (ru V : List Int) {f c : Int} (hf : 0 ≤ f) : ∀ k, lgF nx ru V (f + c) k = if (lgF nx ru V f k).1 < 0 then (-1, -1) else ((lgF nx ru V f k).1 + c, (lgF nx ru V f k).2)
  | 0 => by
    show ((-1 : Int), (-1 : Int)) = if (-1 : Int) < 0 then (-1, -1) else _
    rw [if_pos (by omega)]
  | k + 1 => by
    unfold lgF
    by_cases q : 0 ≤ runF nx V (k + 1) ∧ ru.getD (runF nx V (k + 1)).toNat 0 ≠ -1
    · rw [if_pos q, if_pos q, if_neg (by show ¬ f + (k : Int) + 1 < 0; omega)]
      show (f + c + (k : Int) + 1, _) = (f + (k : Int) + 1 + c, _)
      rw [show f + c + (k : Int) + 1 = f + (k : Int) + 1 + c by omega]
    · rw [if_neg q, if_neg q]
      exact lg_shift nx ru V hf k
theorem lg_above (nx : List (List Int)) (ru V : List Int) {f : Int} : ∀ k, (lgF nx ru V f k).1 = -1 ∨ f < (lgF nx ru V f k).1
  | 0 => .inl rfl
  | k + 1 => by
    unfold lgF
    split
    · right; show f < f + (k : Int) + 1; omega
    · exact lg_above nx ru V k
theorem piece_shift (nx : List (List Int)) (ru word : List Int) {b a : Nat} (h : b + a ≤ word.length) : pieceF (longR nx ru word ((b + a : Nat) : Int)) (b + a) = shP b (pieceF (longR nx ru (word.drop b) (a : Int)) a) := by
  unfold longR
  by_cases hr : rightD nx ru = true
  · rw [if_pos ⟨hr, by omega, by omega⟩, if_pos ⟨hr, by omega, by rw [List.length_drop]; omega⟩, show (((b + a : Nat) : Int)).toNat = b + a by omega, show ((a : Nat) : Int).toNat = a by omega, List.drop_drop, List.length_drop, show word.length - b - a = word.length - (b + a) by omega]
    have e := lg_shift nx ru (word.drop (b + a)) (f := (a : Int)) (c := (b : Int)) (by omega) (word.length - (b + a))
    rw [show (a : Int) + (b : Int) = ((b + a : Nat) : Int) by omega] at e
    rw [e]
    have up := lg_above nx ru (word.drop (b + a)) (f := (a : Int)) (word.length - (b + a))
    generalize lgF nx ru (word.drop (b + a)) (a : Int) (word.length - (b + a)) = x at up ⊢
    by_cases c : x.1 < 0
    · rw [if_pos c]
      unfold pieceF shP
      rw [if_neg (by show ¬ (0 : Int) < -1; omega), if_neg (by omega)]
      show (⟨((b + a : Nat) : Int), ((b + a : Nat) : Int) + 1, -1⟩ : Pc) = ⟨(a : Int) + (b : Int), (a : Int) + 1 + (b : Int), -1⟩
      rw [show (a : Int) + 1 + (b : Int) = ((b + a : Nat) : Int) + 1 by omega, show (a : Int) + (b : Int) = ((b + a : Nat) : Int) by omega]
    · rw [if_neg c]
      unfold pieceF shP
      rw [if_pos (by show 0 < x.1 + (b : Int); omega), if_pos (by omega)]
      show (⟨((b + a : Nat) : Int), x.1 + (b : Int), x.2⟩ : Pc) = ⟨(a : Int) + (b : Int), x.1 + (b : Int), x.2⟩
      rw [show (a : Int) + (b : Int) = ((b + a : Nat) : Int) by omega]
  · rw [if_neg (fun q => hr q.1), if_neg (fun q => hr q.1)]
    unfold pieceF shP
    rw [if_neg (by show ¬ (0 : Int) < -1; omega), if_neg (by show ¬ (0 : Int) < -1; omega)]
    show (⟨((b + a : Nat) : Int), ((b + a : Nat) : Int) + 1, -1⟩ : Pc) = ⟨(a : Int) + (b : Int), (a : Int) + 1 + (b : Int), -1⟩
    rw [show (a : Int) + 1 + (b : Int) = ((b + a : Nat) : Int) + 1 by omega, show (a : Int) + (b : Int) = ((b + a : Nat) : Int) by omega]
theorem cut_fuel2 {lg : Nat → Int × Int} {len : Nat} (h : LgOk lg len) {f g a : Nat} (hf : len ≤ a + f) (hg : len ≤ a + g) : cutF lg len f a = cutF lg len g a := by
  rw [cut_fuel h f a g hf, cut_fuel h g a f hg, Nat.add_comm]
theorem cut_shift {lg lg' : Nat → Int × Int} {len b : Nat} (hlg : LgOk lg' (len - b)) (hs : ∀ a, a < len - b → pieceF (lg (b + a)) (b + a) = shP b (pieceF (lg' a) a)) : ∀ f a, (cutF lg' (len - b) f a).map (shP b) = cutF lg len f (b + a)
  | 0, _ => rfl
  | f + 1, a => by
    unfold cutF
    by_cases c : a < len - b
    · obtain ⟨t, e, h1, h2⟩ := piece_to hlg c
      have e2 : (pieceF (lg (b + a)) (b + a)).t = ((b + t : Nat) : Int) := by
        rw [hs a c]
        show (pieceF (lg' a) a).t + (b : Int) = _
        rw [e]; omega
      rw [if_pos c, if_pos (by omega), List.map_cons, e, e2, show ((t : Nat) : Int).toNat = t by omega, show ((b + t : Nat) : Int).toNat = b + t by omega, cut_shift hlg hs f t, hs a c]
    · rw [if_neg c, if_neg (by omega)]
      rfl
theorem cut_drop {lg : Nat → Int × Int} {len : Nat} (h : LgOk lg len) : ∀ (i f a : Nat) (p : Pc), len ≤ a + f → (cutF lg len f a)[i]? = some p → ∃ t : Nat, p.t = (t : Int) ∧ t ≤ len ∧ (cutF lg len f a).drop (i + 1) = cutF lg len len t
  | i, f, a, p, hf, hp => by
    by_cases c : a < len
    · obtain ⟨t, e, h1, h2⟩ := piece_to h c
      rw [cut_next h c hf e h1] at hp ⊢
      cases i with
      | zero =>
        have : pieceF (lg a) a = p := by simpa using hp
        subst this
        exact ⟨t, e, h2, by rw [List.drop_succ_cons, List.drop_zero]; exact cut_fuel2 h (by omega) (by omega)⟩
      | succ i =>
        have hp' : (cutF lg len f t)[i]? = some p := by simpa using hp
        obtain ⟨t', e', h3, h4⟩ := cut_drop h i f t p (by omega) hp'
        exact ⟨t', e', h3, by rw [List.drop_succ_cons]; exact h4⟩
    · rw [cut_end _ _ _ (by omega)] at hp
      simp at hp
/-- WHAT IS LEFT of a word behind a piece is cut as it was. -/
theorem cut_rest {nx : List (List Int)} {ru word : List Int} {i : Nat} {p : Pc} (hp : (cutW (fun a => longR nx ru word (a : Int)) word.length)[i]? = some p) :
    ∃ t : Nat, p.t = (t : Int) ∧ t ≤ word.length ∧ (cutW (fun a => longR nx ru word (a : Int)) word.length).drop (i + 1) = (cutW (fun a => longR nx ru (word.drop t) (a : Int)) (word.drop t).length).map (shP t) := by
  have h := long_ok nx ru word
  obtain ⟨t, e, h1, h2⟩ := cut_drop h i word.length 0 p (by omega) hp
  refine ⟨t, e, h1, ?_⟩
  have h' := long_ok nx ru (word.drop t)
  have hlen : (word.drop t).length = word.length - t := List.length_drop
  unfold cutW
  rw [hlen] at h' ⊢
  rw [h2, cut_shift (lg := fun a => longR nx ru word (a : Int)) (len := word.length) h' (fun a ha => piece_shift nx ru word (by omega)) (word.length - t) 0, Nat.add_zero]
  exact cut_fuel2 h (by omega) (by omega)
/-- Pieces one behind the other, from a to e. -/
def Chn : Int → List Pc → Int → Prop
  | a, [], e => a = e
  | a, p :: r, e => p.f = a ∧ a < p.t ∧ Chn p.t r e
theorem cut_chn {lg : Nat → Int × Int} {len : Nat} (h : LgOk lg len) : ∀ (f a : Nat), a ≤ len → len ≤ a + f → Chn (a : Int) (cutF lg len f a) (len : Int)
  | 0, a, h1, h2 => by show (a : Int) = (len : Int); omega
  | f + 1, a, h1, h2 => by
    unfold cutF
    by_cases c : a < len
    · obtain ⟨t, e, h3, h4⟩ := piece_to h c
      rw [if_pos c]
      refine ⟨by unfold pieceF; split <;> rfl, by rw [e]; omega, ?_⟩
      rw [e, show ((t : Nat) : Int).toNat = t by omega]
      exact cut_chn h f t h4 (by omega)
    · rw [if_neg c]
      show (a : Int) = (len : Int)
      omega
/-- The pieces of a word are all of it. -/
theorem cut_whole {lg : Nat → Int × Int} {len : Nat} (h : LgOk lg len) : Chn 0 (cutW lg len) (len : Int) := cut_chn h len 0 (by omega) (by omega)
end Go.Proofs.YtbbfjjjnifomgaaGreatDoor.A


