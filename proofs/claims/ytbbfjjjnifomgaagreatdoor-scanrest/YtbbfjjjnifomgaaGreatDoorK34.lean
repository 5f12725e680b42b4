/- The document's to: where a state goes, dead ones left out. -/
import Derived.OpenShut
import Derived.Lib.LaidTab
import Derived.Below
import Derived.Outline
import Derived.Deep.Heap
import Derived.Deep.OwnRows
import Derived.Deep.QuietTactic
import Derived.Deep.Slices
import Derived.ProofKit
import Derived.WalkKit
import Derived.WalkSpells
import Derived.WalkLawsBesides
import Derived.Deep.WholeRow
import Derived.Deep.MidRow
import Derived.DeepKeys5
import Derived.Maps.OwnSet
import Derived.Maps.OwnOps
import Derived.Maps.AppendAt
import Derived.Maps.RangeWalk
import Derived.Deep.RegionLaw
import Derived.Deep.Cut
import Derived.Deep.CutRange
import Derived.Deep.RegionHeld3
import Derived.Deep.AppendLies
import Derived.BigQuiet
import Derived.Deep.Strs
import Derived.Deep.AppendSrc
import Derived.Laws.AppendOwnNone
import Derived.Laws.AppendOwn
import Derived.Shelf.Small.Strs
import Derived.Shelf.Strconv.Itoa0
import Derived.Shelf.Strconv.Itoa1
import Derived.Shelf.LaysM
import Derived.Shelf.Strconv.Itoa2
import Derived.Shelf.Strconv.Clone
import Derived.Shelf.Strings.Search1
import Derived.Shelf.Strings.Search2
import Derived.Shelf.Strings.Search3
import Derived.Shelf.Strings.Count
import Derived.Shelf.Strings.Shaped
import Derived.Shelf.Strconv.AppendUint10
import Derived.Shelf.Strconv.AppendInt10
import Derived.Shelf.Strconv.AppendIntPublic10
import Derived.Shelf.Strings.Split
import Derived.Shelf.Strings.SplitShaped
import Derived.Shelf.Bits.Mul64
import Derived.Shelf.Unicode.DecodeSlow
import Derived.Ground.Names2Prog
import Derived.Shelf.Slices.Clone
import Derived.Ground.SlgnProg
import Derived.Shelf.SlicesE.Clone
import Derived.Laws.IdiomStrings
import Derived.Laws.BytesArg
import Derived.LaidMore
import Derived.HandedShaped
import Derived.Shelf.Vars
import Derived.MakeChecks
import Derived.Stop.LaidErr
import Derived.Laws.OwnMore
import Derived.OwnWalk
import Derived.Defers
import Derived.Recover
import Derived.Lib.SplitLaws
import Derived.Test.YtbbfjjjnifomgaaGreatDoorK1
import Derived.Test.YtbbfjjjnifomgaaGreatDoorK8
import Derived.Test.YtbbfjjjnifomgaaGreatDoorK11
import Derived.Test.YtbbfjjjnifomgaaGreatDoorK13
import Derived.Test.YtbbfjjjnifomgaaGreatDoorK24
import Derived.Test.YtbbfjjjnifomgaaGreatDoorK29
import Derived.Test.YtbbfjjjnifomgaaGreatDoorK20
import Derived.Test.YtbbfjjjnifomgaaGreatDoorK26
import Derived.Test.YtbbfjjjnifomgaaGreatDoorK33
namespace Go.Proofs.YtbbfjjjnifomgaaGreatDoor.A
open Go.RowKit
set_option linter.unusedVariables false

/-- Marks at a slice. -/
def Br (w : World) (a : Option Addr) (n : Nat) (h : Nat → Bool) : Prop := ∀ j, j < n → ∃ b off, a = some ⟨b, off, none⟩ ∧ w.cell? ⟨b, off + j, none⟩ = some (.bool (h j))
theorem br_below {w w' : World} {a : Option Addr} {n : Nat} {h : Nat → Bool} (hb : Below w.heap.size w w') (k : Br w a n h) : Br w' a n h := fun j hj => by
  obtain ⟨b, off, e, c⟩ := k j hj
  exact ⟨b, off, e, (hb.cell (p := ⟨b, off + j, none⟩) (cell_lt c)).trans c⟩
end Go.Proofs.YtbbfjjjnifomgaaGreatDoor.A



/- Pairs of states that are told apart; tables of them in memory. -/
namespace Go.Proofs.YtbbfjjjnifomgaaGreatDoor.A
open Go.RowKit
set_option linter.unusedVariables false

section
variable {nx : List (List Int)} {ru : List Int} {n : Nat} {g : Nat → Bool}
theorem out_rng (h : Mx nx ru n) : ∀ (word : List Nat) (a : Int), a < (n : Int) → -1 ≤ outc nx ru a word
  | [], a, ha => by
    by_cases h0 : 0 ≤ a
    · obtain ⟨r, _, h1, _, e⟩ := mx_rule h (i := a.toNat) (by omega)
      rw [show ((a.toNat : Nat) : Int) = a by omega] at e
      rw [e]; exact h1
    · rw [out_dead [] a (by omega)]; omega
  | c :: r, a, ha => out_rng h r (stepF nx a c) (step_in8 h a ha c)
end

/-- Which of two states are alike. -/
def IsAlk (nx : List (List Int)) (ru : List Int) (n : Nat) (T : Nat → Nat → Bool) : Prop := ∀ i k, i < n → k < n → (T i k = true ↔ Alk nx ru i k)
section
variable {nx : List (List Int)} {ru : List Int} {n : Nat} {g : Nat → Bool} {A : Nat → Nat → Bool}
end

section
variable {w w' : World} {T N k : Nat} {A : Nat → Nat → Bool}
end
end Go.Proofs.YtbbfjjjnifomgaaGreatDoor.A


