/- The document's Small. -/
import Derived.OpenShut
import Derived.Lib.LaidTab
import Derived.Below
import Derived.Outline
import Derived.Deep.Heap
import Derived.Deep.OwnRows
import Derived.Deep.QuietTactic
import Derived.Deep.Slices
import Derived.ProofKit
import Derived.WalkKit
import Derived.WalkSpells
import Derived.WalkLawsBesides
import Derived.Deep.WholeRow
import Derived.Deep.MidRow
import Derived.DeepKeys5
import Derived.Maps.OwnSet
import Derived.Maps.OwnOps
import Derived.Maps.AppendAt
import Derived.Maps.RangeWalk
import Derived.Deep.RegionLaw
import Derived.Deep.Cut
import Derived.Deep.CutRange
import Derived.Deep.RegionHeld3
import Derived.Deep.AppendLies
import Derived.BigQuiet
import Derived.Deep.Strs
import Derived.Deep.AppendSrc
import Derived.Laws.AppendOwnNone
import Derived.Laws.AppendOwn
import Derived.Shelf.Small.Strs
import Derived.Shelf.Strconv.Itoa0
import Derived.Shelf.Strconv.Itoa1
import Derived.Shelf.LaysM
import Derived.Shelf.Strconv.Itoa2
import Derived.Shelf.Strconv.Clone
import Derived.Shelf.Strings.Search1
import Derived.Shelf.Strings.Search2
import Derived.Shelf.Strings.Search3
import Derived.Shelf.Strings.Count
import Derived.Shelf.Strings.Shaped
import Derived.Shelf.Strconv.AppendUint10
import Derived.Shelf.Strconv.AppendInt10
import Derived.Shelf.Strconv.AppendIntPublic10
import Derived.Shelf.Strings.Split
import Derived.Shelf.Strings.SplitShaped
import Derived.Shelf.Bits.Mul64
import Derived.Shelf.Unicode.DecodeSlow
import Derived.Ground.Names2Prog
import Derived.Shelf.Slices.Clone
import Derived.Ground.SlgnProg
import Derived.Shelf.SlicesE.Clone
import Derived.Laws.IdiomStrings
import Derived.Laws.BytesArg
import Derived.LaidMore
import Derived.HandedShaped
import Derived.Shelf.Vars
import Derived.MakeChecks
import Derived.Stop.LaidErr
import Derived.Laws.OwnMore
import Derived.OwnWalk
import Derived.Defers
import Derived.Recover
import Derived.Lib.SplitLaws
import Derived.Test.YtbbfjjjnifomgaaGreatDoorK4
import Derived.Test.YtbbfjjjnifomgaaGreatDoorK24
import Derived.Test.YtbbfjjjnifomgaaGreatDoorK26
namespace Go.Proofs.YtbbfjjjnifomgaaGreatDoor.A
open Go.RowKit
set_option linter.unusedVariables false
attribute [local go_sem ↓] wp_build25s wp_load63s
attribute [local go_sem] isBlk_agg cells_agg rowM_drew rowMok_drew

/-- What Small tells. -/
def ResS (w : World) (σ : List (List Int) × List (List Int) × List Int) (e : Ending) (w' : World) : Prop :=
  ∃ b0 b1 d0 d1, e = .returned (.agg #[.slice b0 σ.2.1.length d0, .slice b1 σ.2.2.length d1]) ∧ Dr w' b0 σ.2.1 ∧ Wd w' b1 σ.2.2 ∧ Below w.heap.size w w'
theorem info66' : (Tryz.prog.info? 66).map (fun i => (i.zero, i.size, i.bytes)) = some (some (.agg (Array.replicate 16 (.int .i64 0))), 16, 128) := by kernel_rfl

end Go.Proofs.YtbbfjjjnifomgaaGreatDoor.A


