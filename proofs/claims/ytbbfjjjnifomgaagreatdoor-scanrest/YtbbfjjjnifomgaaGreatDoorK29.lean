/- The document's machine while it is laid: its three rows in memory. -/
import Derived.Deep.Cut
import Derived.Deep.CutRange
import Derived.Deep.RegionHeld3
import Derived.WalkKit
import Derived.ProofKit
import Derived.Outline
import Derived.BigQuiet
import Derived.Deep.QuietTactic
import Derived.Below
import Derived.OpenShut
import Derived.Deep.Slices
import Derived.Deep.Strs
import Derived.Deep.OwnRows
import Derived.Deep.WholeRow
import Derived.Deep.AppendSrc
import Derived.Deep.Heap
import Derived.Laws.AppendOwnNone
import Derived.Deep.AppendLies
import Derived.Deep.RegionLaw
import Derived.Maps.OwnSet
import Derived.Maps.OwnOps
import Derived.Shelf.Small.Strs
import Derived.Shelf.Strconv.Itoa0
import Derived.Shelf.Strconv.Itoa1
import Derived.Shelf.LaysM
import Derived.Shelf.Strconv.Itoa2
import Derived.Shelf.Strconv.Clone
import Derived.Shelf.Strings.Search1
import Derived.Shelf.Strings.Search2
import Derived.Shelf.Strings.Search3
import Derived.Shelf.Strings.Count
import Derived.Shelf.Strings.Shaped
import Derived.Shelf.Strconv.AppendUint10
import Derived.Shelf.Strconv.AppendInt10
import Derived.Shelf.Strconv.AppendIntPublic10
import Derived.Shelf.Strings.Split
import Derived.Shelf.Strings.SplitShaped
import Derived.Shelf.Bits.Mul64
import Derived.Shelf.Unicode.DecodeSlow
import Derived.Ground.Names2Prog
import Derived.Shelf.Slices.Clone
import Derived.Ground.SlgnProg
import Derived.Shelf.SlicesE.Clone
import Derived.Laws.IdiomStrings
import Derived.Laws.BytesArg
import Derived.Deep.MidRow
import Derived.LaidMore
import Derived.HandedShaped
import Derived.Shelf.Vars
import Derived.MakeChecks
import Derived.Stop.LaidErr
import Derived.WalkLawsBesides
import Derived.Laws.AppendOwn
import Derived.Laws.OwnMore
import Derived.OwnWalk
import Derived.Defers
import Derived.Recover
import Derived.Lib.SplitLaws
import Derived.Test.YtbbfjjjnifomgaaGreatDoorK8
import Derived.Test.YtbbfjjjnifomgaaGreatDoorK11
import Derived.Test.YtbbfjjjnifomgaaGreatDoorK13
import Derived.Test.YtbbfjjjnifomgaaGreatDoorK24
namespace Go.Proofs.YtbbfjjjnifomgaaGreatDoor.A
open Go.RowKit

/-- All but three blocks are as they were. -/
structure Kd (qF qS qT : Nat) (w w' : World) : Prop where
  os : w'.os = w.os
  tape : w'.tape = w.tape
  output : w'.output = w.output
  size : w.heap.size ≤ w'.heap.size
  block : ∀ k, k < w.heap.size → k ≠ qF → k ≠ qS → k ≠ qT → w'.heap[k]? = w.heap[k]?
theorem Kd.refl (a b c : Nat) (w : World) : Kd a b c w w := ⟨rfl, rfl, rfl, Nat.le_refl _, fun _ _ _ _ _ => rfl⟩
theorem Kd.trans {a b c : Nat} {u v w : World} (h : Kd a b c u v) (k : Kd a b c v w) : Kd a b c u w :=
  ⟨k.os.trans h.os, k.tape.trans h.tape, k.output.trans h.output, Nat.le_trans h.size k.size, fun i hi h1 h2 h3 => (k.block i (Nat.lt_of_lt_of_le hi h.size) h1 h2 h3).trans (h.block i hi h1 h2 h3)⟩
theorem Kd.of_below {a b c : Nat} {w w' : World} (h : Below w.heap.size w w') : Kd a b c w w' := ⟨h.os, h.tape, h.output, h.size, fun k hk _ _ _ => h.block k hk⟩
theorem Kd.drew {a b c : Nat} {w w' : World} (h : Kd a b c w w') : Kd a b c w w'.drew := ⟨h.os, h.tape, h.output, h.size, h.block⟩
theorem Kd.set {a b c : Nat} {w w' : World} (h : Kd a b c w w') {q : Nat} (hq : q = a ∨ q = b ∨ q = c) (i : Nat) (u : Value) : Kd a b c w (w'.setCell ⟨q, i, none⟩ u) :=
  ⟨h.os, h.tape, h.output, by simpa using h.size, fun k hk h1 h2 h3 => by
    rw [Below.heap_setCell _ _ _ _ (fun e => by
      have e' : k = q := e
      rcases hq with rfl | rfl | rfl
      · exact h1 e'
      · exact h2 e'
      · exact h3 e')]
    exact h.block k hk h1 h2 h3⟩
theorem Kd.below {a b c B : Nat} {w w' : World} (h : Kd a b c w w') (ha : B ≤ a) (hb : B ≤ b) (hc : B ≤ c) (hB : B ≤ w.heap.size) : Below B w w' := ⟨h.os, h.tape, h.output, h.size, fun k hk => h.block k (by omega) (by omega) (by omega) (by omega)⟩
section
variable {w w' w3 : World} {qF qS qT B N : Nat} {vf : List Value} {fs : List (List Int)} {ss : List Nat} {ts : List Int}
end
section
variable {w w' : World} {qF qS qT B N : Nat} {F F' : Nat → Nat → Prop} {S S' : Nat → Nat → Nat → Prop}
end
end Go.Proofs.YtbbfjjjnifomgaaGreatDoor.A

/- The document's lay: what it is to do; nodes without parts. -/
namespace Go.Proofs.YtbbfjjjnifomgaaGreatDoor.A
open Go.RowKit

end Go.Proofs.YtbbfjjjnifomgaaGreatDoor.A

/- The document's lay: a node that is nothing. -/
namespace Go.Proofs.YtbbfjjjnifomgaaGreatDoor.A
open Go.RowKit
set_option linter.unusedVariables false

end Go.Proofs.YtbbfjjjnifomgaaGreatDoor.A

/- The document's lay: what its rounds add, part by part. -/
namespace Go.Proofs.YtbbfjjjnifomgaaGreatDoor.A
open Go.RowKit

end Go.Proofs.YtbbfjjjnifomgaaGreatDoor.A


