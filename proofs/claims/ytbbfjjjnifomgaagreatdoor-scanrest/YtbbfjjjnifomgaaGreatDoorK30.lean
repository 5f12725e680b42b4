/- The document's Same, of two machines that are the same. -/
import Derived.BigQuiet
import Derived.DeepKeys5
import Derived.Maps.RangeWalk
import Derived.Deep.RegionLaw
import Derived.Maps.OwnSet
import Derived.Maps.AppendAt
import Derived.WalkKit
import Derived.ProofKit
import Derived.Outline
import Derived.Deep.QuietTactic
import Derived.Below
import Derived.Deep.RegionHeld3
import Derived.OpenShut
import Derived.Deep.Slices
import Derived.Deep.Strs
import Derived.Deep.OwnRows
import Derived.Deep.WholeRow
import Derived.Deep.AppendSrc
import Derived.Deep.Heap
import Derived.Laws.AppendOwnNone
import Derived.Deep.AppendLies
import Derived.Shelf.Small.Strs
import Derived.Shelf.Strconv.Itoa0
import Derived.Shelf.Strconv.Itoa1
import Derived.Shelf.LaysM
import Derived.Shelf.Strconv.Itoa2
import Derived.Shelf.Strconv.Clone
import Derived.Shelf.Strings.Search1
import Derived.Shelf.Strings.Search2
import Derived.Shelf.Strings.Search3
import Derived.Shelf.Strings.Count
import Derived.Shelf.Strings.Shaped
import Derived.Shelf.Strconv.AppendUint10
import Derived.Shelf.Strconv.AppendInt10
import Derived.Shelf.Strconv.AppendIntPublic10
import Derived.Shelf.Strings.Split
import Derived.Shelf.Strings.SplitShaped
import Derived.Shelf.Bits.Mul64
import Derived.Shelf.Unicode.DecodeSlow
import Derived.Ground.Names2Prog
import Derived.Shelf.Slices.Clone
import Derived.Ground.SlgnProg
import Derived.Shelf.SlicesE.Clone
import Derived.Laws.IdiomStrings
import Derived.Laws.BytesArg
import Derived.Maps.OwnOps
import Derived.Deep.MidRow
import Derived.WalkLawsBesides
import Derived.Laws.AppendOwn
import Derived.Deep.Cut
import Derived.Deep.CutRange
import Derived.LaidMore
import Derived.HandedShaped
import Derived.Shelf.Vars
import Derived.MakeChecks
import Derived.Stop.LaidErr
import Derived.Laws.OwnMore
import Derived.OwnWalk
import Derived.Defers
import Derived.Recover
import Derived.Lib.SplitLaws
import Derived.Test.YtbbfjjjnifomgaaGreatDoorK26
import Derived.Test.YtbbfjjjnifomgaaGreatDoorK13
import Derived.Test.YtbbfjjjnifomgaaGreatDoorK23
import Derived.Test.YtbbfjjjnifomgaaGreatDoorK24
import Derived.Test.YtbbfjjjnifomgaaGreatDoorK27
namespace Go.Proofs.YtbbfjjjnifomgaaGreatDoor.A
open Go.RowKit Go.Maps
set_option linter.unusedVariables false

theorem smallZ : Tryz.prog.types.size + 2 ≤ 10000 := of_decide_eq_true (by kernel_rfl)
theorem types_succZ : ∃ m, Tryz.prog.types.size = m + 1 := ⟨259, by kernel_rfl⟩
theorem cells3Z : Tryz.prog.cellsOf 3 = 1 := by kernel_rfl
theorem cells66 : Tryz.prog.cellsOf 66 = 16 := by kernel_rfl
attribute [local go_sem ↓] wp_load63s
attribute [local go_sem] rowM_drew rowMok_drew
end Go.Proofs.YtbbfjjjnifomgaaGreatDoor.A



/- The document's Build in memory: tables of states, rows and rules. -/
namespace Go.Proofs.YtbbfjjjnifomgaaGreatDoor.A
open Go.RowKit
set_option linter.unusedVariables false

section
variable {w w' : World} {base N d : Nat} {sv nv rv : Value} {vs : List Value} {S nx : List (List Int)} {ru : List Int}
end
theorem own_one (w : World) (base : Nat) (v : Value) (t : TypeId) (hb : base ≤ w.heap.size) : (w.alloc (.cells #[v] t)).ownsRow base t 1 (.slice (some ⟨w.heap.size, 0, none⟩) 1 1) 1 [v] :=
  ⟨rfl, .inr ⟨w.heap.size, 1, #[v], rfl, hb, heap_alloc_last w _, Nat.le_refl _, by unfold maxLen; omega, rfl, rfl⟩⟩

/-- A row of 16 numbers in a block of its own. -/
def Rg (w : World) (rb : Nat) (f : Nat → Int) : Prop := w.heap[rb]? = some (.cells (rowG f) 66 (0, 0))
theorem rg_cell {w : World} {rb m : Nat} {f : Nat → Int} (h : Rg w rb f) (hm : m < 16) : w.cell? ⟨rb, m, none⟩ = some (.int .i64 (f m)) ∧ w.frozen? ⟨rb, m, none⟩ = false := by
  constructor
  · rw [cell_of_row _ _ _ _ _ _ h, rowG_at _ _ hm]
  · unfold Rg at h; simp [World.frozen?, h]
theorem rg_set {w : World} {rb m : Nat} {f : Nat → Int} (h : Rg w rb f) (hm : m < 16) (z : Int) : Rg (w.setCell ⟨rb, m, none⟩ (.int .i64 z)) rb (fun i => if i = m then z else f i) := by
  unfold Rg at h ⊢
  rw [blk_set h, rowG_set _ _ _ hm]
theorem rg_congr {w : World} {rb : Nat} {f f' : Nat → Int} (h : Rg w rb f) (e : ∀ j, j < 16 → f j = f' j) : Rg w rb f' := by
  unfold Rg; rw [← rowG_congr e]; exact h
theorem fnL_app {l : List Int} {m : Nat} (hl : l.length = m) (z : Int) (j : Nat) (hj : j < 16) : fnL (l ++ [z]) j = if j = m then z else fnL l j := by
  unfold fnL
  rw [List.getD_eq_getElem?_getD, List.getD_eq_getElem?_getD]
  by_cases e : j = m
  · subst e; rw [if_pos rfl, List.getElem?_append_right (by omega), hl, Nat.sub_self]; rfl
  · rw [if_neg e]
    by_cases e2 : j < m
    · rw [List.getElem?_append_left (by omega)]
    · rw [List.getElem?_eq_none (by rw [List.length_append, hl]; simp; omega), List.getElem?_eq_none (by omega)]
theorem row_step {tr : List Int → Nat → List Int} {s : List Int} {S S' : List (List Int)} {m : Nat} {z : Int} (h : findF (rowF tr s S m).1 (tr s m) = (S', z)) : rowF tr s S (m + 1) = (S', (rowF tr s S m).2 ++ [z]) := by
  show ((findF (rowF tr s S m).1 (tr s m)).1, (rowF tr s S m).2 ++ [(findF (rowF tr s S m).1 (tr s m)).2]) = _
  rw [h]
theorem find_none (S : List (List Int)) {t : List Int} (h : t = []) : findF S t = (S, -1) := by unfold findF; rw [if_pos h]
/-- A row's block, behind a step. -/
theorem rg_step {w : World} {rb m : Nat} {tr : List Int → Nat → List Int} {s : List Int} {S S' : List (List Int)} {f : Nat → Int} {z : Int} (hf : findF (rowF tr s S m).1 (tr s m) = (S', z)) (h : Rg w rb f) (e : ∀ j, j < 16 → f j = if j = m then z else fnL (rowF tr s S m).2 j) : Rg w rb (fnL (rowF tr s S (m + 1)).2) := by
  rw [row_step hf]
  exact rg_congr h fun j hj => by rw [e j hj]; exact (fnL_app (row_len tr s S m) z j hj).symm
end Go.Proofs.YtbbfjjjnifomgaaGreatDoor.A


