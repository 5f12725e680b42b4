/- The document's Shapes. -/
import Derived.WalkKit
import Derived.ProofKit
import Derived.Outline
import Derived.BigQuiet
import Derived.Deep.QuietTactic
import Derived.Below
import Derived.Test.YtbbfjjjnifomgaaGreatDoorK1
namespace Go.Proofs.YtbbfjjjnifomgaaGreatDoor.A
open Go.RowKit

/-- May a node be, by itself? -/
def okE (k s len : Nat) : Bool :=
  (decide (k = 0) && (decide (len = 0) && decide (s = 0))) || (decide (k = 1) && (decide (len = 0) && decide (0 < s))) || ((decide (k = 2) || decide (k = 3)) && (decide (0 < len) && decide (s = 0))) || ((decide (k = 4) || decide (k = 5)) && (decide (len = 1) && decide (s = 0)))
def shapesE : (n : Nat) → Ex n → Bool
  | 0, _ => false
  | n + 1, t => okE (kd t) (st t) (ks t).length && (ks t).all (fun x => shapesE n x)

end Go.Proofs.YtbbfjjjnifomgaaGreatDoor.A


