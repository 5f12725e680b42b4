/- Two tries. -/
import Derived.Test.YtooiomfcemceiaaL
import Derived.Test.YtooiomfcemceiaaF
namespace Go.Proofs.Ytooiomfcemceiaa.A
open Go.RowKit
theorem tr_lt {zs : List Rg} {len : Nat} {w : World} {tb : Nat} {n : Int} {bu : Bool} (h : Tr zs len w tb n bu) : tb < w.heap.size := by obtain ⟨cs, e⟩ := tr_type h; exact (Array.getElem?_eq_some_iff.1 e).1
end Go.Proofs.Ytooiomfcemceiaa.A
