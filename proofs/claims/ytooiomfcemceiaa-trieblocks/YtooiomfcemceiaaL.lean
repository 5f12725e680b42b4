/- Behind a draw. -/
import Derived.Test.YtooiomfcemceiaaJ
import Derived.Deep.RegionHeld3
namespace Go.Proofs.Ytooiomfcemceiaa.A
open Go.RowKit
theorem tr_drew {zs : List Rg} {len : Nat} {w : World} {tb : Nat} {n : Int} {bu : Bool} (h : Tr zs len w tb n bu) : Tr zs len w.drew tb n bu := tr_below h (Below.refl _ _).drew
theorem below_drew' {B : Nat} {a w : World} (h : Below B a w) : Below B a w.drew := h.drew
theorem seg_keep {w w' : World} {b o : Nat} {u0 u1 u2 : Value} (hb : Below w.heap.size w w') (h : w.cell? ⟨b, o, none⟩ = some u0 ∧ w.cell? ⟨b, o + 1, none⟩ = some u1 ∧ w.cell? ⟨b, o + 2, none⟩ = some u2) :
    w'.cell? ⟨b, o, none⟩ = some u0 ∧ w'.cell? ⟨b, o + 1, none⟩ = some u1 ∧ w'.cell? ⟨b, o + 2, none⟩ = some u2 := seg_below hb h
theorem seg_two {w w' : World} {b o : Nat} {u0 u1 u2 : Value} (hb : Below w.heap.size w w') (h : w.cell? ⟨b, o, none⟩ = some u0 ∧ w.cell? ⟨b, o + 1, none⟩ = some u1 ∧ w.cell? ⟨b, o + 2, none⟩ = some u2) :
    w'.cell? ⟨b, o, none⟩ = some u0 ∧ w'.cell? ⟨b, o + 1, none⟩ = some u1 := ⟨(seg_below hb h).1, (seg_below hb h).2.1⟩
theorem tr_num {zs : List Rg} {len : Nat} {w : World} {tb : Nat} {n m : Int} {bu : Bool} (h : Tr zs len w tb n bu) (e : n = m) : Tr zs len w tb m bu := e ▸ h
end Go.Proofs.Ytooiomfcemceiaa.A
