/- The document's Build: of expressions that may not be. -/
import Derived.Test.YtccaknabpnpjaaaGreatDoorEc
import Derived.Test.YtccaknabpnpjaaaGreatDoorT4
namespace Go.Proofs.YtccaknabpnpjaaaGreatDoor.A
open Go.RowKit
set_option linter.unusedVariables false

set_option maxRecDepth 100000 in
set_option maxHeartbeats 1600000 in
theorem rbuild_no (n : Nat) (hn : n ≤ 900) (a : Option Addr) (len cap : Nat) (l : List (Ex n)) (w : World) (hl : len ≤ maxLen) (h6 : l.length = len) (hkids : Kids w n a len l) (hno : mayB l = false) :
    Calls Tryz.prog 8 #[.slice a len cap] w fun e w' => e = .returned (noDf 1) ∧ Below w.heap.size w w' := by
  have hb0 := (Below.refl w.heap.size w).alloc (Nat.le_refl _) (.cells #[.slice none 0 0, .slice none 0 0] 28)
  have HB0 := hide hb0
  have HN2 := hide (nil2 w)
  have HC := hide (dbuild_no n hn a len cap l _ hl h6 (kids_below hb0 hkids) hno)
  clear hkids h6 hno hb0
  go_enter Tryz.func8, Tryz.ntmps8
  go_wp2_with fail
  generalize w.alloc (.cells #[.slice none 0 0, .slice none 0 0] 28) = W at *
  refine HC.out.mono ?_
  rintro e w1 ⟨rfl, hb1⟩
  have hbA := hb1.alloc hb1.size (.cells #[.slice none 0 0, .slice none 0 0, .slice none 0 0, .slice none 0 0] 55)
  have h1 := (hbA.block w.heap.size (Array.getElem?_eq_some_iff.1 HN2.out).1).trans HN2.out
  have HB1 := hide (HB0.out.trans (hbA.mono HB0.out.size))
  have HWF := hide (set2 (x := .slice none 0 0) (y := .slice none 0 0) h1)
  have HBF := hide (below_set2 (x := .slice none 0 0) (y := .slice none 0 0) HB1.out (Nat.le_refl w.heap.size))
  obtain ⟨q0, q1, qz⟩ := d_cells h1
  have y0 := qz 0
  have y1 := qz 1
  clear hb1 h1 qz hbA
  unfold noD
  go_wp2
  obtain ⟨m0, m1, -⟩ := d_cells HWF.out
  refine bodyPost_ret (v := noDf 1) (by simp [noDf, results, Tryz.results8, go_sem, m0, m1]) rfl ?_
  exact ⟨rfl, HBF.out⟩
end Go.Proofs.YtccaknabpnpjaaaGreatDoor.A
