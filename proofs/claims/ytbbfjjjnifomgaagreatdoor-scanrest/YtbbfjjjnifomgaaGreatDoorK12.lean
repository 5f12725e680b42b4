/- The program's Close, Step, Match. -/
import Derived.WalkKit
import Derived.ProofKit
import Derived.Outline
import Derived.BigQuiet
import Derived.Deep.QuietTactic
import Derived.Below
import Derived.Deep.RegionHeld3
import Derived.OpenShut
import Derived.Deep.Slices
import Derived.Deep.Strs
import Derived.Deep.OwnRows
import Derived.Deep.WholeRow
import Derived.Deep.AppendSrc
import Derived.Deep.Heap
import Derived.Laws.AppendOwnNone
import Derived.Test.YtbbfjjjnifomgaaGreatDoorK1
import Derived.Test.YtbbfjjjnifomgaaGreatDoorK4
import Derived.Test.YtbbfjjjnifomgaaGreatDoorK6
import Derived.Test.YtbbfjjjnifomgaaGreatDoorK7
import Derived.Test.YtbbfjjjnifomgaaGreatDoorK8
import Derived.Test.YtbbfjjjnifomgaaGreatDoorK10
import Derived.Test.YtbbfjjjnifomgaaGreatDoorK11
namespace Go.Proofs.YtbbfjjjnifomgaaGreatDoor.A
open Go.RowKit

/-- A machine in memory. -/
structure Nm (w : World) (a0 a1 a2 a3 : Option Addr) (fs : List (List Int)) (ss : List Nat) (ts rs : List Int) : Prop where
  len : ∀ (i : Nat) (l : List Int), fs[i]? = some l → l.length ≤ maxLen
  free : Fs w a0 fs
  set : Sts w a1 ss
  to : Wd w a2 ts
  rule : Wd w a3 rs
theorem nm_below {w w' : World} {a0 a1 a2 a3 : Option Addr} {fs : List (List Int)} {ss : List Nat} {ts rs : List Int} (hb : Below w.heap.size w w') (h : Nm w a0 a1 a2 a3 fs ss ts rs) : Nm w' a0 a1 a2 a3 fs ss ts rs :=
  ⟨h.len, fs_below hb h.free, sts_below hb h.set, wd_below hb h.to, wd_below hb h.rule⟩
/-- A row of one's own, as a slice that can be read. -/
theorem own_slice {w : World} {base : Nat} {v : Value} {l : List Int} (h : w.ownsRow base 3 1 v l.length (l.map (Value.int .i64))) : ∃ a cap, v = .slice a l.length cap ∧ Wd w a l := by
  rcases own_row h with ⟨rfl, rfl⟩ | ⟨b, off, cap, _, rfl, _, hw⟩
  · exact ⟨none, 0, rfl, fun i c hc => by simp at hc⟩
  · exact ⟨_, _, rfl, hw⟩

set_option maxHeartbeats 1600000 in
theorem pclose_yes (a0 a1 a2 a3 : Option Addr) (N c0 c1 c2 c3 : Nat) (fs : List (List Int)) (ss : List Nat) (ts rs : List Int) (a : Option Addr) (len cap : Nat) (zs : List Int) (w : World) (hm : Mach fs ss ts rs N) (hn : Nm w a0 a1 a2 a3 fs ss ts rs) (hz : zs.length = len) (hl : len ≤ maxLen) (hW : Wd w a zs) :
    Calls Tryz.prog 99 #[.agg #[.slice a0 N c0, .slice a1 N c1, .slice a2 N c2, .slice a3 N c3], .slice a len cap] w fun e w' =>
      ∃ g v, IsCl fs N (tblB zs len) g ∧ e = .returned v ∧ w'.ownsRow w.heap.size 3 1 v (lstL g N).length ((lstL g N).map (Value.int .i64)) ∧ Below w.heap.size w w' := by
  have HBX := hide (bx_new w (.slice a0 N c0) (.slice a1 N c1) (.slice a2 N c2) (.slice a3 N c3))
  obtain ⟨p0, p1, p2, p3⟩ := HBX.out
  have hb0 := ((Below.refl w.heap.size w).alloc (Nat.le_refl _) (.cells #[.slice a0 N c0, .slice a1 N c1, .slice a2 N c2, .slice a3 N c3] 97))
  have HN := hide (nm_below hb0 hn)
  have HW := hide (wd_below hb0 hW)
  have HB := hide hb0
  have HZ := hide (show w.heap.size < (w.alloc (.cells #[.slice a0 N c0, .slice a1 N c1, .slice a2 N c2, .slice a3 N c3] 97)).heap.size by simp)
  have HM := hide hm
  have HL := hide hl
  clear hn hb0 hW hm hl
  go_enter Tryz.func99, Tryz.ntmps99
  go_wp2_with fail
  refine (pright_any a0 a1 a2 a3 N N N N c0 c1 c2 c3 fs ss ts rs _ HM.out.lf HM.out.ls HM.out.lt HM.out.lr HN.out.len HN.out.free HN.out.set HN.out.to HN.out.rule).mono ?_
  rintro e w1 ⟨rfl, hb1⟩
  have HB1 := hide (HB.out.trans (hb1.mono HB.out.size))
  have HN1 := hide (nm_below hb1 HN.out)
  have HW1 := hide (wd_below hb1 HW.out)
  obtain ⟨q0, q1, q2, q3⟩ := bx_below hb1 HZ.out HBX.out
  clear hb1 p0 p1 p2 p3 HN HW HBX
  rw [mach_right HM.out]
  go_wp2_with fail
  refine (closed_any a0 N c0 _ _ _ a len cap fs zs w1 (by have := HM.out.most; omega) HM.out.lf HN1.out.len HN1.out.free HM.out.free hz HL.out HW1.out).mono ?_
  rintro e w2 ⟨g, v, hcl, rfl, ho, hb2⟩
  have HC := hide hcl
  have HO := hide (own_low ho HB1.out.size)
  have HB2 := hide (HB1.out.trans (hb2.mono HB1.out.size))
  clear hcl ho hb2 q0 q1 q2 q3
  go_wp2
  go_ret
  exact ⟨g, v, HC.out, rfl, HO.out, HB2.out⟩
set_option maxHeartbeats 1600000 in
theorem pstep_yes (a0 a1 a2 a3 : Option Addr) (N c0 c1 c2 c3 : Nat) (fs : List (List Int)) (ss : List Nat) (ts rs : List Int) (a : Option Addr) (len cap : Nat) (zs : List Int) (c : Int) (w : World) (hm : Mach fs ss ts rs N) (hn : Nm w a0 a1 a2 a3 fs ss ts rs) (hz : zs.length = len) (hl : len ≤ maxLen) (hW : Wd w a zs) :
    Calls Tryz.prog 128 #[.agg #[.slice a0 N c0, .slice a1 N c1, .slice a2 N c2, .slice a3 N c3], .slice a len cap, .int .i64 c] w fun e w' =>
      ∃ v, e = .returned v ∧ w'.ownsRow w.heap.size 3 1 v (lstL (stpB ss ts c (tblB zs len) N) N).length ((lstL (stpB ss ts c (tblB zs len) N) N).map (Value.int .i64)) ∧ Below w.heap.size w w' := by
  have HBX := hide (bx_new w (.slice a0 N c0) (.slice a1 N c1) (.slice a2 N c2) (.slice a3 N c3))
  obtain ⟨p0, p1, p2, p3⟩ := HBX.out
  have hb0 := ((Below.refl w.heap.size w).alloc (Nat.le_refl _) (.cells #[.slice a0 N c0, .slice a1 N c1, .slice a2 N c2, .slice a3 N c3] 97))
  have HN := hide (nm_below hb0 hn)
  have HW := hide (wd_below hb0 hW)
  have HB := hide hb0
  have HZ := hide (show w.heap.size < (w.alloc (.cells #[.slice a0 N c0, .slice a1 N c1, .slice a2 N c2, .slice a3 N c3] 97)).heap.size by simp)
  have HM := hide hm
  have HL := hide hl
  clear hn hb0 hW hm hl
  go_enter Tryz.func128, Tryz.ntmps128
  go_wp2_with fail
  refine (pright_any a0 a1 a2 a3 N N N N c0 c1 c2 c3 fs ss ts rs _ HM.out.lf HM.out.ls HM.out.lt HM.out.lr HN.out.len HN.out.free HN.out.set HN.out.to HN.out.rule).mono ?_
  rintro e w1 ⟨rfl, hb1⟩
  have HB1 := hide (HB.out.trans (hb1.mono HB.out.size))
  have HN1 := hide (nm_below hb1 HN.out)
  have HW1 := hide (wd_below hb1 HW.out)
  obtain ⟨q0, q1, q2, q3⟩ := bx_below hb1 HZ.out HBX.out
  clear hb1 p0 p1 p2 p3 HN HW HBX
  rw [mach_right HM.out]
  go_wp2_with fail
  refine (stepped_any a0 a1 a2 N c0 c1 c2 _ a len cap ss ts zs c w1 (by have := HM.out.most; omega) HM.out.ls HM.out.lt HN1.out.set HN1.out.to HM.out.to hz HL.out HW1.out).mono ?_
  rintro e w2 ⟨v, rfl, ho, hb2⟩
  have HO := hide (own_low ho HB1.out.size)
  have HB2 := hide (HB1.out.trans (hb2.mono HB1.out.size))
  clear ho hb2 q0 q1 q2 q3
  go_wp2
  go_ret
  exact ⟨v, rfl, HO.out, HB2.out⟩

end Go.Proofs.YtbbfjjjnifomgaaGreatDoor.A



/- The program's Match of a machine that may be. -/
namespace Go.Proofs.YtbbfjjjnifomgaaGreatDoor.A
open Go.RowKit

theorem run_zero {fs : List (List Int)} {ss : List Nat} {ts : List Int} {N : Nat} {word : List Int} {g : Nat → Bool} (h : IsCl fs N (tblB [0] 1) g) : IsRun fs ss ts N word 0 g :=
  isCl_congr (fun j _ => by
    rw [Bool.eq_iff_iff]
    simp [tblB]
    constructor
    · intro h; omega
    · intro h; omega) h
end Go.Proofs.YtbbfjjjnifomgaaGreatDoor.A


