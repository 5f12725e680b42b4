/- Contracts of what counts and compares. -/
import Derived.Test.YtebjhcgonplogaaC
namespace Go.Proofs.Ytebjhcgonplogaa.A
open Go.RowKit

set_option maxHeartbeats 800000 in
theorem count_no (x : Option Addr) (len cap : Nat) (zs : List Rg) (w : World) (hl : len ≤ maxLen) (hs : SegR w x len zs) (hr : rightB 9223372036854775807 zs len = false) :
    Calls Try.prog 16 #[.slice x len cap] w fun e w' => e = .returned (.int .i64 0) ∧ Below w.heap.size w w' := by
  have R := hide hr
  clear hr
  go_enter Try.func16, Try.ntmps16
  go_wp2_with fail
  refine (right_any x len cap _ zs _ hl hs).mono ?_
  rintro e w1 ⟨rfl, hb1⟩
  rw [R.out]
  go_wp2
  go_ret
  exact ⟨rfl, hb1⟩

set_option maxHeartbeats 800000 in
theorem count_yes (x : Option Addr) (len cap : Nat) (zs : List Rg) (w : World) (hl : len ≤ 5000) (hs : SegR w x len zs) (hr : Rt 9223372036854775807 zs len) :
    Calls Try.prog 16 #[.slice x len cap] w fun e w' => e = .returned (.int .i64 (cnt zs len)) ∧ Below w.heap.size w w' := by
  have R := hide (right_same hr hl)
  have HR := hide hr
  clear hr
  go_enter Try.func16, Try.ntmps16
  go_wp2_with fail
  refine (right_any x len cap _ zs _ (by unfold maxLen; omega) hs).mono ?_
  rintro e w1 ⟨rfl, hb1⟩
  have hs1 := hs.below hb1
  clear hs
  rw [R.out]
  go_wp2
  go_loopw [3, 5, 11] (fun n _ i wr => ∃ k : Nat, k ≤ len ∧ i = .int .i64 k ∧ n = .int .i64 (cnt zs k) ∧ Below w1.heap.size w1 wr) (fun _ _ i _ => len - (intOf i).toNat)
  case atStart => exact ⟨0, Nat.zero_le _, rfl, rfl, Below.refl _ _⟩
  case round =>
    obtain ⟨k, hk, rfl, rfl, hbel⟩ := hrel
    by_cases hlt : k < len
    · obtain ⟨b, off, rfl, hc⟩ := hs1.leads (by omega)
      obtain ⟨c0, c1, c2⟩ := seg_below hbel (hc k hlt)
      obtain ⟨o1, o2, o3, _, _⟩ := HR.out.1 k hlt
      have cb := cnt_bd k (rt_le HR.out (by omega))
      have CS := hide (show cnt zs (k + 1) = cnt zs k + ((at' zs k).t - (at' zs k).f + 1) from rfl)
      clear hc hs1
      generalize (at' zs k).f = f at *
      generalize (at' zs k).t = t at *
      generalize (at' zs k).v = v at *
      generalize cnt zs k = n at *
      go_wp2
      go_roundw
      case rel => exact ⟨k + 1, by omega, by go_num, by rw [CS.out], hbel.alloc hbel.size _⟩
      case measure => simp [intOf]; omega
    · have e : k = len := by omega
      subst e
      go_wp2
      go_ret
      exact ⟨rfl, hb1.trans (hbel.mono hb1.size)⟩

set_option maxHeartbeats 800000 in
theorem same_any (x y : Option Addr) (len cx cy : Nat) (zs : List Rg) (w : World) (hl : len ≤ 5000) (hx : SegR w x len zs) (hy : SegR w y len zs) :
    Calls Try.prog 17 #[.slice x len cx, .slice y len cy] w fun e w' => e = .returned (.bool true) ∧ Below w.heap.size w w' := by
  have hne : ((len : Int) != (len : Int)) = false := by simp
  go_enter Try.func17, Try.ntmps17
  go_wp2
  go_loopw [5] (fun i wr => ∃ k : Nat, k ≤ len ∧ i = .int .i64 k ∧ Below w.heap.size w wr) (fun i _ => len - (intOf i).toNat)
  case atStart => exact ⟨0, Nat.zero_le _, rfl, Below.refl _ _⟩
  case round =>
    obtain ⟨k, hk, rfl, hbel⟩ := hrel
    by_cases hlt : k < len
    · obtain ⟨b, off, rfl, hc⟩ := hx.leads (by omega)
      obtain ⟨b', off', rfl, hc'⟩ := hy.leads (by omega)
      obtain ⟨c0, c1, c2⟩ := seg_below hbel (hc k hlt)
      obtain ⟨d0, d1, d2⟩ := seg_below hbel (hc' k hlt)
      clear hc hc' hx hy
      generalize (at' zs k).f = f at *
      generalize (at' zs k).t = t at *
      generalize (at' zs k).v = v at *
      go_wp2
      go_quiet (fail)
      go_wp2
      go_roundw
      case rel => exact ⟨k + 1, by omega, by go_num, below_drewN hbel _⟩
      case measure => simp [intOf]; omega
    · go_wp2
      go_ret
      exact ⟨rfl, hbel⟩
end Go.Proofs.Ytebjhcgonplogaa.A
