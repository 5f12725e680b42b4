/- Contracts of what puts a number's bytes. -/
import Derived.Test.YtpniapegamobmaaB
import Derived.Deep.OwnRows
namespace Go.Proofs.Ytpniapegamobmaa.A
open Go.RowKit

theorem info5 : (Try.prog.info? 5).map (fun i => (i.zero, i.size, i.bytes)) = some (some (.int .u8 0), 1, 1) := by kernel_rfl
theorem info3 : (Try.prog.info? 3).map (fun i => (i.zero, i.size, i.bytes)) = some (some (.int .i64 0), 1, 8) := by kernel_rfl

/-- Byte k of a number, 0 being the lowest. -/
def lowB (n : Int) (k : Nat) : Int := n / 256 ^ k % 256
theorem lowB_two (n : Int) (k : Nat) : lowB n k = n / 2 ^ (8 * k) % 256 := by
  unfold lowB
  rw [Int.pow_mul]
  rfl
theorem lowB_byte (n : Int) (k : Nat) : 0 ≤ lowB n k ∧ lowB n k ≤ 255 := by unfold lowB; omega
theorem row_step {w : World} {b s k : Nat} {f : Nat → Value} {z : Value} (h : w.rowIs b 5 s (fun j => if j < k then f j else z)) :
    (w.setCell ⟨b, k, none⟩ (f k)).rowIs b 5 s (fun j => if j < k + 1 then f j else z) := by
  refine (h.set k (f k)).congr fun i _ => ?_
  by_cases e : i = k
  · subst e; simp
  · by_cases e2 : i < k
    · simp [e, e2, show i < k + 1 by omega]
    · simp [e, e2, show ¬ i < k + 1 by omega]

set_option maxHeartbeats 400000 in
theorem put1_any (n : Int) (s i : Nat) (p q : Nat) (w : World) (hs : s ≤ 8) (hi : i < s)
    (hp : w.cell? ⟨p, 0, none⟩ = some (.int .i64 n)) (hq : w.cell? ⟨q, 0, none⟩ = some (.int .i64 s)) :
    Calls Try.prog 37 #[.int .i64 i, .pointer (some ⟨p, 0, none⟩), .pointer (some ⟨q, 0, none⟩)] w fun e w' => e = .returned (.int .u8 (lowB n (s - 1 - i))) ∧ w' = w := by
  go_enter Try.func37, Try.ntmps37
  go_wp2
  go_ret
  exact ⟨ret_int (lowB_two n _).symm, rfl⟩

set_option maxHeartbeats 400000 in
theorem gatherB_any (n : Int) (s : Nat) (p q : Nat) (w : World) (hs : s ≤ 8) (hp0 : p < w.heap.size) (hq0 : q < w.heap.size)
    (hp : w.cell? ⟨p, 0, none⟩ = some (.int .i64 n)) (hq : w.cell? ⟨q, 0, none⟩ = some (.int .i64 s)) :
    Calls Try.prog 36 #[.int .i64 s, .func (.func 37) #[] #[.pointer (some ⟨p, 0, none⟩), .pointer (some ⟨q, 0, none⟩)]] w fun e w' =>
      e = .returned (.slice (some ⟨w.heap.size, 0, none⟩) s s) ∧ w'.rowIs w.heap.size 5 s (fun i => .int .u8 (lowB n (s - 1 - i))) ∧ Below w.heap.size w w' := by
  have hmk := run_make_row' (P := Try.prog) 26 5 (.int .u8 0) 1 Try.underlying26 info5 rfl .i64 .i64 s (by omega) (by omega)
  go_enter Try.func36, Try.ntmps36
  go_wp2
  go_loopw [11] (fun i wr => ∃ k : Nat, k ≤ s ∧ i = .int .i64 k ∧ wr.rowIs w.heap.size 5 s (fun j => if j < k then .int .u8 (lowB n (s - 1 - j)) else .int .u8 0) ∧ Below w.heap.size w wr) (fun i _ => s - (intOf i).toNat)
  case atStart => 
    refine ⟨0, Nat.zero_le _, rfl, ?_, (Below.refl _ _).alloc (Nat.le_refl _) _⟩
    simpa using World.rowIs_made w (.int .u8 0) s 5
  case round =>
    obtain ⟨k, hk, rfl, hrow, hbel⟩ := hrel
    by_cases hlt : k < s
    · have hp' : wr.cell? ⟨p, 0, none⟩ = some (.int .i64 n) := (hbel.cell (by exact hp0)).trans hp
      have hq' : wr.cell? ⟨q, 0, none⟩ = some (.int .i64 s) := (hbel.cell (by exact hq0)).trans hq
      have hc : wr.cell? ⟨w.heap.size, k, none⟩ = some (.int .u8 0) := by simpa using hrow.cell hlt
      have hf := hrow.frozen k
      go_wp2_with (go_at_call 37; refine (put1_any n s k p q _ hs hlt hp' hq').mono ?_; rintro e w' ⟨rfl, rfl⟩)
      go_roundw
      case rel => exact ⟨k + 1, by omega, by go_num, row_step (f := fun j => .int .u8 (lowB n (s - 1 - j))) hrow, hbel.setCell (Nat.le_refl _) _⟩
      case measure => simp [intOf]; omega
    · go_wp2
      go_ret
      exact ⟨rfl, hrow.congr fun i hi => by simp [show i < k by omega], hbel⟩

set_option maxHeartbeats 400000 in
theorem put_in (n : Int) (s : Nat) (w : World) (hs : s ≤ 8) :
    Calls Try.prog 27 #[.int .i64 n, .int .i64 s] w fun e w' =>
      e = .returned (.slice (some ⟨w.heap.size + 2, 0, none⟩) s s) ∧ w'.rowIs (w.heap.size + 2) 5 s (fun i => .int .u8 (lowB n (s - 1 - i))) ∧ Below w.heap.size w w' := by
  have hmf : ∀ (fn : Fn) (first cap : Array Value) (w : World), (Instr.makeFunc fn first cap).run Try.prog w = .ok (.func fn first cap) w := fun _ _ _ _ => rfl
  go_enter Try.func27, Try.ntmps27
  go_wp2_with fail
  have c := gatherB_any n s w.heap.size (w.heap.size + 1) ((w.alloc (.cells #[.int .i64 n] 3)).alloc (.cells #[.int .i64 s] 3)) hs (by simp; omega) (by simp) (by simp) (by simp)
  have hsz : ((w.alloc (.cells #[.int .i64 n] 3)).alloc (.cells #[.int .i64 s] 3)).heap.size = w.heap.size + 2 := by simp
  rw [hsz] at c
  refine c.mono ?_
  rintro e w1 ⟨rfl, hrow, hb⟩
  clear c
  go_wp2
  go_ret
  exact ⟨rfl, hrow, (((Below.refl w.heap.size w).alloc (Nat.le_refl _) _).alloc (by simp) _).trans (hb.mono (by omega))⟩

set_option maxHeartbeats 400000 in
theorem put_out (n s : Int) (w : World) (hs : s < 0 ∨ 8 < s) :
    Calls Try.prog 27 #[.int .i64 n, .int .i64 s] w fun e w' => e = .returned (.slice none 0 0) ∧ Below w.heap.size w w' := by
  rcases hs with hs | hs
  · go_enter Try.func27, Try.ntmps27
    go_wp2
    go_ret
    exact ⟨rfl, ((Below.refl w.heap.size w).alloc (Nat.le_refl _) _).alloc (by simp) _⟩
  · have hs2 : ¬ s < 0 := by omega
    go_enter Try.func27, Try.ntmps27
    go_wp2
    go_ret
    exact ⟨rfl, ((Below.refl w.heap.size w).alloc (Nat.le_refl _) _).alloc (by simp) _⟩
end Go.Proofs.Ytpniapegamobmaa.A
