/- Contracts: whether a code is valid; ranges in memory. -/
import Derived.Test.YtooiomfcemceiaaP
import Derived.WalkKit
import Derived.ProofKit
import Derived.Outline
import Derived.BigQuiet
import Derived.Deep.QuietTactic
import Derived.Below
namespace Go.Proofs.Ytooiomfcemceiaa.A
open Go.RowKit

theorem hide {p : Prop} (h : p) : Hid p := h
theorem below_drewN {B : Nat} {a w : World} (h : Below B a w) (n : Nat) : Below B a (w.drewN n) := ⟨h.os, h.tape, h.output, h.size, h.block⟩
theorem ret_int {k : IntKind} {a b : Int} (h : a = b) : Ending.returned (.int k a) = .returned (.int k b) := by rw [h]
theorem ret_bool {a b : Bool} (h : a = b) : Ending.returned (.bool a) = .returned (.bool b) := by rw [h]

def validB (c : Int) : Bool := decide ((0 ≤ c ∧ c < 55296) ∨ (57343 < c ∧ c < 1114112))

set_option maxHeartbeats 400000 in
theorem valid_any (c : Int) (w : World) :
    Calls Try.prog 18 #[.int .i32 c] w fun e w' => e = .returned (.bool (validB c)) ∧ w' = w := by
  go_enter Try.func18, Try.ntmps18
  go_wp2
  all_goals go_ret
  all_goals refine ⟨ret_bool ?_, rfl⟩
  all_goals
    unfold validB
    rw [Bool.eq_iff_iff]
    simp
    try omega

set_option maxHeartbeats 400000 in
theorem rvalid_any (c : Int) (w : World) :
    Calls Try.prog 25 #[.int .i32 c] w fun e w' => e = .returned (.bool (validB c)) ∧ w' = w := by
  go_enter Try.func25, Try.ntmps25
  go_wp2
  all_goals go_ret
  all_goals refine ⟨ret_bool ?_, rfl⟩
  all_goals
    unfold validB
    rw [Bool.eq_iff_iff]
    simp
    try omega

/-- Ranges that stand in memory at a slice. -/
def SegR (w : World) (x : Option Addr) (len : Nat) (zs : List Rg) : Prop :=
  zs.length = len ∧ (len = 0 ∨ ∃ b off, x = some ⟨b, off, none⟩ ∧ ∀ i, i < len → w.cell? ⟨b, off + i * 3, none⟩ = some (.int .i32 (at' zs i).f) ∧ w.cell? ⟨b, off + i * 3 + 1, none⟩ = some (.int .i32 (at' zs i).t) ∧ w.cell? ⟨b, off + i * 3 + 2, none⟩ = some (.int .i64 (at' zs i).v))

theorem cell_lt {w : World} {a : Addr} {v : Value} (h : w.cell? a = some v) : a.block < w.heap.size := by
  rcases Nat.lt_or_ge a.block w.heap.size with h' | h'
  · exact h'
  · simp [World.cell?, Array.getElem?_eq_none h'] at h
theorem seg_below {w w' : World} {b o : Nat} {u0 u1 u2 : Value} (hb : Below w.heap.size w w') (h : w.cell? ⟨b, o, none⟩ = some u0 ∧ w.cell? ⟨b, o + 1, none⟩ = some u1 ∧ w.cell? ⟨b, o + 2, none⟩ = some u2) :
    w'.cell? ⟨b, o, none⟩ = some u0 ∧ w'.cell? ⟨b, o + 1, none⟩ = some u1 ∧ w'.cell? ⟨b, o + 2, none⟩ = some u2 :=
  ⟨(hb.cell (p := ⟨b, o, none⟩) (cell_lt h.1)).trans h.1, (hb.cell (p := ⟨b, o + 1, none⟩) (cell_lt h.2.1)).trans h.2.1, (hb.cell (p := ⟨b, o + 2, none⟩) (cell_lt h.2.2)).trans h.2.2⟩
theorem SegR.leads {w : World} {x : Option Addr} {len : Nat} {zs : List Rg} (h : SegR w x len zs) (h0 : len ≠ 0) :
    ∃ b off, x = some ⟨b, off, none⟩ ∧ ∀ i, i < len → w.cell? ⟨b, off + i * 3, none⟩ = some (.int .i32 (at' zs i).f) ∧ w.cell? ⟨b, off + i * 3 + 1, none⟩ = some (.int .i32 (at' zs i).t) ∧ w.cell? ⟨b, off + i * 3 + 2, none⟩ = some (.int .i64 (at' zs i).v) := by
  rcases h.2 with h | h
  · exact absurd h h0
  · exact h
theorem SegR.below {w w' : World} {x : Option Addr} {len : Nat} {zs : List Rg} (h : SegR w x len zs) (hb : Below w.heap.size w w') : SegR w' x len zs := by
  obtain ⟨hz, hx⟩ := h
  refine ⟨hz, ?_⟩
  rcases hx with h | ⟨b, off, rfl, hc⟩
  · exact .inl h
  · exact .inr ⟨b, off, rfl, fun i hi => seg_below hb (hc i hi)⟩

set_option maxHeartbeats 400000 in
theorem clo_any (b off len cap i p q : Nat) (t c : Int) (w : World) (hi : i < len) (hp : w.cell? ⟨p, 0, none⟩ = some (.slice (some ⟨b, off, none⟩) len cap)) (hq : w.cell? ⟨q, 0, none⟩ = some (.int .i32 c))
    (ht : w.cell? ⟨b, off + i * 3 + 1, none⟩ = some (.int .i32 t)) :
    Calls Try.prog 29 #[.int .i64 i, .pointer (some ⟨p, 0, none⟩), .pointer (some ⟨q, 0, none⟩)] w fun e w' => e = .returned (.bool (decide (c ≤ t))) ∧ Below w.heap.size w w' := by
  go_enter Try.func29, Try.ntmps29
  go_wp2
  go_quiet (fail)
  go_wp2
  go_ret
  exact ⟨rfl, below_drewN (Below.refl _ _) _⟩

/-- Does a range go on in another? -/
def goesB (a b : Rg) : Bool := decide (b.f = a.t + 1 ∧ b.v = a.v)

set_option maxHeartbeats 400000 in
theorem goes_any (a b : Rg) (w : World) (h0 : 0 ≤ a.t) (h1 : a.t ≤ 1114111) :
    Calls Try.prog 30 #[.agg #[.int .i32 a.f, .int .i32 a.t, .int .i64 a.v], .agg #[.int .i32 b.f, .int .i32 b.t, .int .i64 b.v]] w fun e w' => e = .returned (.bool (goesB a b)) ∧ Below w.heap.size w w' := by
  obtain ⟨af, at1, av⟩ := a
  obtain ⟨bf, bt, bv⟩ := b
  simp only at h0 h1
  go_enter Try.func30, Try.ntmps30
  go_wp2
  all_goals go_ret
  all_goals refine ⟨ret_bool ?_, ((Below.refl w.heap.size w).alloc (Nat.le_refl _) _).alloc (by simp) _⟩
  · rename_i h
    unfold goesB
    rw [Bool.eq_iff_iff]
    simp [h]
  · rename_i h
    unfold goesB
    simp [h]

set_option maxHeartbeats 800000 in
theorem right_any (x : Option Addr) (len cap : Nat) (m : Int) (zs : List Rg) (w : World) (hl : len ≤ maxLen) (hs : SegR w x len zs) :
    Calls Try.prog 16 #[.slice x len cap, .int .i64 m] w fun e w' => e = .returned (.bool (rightB m zs len)) ∧ Below w.heap.size w w' := by
  unfold maxLen at hl
  by_cases h5 : len ≤ 5000
  · go_enter Try.func16, Try.ntmps16
    go_wp2
    go_loopw [5, 7, 13] (fun u _ i wr => ∃ k : Nat, k ≤ len ∧ i = .int .i64 k ∧ u = .int .i32 (lastT zs k) ∧ Rt m zs k ∧ Below w.heap.size w wr) (fun _ _ i _ => len - (intOf i).toNat)
    case atStart => exact ⟨0, Nat.zero_le _, rfl, rfl, rt_zero _ _, Below.refl _ _⟩
    case round =>
      obtain ⟨k, hk, rfl, rfl, hrt, hbel⟩ := hrel
      by_cases hlt : k < len
      · obtain ⟨b, off, rfl, hc⟩ := hs.leads (by omega)
        obtain ⟨c0, c1, c2⟩ := seg_below hbel (hc k hlt)
        have HN := hide (@right_no m zs len k hlt)
        have HO := hide (@right_ok m zs k hrt)
        have HT := hide (show (at' zs k).t = lastT zs (k + 1) from by unfold lastT; simp)
        have hge : -1 ≤ lastT zs k := by
          unfold lastT
          split
          · omega
          · obtain ⟨_, _, _, _, _⟩ := hrt.1 (k - 1) (by omega); omega
        clear hc hs hrt
        unfold okB at HN HO
        generalize (at' zs k).f = f at *
        generalize (at' zs k).t = t at *
        generalize (at' zs k).v = v at *
        generalize lastT zs k = u at *
        go_wp2
        all_goals first
          | (go_ret
             refine ⟨ret_bool (HN.out ?_).symm, hbel.alloc hbel.size _⟩
             rw [decide_eq_false_iff_not]
             omega)
          | (go_roundw
             case rel => exact ⟨k + 1, by omega, by go_num, by rw [HT.out], HO.out (by rw [decide_eq_true_iff]; omega), hbel.alloc hbel.size _⟩
             case measure => simp [intOf]; omega)
      · have e : k = len := by omega
        subst e
        have E := hide (right_same hrt h5)
        go_wp2
        go_ret
        exact ⟨ret_bool E.out.symm, hbel⟩
  · have E := hide (right_far (m := m) (l := zs) h5)
    go_enter Try.func16, Try.ntmps16
    go_wp2
    go_ret
    exact ⟨ret_bool E.out.symm, Below.refl _ _⟩
end Go.Proofs.Ytooiomfcemceiaa.A
