/- Contracts of rows of numbers. -/
import Derived.Test.YtpniapegamobmaaH
namespace Go.Proofs.Ytpniapegamobmaa.A
open Go.RowKit

/-- Do n numbers of a size stand at a place? -/
def rowB (len : Nat) (a n s : Int) : Bool := decide ((s = 1 ∨ s = 2 ∨ s = 4) ∧ 0 ≤ n ∧ 0 ≤ a ∧ a + n * s ≤ (len : Int))

theorem rowB_size {len : Nat} {a n s : Int} (h : ¬ (s = 1 ∨ s = 2 ∨ s = 4)) : rowB len a n s = false := by
  unfold rowB; rw [decide_eq_false_iff_not]; exact fun k => h k.1
theorem rowB_neg {len : Nat} {a n s : Int} (h : n < 0) : rowB len a n s = false := by
  unfold rowB; rw [decide_eq_false_iff_not]; omega
theorem rowB_in {len : Nat} {a n s : Int} (h : s = 1 ∨ s = 2 ∨ s = 4) (h0 : 0 ≤ n) : rowB len a n s = inB len a (n * s) := by
  unfold rowB inB
  rw [decide_eq_decide]
  rcases h with rfl | rfl | rfl <;> omega
theorem rowB_big {len : Nat} {a n s : Int} (h : s = 1 ∨ s = 2 ∨ s = 4) (hn : (len : Int) / s < n) : rowB len a n s = false := by
  unfold rowB; rw [decide_eq_false_iff_not]
  rcases h with rfl | rfl | rfl <;> omega

set_option maxHeartbeats 1600000 in
theorem rowWithin_any (x : Option Addr) (len cap : Nat) (a n s : Int) (w : World) (hl : len ≤ 5000) :
    Calls Try.prog 32 #[.slice x len cap, .int .i64 a, .int .i64 n, .int .i64 s] w fun e w' => e = .returned (.bool (rowB len a n s)) ∧ w' = w := by
  by_cases hsz : s = 1 ∨ s = 2 ∨ s = 4
  · by_cases h0 : 0 ≤ n
    · by_cases hn : n ≤ (len : Int) / s
      · have HI := hide (rowB_in (len := len) (a := a) hsz h0)
        rcases hsz with rfl | rfl | rfl
        · rw [Int.mul_one] at HI
          rw [Int.ediv_one] at hn
          go_enter Try.func32, Try.ntmps32
          go_wp2_with (go_at_call 15; refine (within_any _ _ _ _ _ _ (by unfold maxLen; omega) (by omega)).mono ?_; rintro e w' ⟨rfl, rfl⟩)
          go_ret
          exact ⟨ret_bool HI.out.symm, rfl⟩
        · go_enter Try.func32, Try.ntmps32
          go_wp2_with (go_at_call 15; refine (within_any _ _ _ _ _ _ (by unfold maxLen; omega) (by omega)).mono ?_; rintro e w' ⟨rfl, rfl⟩)
          go_ret
          exact ⟨ret_bool HI.out.symm, rfl⟩
        · go_enter Try.func32, Try.ntmps32
          go_wp2_with (go_at_call 15; refine (within_any _ _ _ _ _ _ (by unfold maxLen; omega) (by omega)).mono ?_; rintro e w' ⟨rfl, rfl⟩)
          go_ret
          exact ⟨ret_bool HI.out.symm, rfl⟩
      · have HI := hide (rowB_big (len := len) (a := a) hsz (by omega : (len : Int) / s < n))
        rcases hsz with rfl | rfl | rfl
        all_goals
          go_enter Try.func32, Try.ntmps32
          go_wp2_with fail
          go_ret
          exact ⟨ret_bool HI.out.symm, rfl⟩
    · have HI := hide (rowB_neg (len := len) (a := a) (s := s) (by omega : n < 0))
      rcases hsz with rfl | rfl | rfl
      all_goals
        go_enter Try.func32, Try.ntmps32
        go_wp2_with fail
        go_ret
        exact ⟨ret_bool HI.out.symm, rfl⟩
  · have HI := hide (rowB_size (len := len) (a := a) (n := n) hsz)
    have s1 : (s == 1) = false := beq_eq_false_iff_ne.2 (by omega)
    have s2 : (s == 2) = false := beq_eq_false_iff_ne.2 (by omega)
    have s4 : (s == 4) = false := beq_eq_false_iff_ne.2 (by omega)
    clear hsz
    go_enter Try.func32, Try.ntmps32
    go_wp2_with fail
    go_ret
    exact ⟨ret_bool HI.out.symm, rfl⟩

theorem rowB_yes {len p n s : Nat} (h : s = 1 ∨ s = 2 ∨ s = 4) (hin : p + n * s ≤ len) : rowB len p n s = true := by
  unfold rowB
  rw [decide_eq_true_iff]
  rcases h with rfl | rfl | rfl <;> omega

/-- The number i of a row. -/
def rowN (zs : List Int) (p s i : Nat) : Int := num ((zs.drop (p + i * s)).take s)

set_option maxHeartbeats 800000 in
theorem row1_any (b off len cap p s i : Nat) (zs : List Int) (qa qs qb : Nat) (w : World) (hs : s = 1 ∨ s = 2 ∨ s = 4) (hl : len ≤ 5000) (hcap : len ≤ cap) (hz : zs.length = len) (hb : Byt zs) (hin : p + i * s + s ≤ len)
    (hc : ∀ i, i < len → w.cell? ⟨b, off + i, none⟩ = some (.int .u8 (zs.getD i 0)))
    (ha : w.cell? ⟨qa, 0, none⟩ = some (.int .i64 p)) (hsz : w.cell? ⟨qs, 0, none⟩ = some (.int .i64 s)) (hbx : w.cell? ⟨qb, 0, none⟩ = some (.slice (some ⟨b, off, none⟩) len cap)) :
    Calls Try.prog 34 #[.int .i64 i, .pointer (some ⟨qa, 0, none⟩), .pointer (some ⟨qs, 0, none⟩), .pointer (some ⟨qb, 0, none⟩)] w fun e w' => e = .returned (.int .i64 (rowN zs p s i)) ∧ w' = w := by
  have HC := hide (cells_cut hz hc (p + i * s) s (by omega))
  have HB := hide (byt_cut hb (p + i * s) s)
  have HL := hide (show ((zs.drop (p + i * s)).take s).length = s by simp; omega)
  have HN := hide (show rowN zs p s i = num ((zs.drop (p + i * s)).take s) from rfl)
  clear hc hb
  generalize (zs.drop (p + i * s)).take s = ys at *
  rcases hs with rfl | rfl | rfl
  · rw [Nat.mul_one] at HC hin
    go_enter Try.func34, Try.ntmps34
    go_wp2_with fail
    refine (number_any _ _ _ _ ys _ HL.out (by omega) HC.out HB.out).mono ?_
    rintro e w' ⟨rfl, rfl⟩
    go_wp2_with fail
    go_ret
    exact ⟨ret_int HN.out.symm, rfl⟩
  · go_enter Try.func34, Try.ntmps34
    go_wp2_with fail
    refine (number_any _ _ _ _ ys _ HL.out (by omega) HC.out HB.out).mono ?_
    rintro e w' ⟨rfl, rfl⟩
    go_wp2_with fail
    go_ret
    exact ⟨ret_int HN.out.symm, rfl⟩
  · go_enter Try.func34, Try.ntmps34
    go_wp2_with fail
    refine (number_any _ _ _ _ ys _ HL.out (by omega) HC.out HB.out).mono ?_
    rintro e w' ⟨rfl, rfl⟩
    go_wp2_with fail
    go_ret
    exact ⟨ret_int HN.out.symm, rfl⟩

theorem row_step' {w : World} {b s k : Nat} {t : TypeId} {f : Nat → Value} {z : Value} (h : w.rowIs b t s (fun j => if j < k then f j else z)) :
    (w.setCell ⟨b, k, none⟩ (f k)).rowIs b t s (fun j => if j < k + 1 then f j else z) := by
  refine (h.set k (f k)).congr fun i _ => ?_
  by_cases e : i = k
  · subst e; simp
  · by_cases e2 : i < k
    · simp [e, e2, show i < k + 1 by omega]
    · simp [e, e2, show ¬ i < k + 1 by omega]

set_option maxHeartbeats 800000 in
theorem gatherI_any (x : Option Addr) (len cap p s n : Nat) (zs : List Int) (qa qs qb : Nat) (w : World) (hsz : s = 1 ∨ s = 2 ∨ s = 4) (hl : len ≤ 5000) (hcap : len ≤ cap) (hs : Seg w x len zs) (hin : p + n * s ≤ len)
    (ha0 : qa < w.heap.size) (hs0 : qs < w.heap.size) (hb0 : qb < w.heap.size)
    (ha : w.cell? ⟨qa, 0, none⟩ = some (.int .i64 p)) (hq : w.cell? ⟨qs, 0, none⟩ = some (.int .i64 s)) (hbx : w.cell? ⟨qb, 0, none⟩ = some (.slice x len cap)) :
    Calls Try.prog 33 #[.int .i64 n, .func (.func 34) #[] #[.pointer (some ⟨qa, 0, none⟩), .pointer (some ⟨qs, 0, none⟩), .pointer (some ⟨qb, 0, none⟩)]] w fun e w' =>
      e = .returned (.slice (some ⟨w.heap.size, 0, none⟩) n n) ∧ w'.rowIs w.heap.size 3 n (fun i => .int .i64 (rowN zs p s i)) ∧ Below w.heap.size w w' := by
  have hn : n ≤ 5000 := by rcases hsz with rfl | rfl | rfl <;> omega
  have hin2 : ∀ k, k < n → p + k * s + s ≤ len := by intro k hk; rcases hsz with rfl | rfl | rfl <;> omega
  have HI := hide hin2
  clear hin2 hin
  have hmk := run_make_row' (P := Try.prog) 34 3 (.int .i64 0) 8 Try.underlying34 info3 rfl .i64 .i64 n (by omega) (by omega)
  go_enter Try.func33, Try.ntmps33
  go_wp2
  go_loopw [11] (fun i wr => ∃ k : Nat, k ≤ n ∧ i = .int .i64 k ∧ wr.rowIs w.heap.size 3 n (fun j => if j < k then .int .i64 (rowN zs p s j) else .int .i64 0) ∧ Below w.heap.size w wr) (fun i _ => n - (intOf i).toNat)
  case atStart => 
    refine ⟨0, Nat.zero_le _, rfl, ?_, (Below.refl _ _).alloc (Nat.le_refl _) _⟩
    simpa using World.rowIs_made w (.int .i64 0) n 3
  case round =>
    obtain ⟨k, hk, rfl, hrow, hbel⟩ := hrel
    by_cases hlt : k < n
    · have ha' : wr.cell? ⟨qa, 0, none⟩ = some (.int .i64 p) := (hbel.cell (by exact ha0)).trans ha
      have hq' : wr.cell? ⟨qs, 0, none⟩ = some (.int .i64 s) := (hbel.cell (by exact hs0)).trans hq
      have hx' : wr.cell? ⟨qb, 0, none⟩ = some (.slice x len cap) := (hbel.cell (by exact hb0)).trans hbx
      have hc : wr.cell? ⟨w.heap.size, k, none⟩ = some (.int .i64 0) := by simpa using hrow.cell hlt
      have hf := hrow.frozen k
      obtain ⟨hz, hby, hxx⟩ := hs.below hbel
      have hinK := HI.out k hlt
      rcases hxx with h | ⟨b, off, rfl, hcc⟩
      · exfalso; rcases hsz with h' | h' | h' <;> omega
      have HC := hide hcc
      clear hcc ha hq hbx hs hmk
      go_wp2_with (go_at_call 34; refine (row1_any b off len cap p s k zs qa qs qb _ hsz hl hcap hz hby hinK HC.out ha' hq' hx').mono ?_; rintro e w' ⟨rfl, rfl⟩)
      go_roundw
      case rel => exact ⟨k + 1, by omega, by go_num, row_step' (f := fun j => .int .i64 (rowN zs p s j)) hrow, hbel.setCell (Nat.le_refl _) _⟩
      case measure => simp [intOf]; omega
    · go_wp2
      go_ret
      exact ⟨rfl, hrow.congr fun i hi => by simp [show i < k by omega], hbel⟩

set_option maxHeartbeats 800000 in
theorem row_no (x : Option Addr) (len cap : Nat) (a n s : Int) (w : World) (hl : len ≤ 5000) (h : rowB len a n s = false) :
    Calls Try.prog 23 #[.slice x len cap, .int .i64 a, .int .i64 n, .int .i64 s] w fun e w' => e = .returned (.tuple #[.slice none 0 0, .bool false]) ∧ Below w.heap.size w w' := by
  have HI := hide h
  clear h
  go_enter Try.func23, Try.ntmps23
  go_wp2_with (go_at_call 32; refine (rowWithin_any _ _ _ _ _ _ _ hl).mono ?_; rintro e w' ⟨rfl, rfl⟩; rw [HI.out])
  go_ret2
  exact ⟨rfl, (((Below.refl w.heap.size w).alloc (Nat.le_refl _) _).alloc (by simp) _).alloc (by simp; omega) _⟩

theorem cell_at (w : World) (v : Value) (t : TypeId) : (w.alloc (.cells #[v] t)).cell? ⟨w.heap.size, 0, none⟩ = some v := by
  have : (w.alloc (.cells #[v] t)).heap[w.heap.size]? = some (.cells #[v] t) := by
    show (w.heap.push _)[w.heap.size]? = _
    simp
  unfold World.cell?
  rw [this]
  rfl
theorem cell_past (w : World) (o : Obj) {a : Addr} {v : Value} (h : w.cell? a = some v) : (w.alloc o).cell? a = some v := by
  rw [← h]
  exact ((Below.refl w.heap.size w).alloc (Nat.le_refl _) o).cell (cell_lt h)
theorem k1 (w : World) (u v z : Value) : (((w.alloc (.cells #[u] 26)).alloc (.cells #[v] 3)).alloc (.cells #[z] 3)).cell? ⟨w.heap.size, 0, none⟩ = some u :=
  cell_past _ _ (cell_past _ _ (cell_at w u 26))
theorem k2 (w : World) (u v z : Value) : (((w.alloc (.cells #[u] 26)).alloc (.cells #[v] 3)).alloc (.cells #[z] 3)).cell? ⟨w.heap.size + 1, 0, none⟩ = some v := by
  have h := cell_at (w.alloc (.cells #[u] 26)) v 3
  have e : (w.alloc (.cells #[u] 26)).heap.size = w.heap.size + 1 := by simp
  rw [e] at h
  exact cell_past _ _ h
theorem k3 (w : World) (u v z : Value) : (((w.alloc (.cells #[u] 26)).alloc (.cells #[v] 3)).alloc (.cells #[z] 3)).cell? ⟨w.heap.size + 1 + 1, 0, none⟩ = some z := by
  have h := cell_at ((w.alloc (.cells #[u] 26)).alloc (.cells #[v] 3)) z 3
  have e : ((w.alloc (.cells #[u] 26)).alloc (.cells #[v] 3)).heap.size = w.heap.size + 1 + 1 := by simp
  rw [e] at h
  exact h

set_option maxHeartbeats 800000 in
theorem row_yes (x : Option Addr) (len cap p n s : Nat) (zs : List Int) (w : World) (hl : len ≤ 5000) (hcap : len ≤ cap) (hs : Seg w x len zs) (hsz : s = 1 ∨ s = 2 ∨ s = 4) (hin : p + n * s ≤ len) (h : rowB len p n s = true) :
    Calls Try.prog 23 #[.slice x len cap, .int .i64 p, .int .i64 n, .int .i64 s] w fun e w' =>
      e = .returned (.tuple #[.slice (some ⟨w.heap.size + 3, 0, none⟩) n n, .bool true]) ∧ w'.rowIs (w.heap.size + 3) 3 n (fun i => .int .i64 (rowN zs p s i)) ∧ Below w.heap.size w w' := by
  have hmf : ∀ (fn : Fn) (first cap : Array Value) (w : World), (Instr.makeFunc fn first cap).run Try.prog w = .ok (.func fn first cap) w := fun _ _ _ _ => rfl
  have HI := hide h
  have HN := hide hin
  clear h hin
  go_enter Try.func23, Try.ntmps23
  go_wp2_with (go_at_call 32; refine (rowWithin_any _ _ _ _ _ _ _ hl).mono ?_; rintro e w' ⟨rfl, rfl⟩; rw [HI.out])
  have hbw : Below w.heap.size w (((w.alloc (.cells #[.slice x len cap] 26)).alloc (.cells #[.int .i64 p] 3)).alloc (.cells #[.int .i64 s] 3)) :=
    (((Below.refl w.heap.size w).alloc (Nat.le_refl _) _).alloc (by simp) _).alloc (by simp; omega) _
  have hsw := hs.below hbw
  have hz : (((w.alloc (.cells #[.slice x len cap] 26)).alloc (.cells #[.int .i64 p] 3)).alloc (.cells #[.int .i64 s] 3)).heap.size = w.heap.size + 3 := by simp
  have c := gatherI_any x len cap p s n zs (w.heap.size + 1) (w.heap.size + 1 + 1) w.heap.size (((w.alloc (.cells #[.slice x len cap] 26)).alloc (.cells #[.int .i64 p] 3)).alloc (.cells #[.int .i64 s] 3)) hsz hl hcap hsw HN.out (by omega) (by omega) (by omega) (k2 _ _ _ _) (k3 _ _ _ _) (k1 _ _ _ _)
  rw [hz] at c
  refine c.mono ?_
  rintro e w1 ⟨rfl, hrow, hb⟩
  clear c hsw hz
  go_wp2
  go_ret2
  exact ⟨rfl, hrow, hbw.trans (hb.mono (by omega))⟩
end Go.Proofs.Ytpniapegamobmaa.A
