/- Contract of the document's joining. -/
import Derived.Test.YtebjhcgonplogaaF
import Derived.Deep.RegionHeld3
import Derived.Deep.AppendLies
namespace Go.Proofs.Ytebjhcgonplogaa.A
open Go.RowKit

/-- A range that doesn't go on the one ahead. -/
def Brk (l : List Rg) (i : Nat) : Prop := i = 0 ∨ ¬ ((at' l i).f = (at' l (i - 1)).t + 1 ∧ (at' l i).v = (at' l (i - 1)).v)
/-- The ranges from i to j are one. -/
def Grp (l : List Rg) (i j : Nat) : Prop := joined l (j + 1) = joined l i ++ [⟨(at' l i).f, (at' l j).t, (at' l i).v⟩]
theorem grp_start {l : List Rg} {i : Nat} (h : Brk l i) : Grp l i i := by
  show push (joined l i) (at' l i) = _
  rw [push_stays]
  rintro ⟨h0, h1, h2⟩
  have hp : 0 < i := by
    rcases Nat.eq_zero_or_pos i with e | e
    · subst e; simp [joined] at h0
    · exact e
  have hl := joined_last l i hp
  rw [hl.1] at h1
  rw [hl.2] at h2
  rcases h with h | h
  · omega
  · exact h ⟨h1, h2⟩
theorem grp_step {l : List Rg} {i j : Nat} (h : Grp l i j) (h1 : (at' l (j + 1)).v = (at' l i).v) (h2 : (at' l (j + 1)).f - (at' l j).t = 1) : Grp l i (j + 1) := by
  show push (joined l (j + 1)) (at' l (j + 1)) = _
  rw [h]
  have e : at' (joined l i ++ [⟨(at' l i).f, (at' l j).t, (at' l i).v⟩]) (joined l i).length = ⟨(at' l i).f, (at' l j).t, (at' l i).v⟩ := at_snoc _ _ _ rfl
  have hl : (joined l i ++ [(⟨(at' l i).f, (at' l j).t, (at' l i).v⟩ : Rg)]).length - 1 = (joined l i).length := by simp
  rw [push_goes (by simp) (by rw [hl, e]; show _ = (at' l j).t + 1; omega) (by rw [hl, e]; exact h1), hl, e]
  simp
theorem grp_stop {l : List Rg} {i j : Nat} (h : Grp l i j) (h1 : ¬ ((at' l (j + 1)).v = (at' l i).v ∧ (at' l (j + 1)).f - (at' l j).t = 1)) : Brk l (j + 1) := by
  refine .inr ?_
  rintro ⟨a, b⟩
  have hl := (joined_last l (j + 1) (by omega)).2
  have e : at' (joined l i ++ [⟨(at' l i).f, (at' l j).t, (at' l i).v⟩]) (joined l i).length = ⟨(at' l i).f, (at' l j).t, (at' l i).v⟩ := at_snoc _ _ _ rfl
  have hl2 : (joined l i ++ [(⟨(at' l i).f, (at' l j).t, (at' l i).v⟩ : Rg)]).length - 1 = (joined l i).length := by simp
  rw [h, hl2, e] at hl
  rw [show j + 1 - 1 = j by omega] at a b hl
  have hl' : (at' l i).v = (at' l j).v := hl
  exact h1 ⟨by omega, by omega⟩

set_option maxHeartbeats 1600000 in
theorem rjoin_yes (x : Option Addr) (len cap : Nat) (zs : List Rg) (w : World) (hl : len ≤ 5000) (hs : SegR w x len zs) (hr : Rt 9223372036854775807 zs len) :
    Calls Try.prog 18 #[.slice x len cap] w fun e w' => ∃ v, e = .returned v ∧ w'.ownsRow w.heap.size 28 3 v (joined zs len).length (cellsR (joined zs len)) ∧ Below w.heap.size w w' := by
  obtain ⟨i0, hi, hz0, hz1, hz2⟩ := info_parts info28
  have HR := hide hr
  clear hr
  go_enter Try.func18, Try.ntmps18
  go_wp2
  go_loopw [3, 4, 5] (fun v u _ wr => ∃ i n : Nat, i ≤ len ∧ u = .int .i64 i ∧ (i < len → Brk zs i) ∧ n = (joined zs i).length ∧ wr.ownsRow w.heap.size 28 3 v n (cellsR (joined zs i)) ∧ Below w.heap.size w wr) (fun _ u _ _ => len - (intOf u).toNat)
  case atStart => exact ⟨0, 0, Nat.zero_le _, rfl, fun _ => .inl rfl, rfl, World.ownsRow_nil _ _ _ _, Below.refl _ _⟩
  case round =>
    obtain ⟨i, n, hk, rfl, hbr, hn, hown, hbel⟩ := hrel
    by_cases hlt : i < len
    · have HN := hide hn
      have HB := hide (grp_start (hbr hlt))
      have hjl := joined_len zs i
      rw [← hn] at hjl
      clear hn hbr
      obtain ⟨b, off, rfl, hc⟩ := hs.leads (by omega)
      clear hs
      go_wp2
      go_loopw [5] (fun u wr => ∃ j : Nat, i ≤ j ∧ j < len ∧ u = .int .i64 ((j : Int) + 1) ∧ Hid (Grp zs i j) ∧ wr.ownsRow w.heap.size 28 3 u3 n (cellsR (joined zs i)) ∧ Below w.heap.size w wr) (fun u _ => len - (intOf u).toNat)
      case atStart => exact ⟨i, Nat.le_refl _, hlt, rfl, HB, hown, hbel⟩
      case round =>
        obtain ⟨j, hij, hj, rfl, HG, hown, hbel⟩ := hrel
        obtain ⟨a0, a1, a2⟩ := seg_below hbel (hc i hlt)
        obtain ⟨b0, b1, b2⟩ := seg_below hbel (hc j hj)
        obtain ⟨o1, o2, o3, _, _⟩ := HR.out.1 j hj
        have hne : some b ≠ u3.ownBlock := fun e => by have := (hown.lt b e.symm).1; have := cell_lt (hc i hlt).1; simp at this; omega
        have n1 : (0 : Int) ≤ (i : Int) := by omega
        have n2 : (i : Int) < (len : Int) := by omega
        have n3 : (0 : Int) ≤ (j : Int) := by omega
        have n4 : (j : Int) < (len : Int) := by omega
        by_cases hj1 : j + 1 < len
        · obtain ⟨c0, c1, c2⟩ := seg_below hbel (hc (j + 1) hj1)
          obtain ⟨p1, p2, p3, _, _⟩ := HR.out.1 (j + 1) hj1
          have ST := hide (@grp_step zs i j HG.out)
          have SP := hide (@grp_stop zs i j HG.out)
          generalize (at' zs (j + 1)).f = f2 at *
          generalize (at' zs (j + 1)).t = t2 at *
          generalize (at' zs (j + 1)).v = v2 at *
          have i1 : decide (j + 1 < len) = true := by simpa using hj1
          have i2 : decide ((j : Int) + 1 < (len : Int)) = true := by simp; omega
          by_cases q1 : v2 = (at' zs i).v
          · have s1 : (v2 == (at' zs i).v) = true := by simpa using q1
            by_cases q2 : f2 - (at' zs j).t = 1
            · have s2 : (f2 - (at' zs j).t == 1) = true := by simpa using q2
              have GN := hide (ST.out q1 q2)
              clear hc q1 q2
              go_wp2
              go_quiet (fail)
              go_wp2
              go_roundw
              case rel => exact ⟨j + 1, by omega, hj1, by go_num, GN, hown, below_drewN hbel _⟩
              case measure => simp [intOf]; omega
            · have s2 : (f2 - (at' zs j).t == 1) = false := by simpa using q2
              have BK := hide (show j + 1 < len → Brk zs (j + 1) from fun _ => SP.out (fun h => q2 h.2))
              clear q1 q2
              clear hc
              go_wp2
              go_quiet (fail)
              go_wp2
              have owX : (wr.drewN nq).ownsRow w.heap.size 28 3 u3 n (cellsR (joined zs i)) := hown
              have hbX := below_drewN hbel nq
              have x0 : (wr.drewN nq).cell? ⟨b, off + i * 3, none⟩ = _ := a0
              have x1 : (wr.drewN nq).cell? ⟨b, off + j * 3 + 1, none⟩ = _ := b1
              have x2 : (wr.drewN nq).cell? ⟨b, off + i * 3 + 2, none⟩ = _ := a2
              clear hown hbel a0 a1 a2 b0 b1 b2
              generalize wr.drewN nq = X at *
              have hbl := cell_lt x0
              have hbl2 : b < X.heap.size := hbl
              have hXz := hbX.size
              have nw1 : IntKind.i64.wrap ((j : Int) + 1 - 1) = (j : Int) := by rw [IntKind.wrap_i64]; omega
              have nw2 : IntKind.i64.wrap (j : Int) = (j : Int) := by rw [IntKind.wrap_i64]; omega
              go_region_held3 (fun w' => w'.cell? ⟨b, off + i * 3, none⟩ = some (.int .i32 (at' zs i).f) ∧ w'.cell? ⟨b, off + j * 3 + 1, none⟩ = some (.int .i32 (at' zs j).t) ∧ w'.cell? ⟨b, off + i * 3 + 2, none⟩ = some (.int .i64 (at' zs i).v)) (first | go_keep | (go_split_ands; refine ⟨?_, ?_, ?_⟩ <;> (rw [hgrow.cell_far _ (by simp; omega) hne]; assumption))) ((refine step_append_lies _ (by rfl) _ _ _ (by rfl) w.heap.size 28 i0 _ 3 16 Try.underlying22 hi hz0 hz1 hz2 rfl (by omega) u3 n (cellsR (joined zs i)) (by rfl) ((owX.alloc _).drew) ⟨X.heap.size, 0, none⟩ 1 1 (cells1 ⟨(at' zs i).f, (at' zs j).t, (at' zs i).v⟩) (by rfl) (by rfl) (World.news_of_block (cs := #[.int .i32 (at' zs i).f, .int .i32 (at' zs j).t, .int .i64 (at' zs i).v]) (t := 28) (fr := (0, 0)) (heap_alloc_new X _)) (cells1_one' _) (by omega) (by unfold maxLen; omega) (by omega) (by simp; omega) (X.heap.size + 1) (by simp) ?_; intro gg cap' w1 hown1 hgrow hat hlt1))
              have hb4 : Below w.heap.size w w1 := (hbX.alloc hbX.size _).drew.grown hgrow (by simp; omega) (fun k' e => (owX.lt k' e).1)
              have hG := hide (show joined zs (j + 1) = joined zs i ++ [⟨(at' zs i).f, (at' zs j).t, (at' zs i).v⟩] from HG.out)
              clear hgrow owX hbX x0 x1 x2 nw1 nw2
              go_wp2
              go_roundw
              case rel => exact ⟨j + 1, n + 1, by omega, by go_num, BK.out, by rw [hG.out, List.length_append, ← HN.out]; rfl, by rw [hG.out, cellsR_app, cellsR_one]; exact hown1, hb4⟩
              case measure => simp [intOf]; omega
          · have s1 : (v2 == (at' zs i).v) = false := by simpa using q1
            have BK := hide (show j + 1 < len → Brk zs (j + 1) from fun _ => SP.out (fun h => q1 h.1))
            clear q1
            clear hc
            go_wp2
            go_quiet (fail)
            go_wp2
            have owX : (wr.drewN nq).ownsRow w.heap.size 28 3 u3 n (cellsR (joined zs i)) := hown
            have hbX := below_drewN hbel nq
            have x0 : (wr.drewN nq).cell? ⟨b, off + i * 3, none⟩ = _ := a0
            have x1 : (wr.drewN nq).cell? ⟨b, off + j * 3 + 1, none⟩ = _ := b1
            have x2 : (wr.drewN nq).cell? ⟨b, off + i * 3 + 2, none⟩ = _ := a2
            clear hown hbel a0 a1 a2 b0 b1 b2
            generalize wr.drewN nq = X at *
            have hbl := cell_lt x0
            have hbl2 : b < X.heap.size := hbl
            have hXz := hbX.size
            have nw1 : IntKind.i64.wrap ((j : Int) + 1 - 1) = (j : Int) := by rw [IntKind.wrap_i64]; omega
            have nw2 : IntKind.i64.wrap (j : Int) = (j : Int) := by rw [IntKind.wrap_i64]; omega
            go_region_held3 (fun w' => w'.cell? ⟨b, off + i * 3, none⟩ = some (.int .i32 (at' zs i).f) ∧ w'.cell? ⟨b, off + j * 3 + 1, none⟩ = some (.int .i32 (at' zs j).t) ∧ w'.cell? ⟨b, off + i * 3 + 2, none⟩ = some (.int .i64 (at' zs i).v)) (first | go_keep | (go_split_ands; refine ⟨?_, ?_, ?_⟩ <;> (rw [hgrow.cell_far _ (by simp; omega) hne]; assumption))) ((refine step_append_lies _ (by rfl) _ _ _ (by rfl) w.heap.size 28 i0 _ 3 16 Try.underlying22 hi hz0 hz1 hz2 rfl (by omega) u3 n (cellsR (joined zs i)) (by rfl) ((owX.alloc _).drew) ⟨X.heap.size, 0, none⟩ 1 1 (cells1 ⟨(at' zs i).f, (at' zs j).t, (at' zs i).v⟩) (by rfl) (by rfl) (World.news_of_block (cs := #[.int .i32 (at' zs i).f, .int .i32 (at' zs j).t, .int .i64 (at' zs i).v]) (t := 28) (fr := (0, 0)) (heap_alloc_new X _)) (cells1_one' _) (by omega) (by unfold maxLen; omega) (by omega) (by simp; omega) (X.heap.size + 1) (by simp) ?_; intro gg cap' w1 hown1 hgrow hat hlt1))
            have hb4 : Below w.heap.size w w1 := (hbX.alloc hbX.size _).drew.grown hgrow (by simp; omega) (fun k' e => (owX.lt k' e).1)
            have hG := hide (show joined zs (j + 1) = joined zs i ++ [⟨(at' zs i).f, (at' zs j).t, (at' zs i).v⟩] from HG.out)
            clear hgrow owX hbX x0 x1 x2 nw1 nw2
            go_wp2
            go_roundw
            case rel => exact ⟨j + 1, n + 1, by omega, by go_num, BK.out, by rw [hG.out, List.length_append, ← HN.out]; rfl, by rw [hG.out, cellsR_app, cellsR_one]; exact hown1, hb4⟩
            case measure => simp [intOf]; omega
        · have i1 : decide (j + 1 < len) = false := by simpa using hj1
          have i2 : decide ((j : Int) + 1 < (len : Int)) = false := by simp; omega
          have BK := hide (show j + 1 < len → Brk zs (j + 1) from fun h => absurd h hj1)
          clear hc
          go_wp2
          go_quiet (fail)
          go_wp2
          have owX : (wr.drewN nq).ownsRow w.heap.size 28 3 u3 n (cellsR (joined zs i)) := hown
          have hbX := below_drewN hbel nq
          have x0 : (wr.drewN nq).cell? ⟨b, off + i * 3, none⟩ = _ := a0
          have x1 : (wr.drewN nq).cell? ⟨b, off + j * 3 + 1, none⟩ = _ := b1
          have x2 : (wr.drewN nq).cell? ⟨b, off + i * 3 + 2, none⟩ = _ := a2
          clear hown hbel a0 a1 a2 b0 b1 b2
          generalize wr.drewN nq = X at *
          have hbl := cell_lt x0
          have hbl2 : b < X.heap.size := hbl
          have hXz := hbX.size
          have nw1 : IntKind.i64.wrap ((j : Int) + 1 - 1) = (j : Int) := by rw [IntKind.wrap_i64]; omega
          have nw2 : IntKind.i64.wrap (j : Int) = (j : Int) := by rw [IntKind.wrap_i64]; omega
          go_region_held3 (fun w' => w'.cell? ⟨b, off + i * 3, none⟩ = some (.int .i32 (at' zs i).f) ∧ w'.cell? ⟨b, off + j * 3 + 1, none⟩ = some (.int .i32 (at' zs j).t) ∧ w'.cell? ⟨b, off + i * 3 + 2, none⟩ = some (.int .i64 (at' zs i).v)) (first | go_keep | (go_split_ands; refine ⟨?_, ?_, ?_⟩ <;> (rw [hgrow.cell_far _ (by simp; omega) hne]; assumption))) ((refine step_append_lies _ (by rfl) _ _ _ (by rfl) w.heap.size 28 i0 _ 3 16 Try.underlying22 hi hz0 hz1 hz2 rfl (by omega) u3 n (cellsR (joined zs i)) (by rfl) ((owX.alloc _).drew) ⟨X.heap.size, 0, none⟩ 1 1 (cells1 ⟨(at' zs i).f, (at' zs j).t, (at' zs i).v⟩) (by rfl) (by rfl) (World.news_of_block (cs := #[.int .i32 (at' zs i).f, .int .i32 (at' zs j).t, .int .i64 (at' zs i).v]) (t := 28) (fr := (0, 0)) (heap_alloc_new X _)) (cells1_one' _) (by omega) (by unfold maxLen; omega) (by omega) (by simp; omega) (X.heap.size + 1) (by simp) ?_; intro gg cap' w1 hown1 hgrow hat hlt1))
          have hb4 : Below w.heap.size w w1 := (hbX.alloc hbX.size _).drew.grown hgrow (by simp; omega) (fun k' e => (owX.lt k' e).1)
          have hG := hide (show joined zs (j + 1) = joined zs i ++ [⟨(at' zs i).f, (at' zs j).t, (at' zs i).v⟩] from HG.out)
          clear hgrow owX hbX x0 x1 x2 nw1 nw2
          go_wp2
          go_roundw
          case rel => exact ⟨j + 1, n + 1, by omega, by go_num, BK.out, by rw [hG.out, List.length_append, ← HN.out]; rfl, by rw [hG.out, cellsR_app, cellsR_one]; exact hown1, hb4⟩
          case measure => simp [intOf]; omega
    · have e : i = len := by omega
      subst e
      have HN := hide hn
      clear hn
      go_wp2
      go_ret
      exact ⟨_, rfl, by rw [← HN.out]; exact hown, hbel⟩
end Go.Proofs.Ytebjhcgonplogaa.A
