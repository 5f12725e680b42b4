/- Contracts of what joins ranges. -/
import Derived.Test.YtooiomfcemceiaaE
import Derived.Deep.RegionHeld3
namespace Go.Proofs.Ytooiomfcemceiaa.A
open Go.RowKit

set_option maxHeartbeats 800000 in
theorem join_no (x : Option Addr) (len cap : Nat) (zs : List Rg) (w : World) (hl : len ≤ maxLen) (hs : SegR w x len zs) (hr : rightB 9223372036854775807 zs len = false) :
    Calls Try.prog 19 #[.slice x len cap] w fun e w' => e = .returned (.slice none 0 0) ∧ Below w.heap.size w w' := by
  have R := hide hr
  clear hr
  go_enter Try.func19, Try.ntmps19
  go_wp2_with fail
  refine (right_any x len cap _ zs _ hl hs).mono ?_
  rintro e w1 ⟨rfl, hb1⟩
  rw [R.out]
  go_wp2
  go_ret
  exact ⟨rfl, hb1⟩

set_option maxHeartbeats 1600000 in
theorem join_yes (x : Option Addr) (len cap : Nat) (zs : List Rg) (w : World) (hl : len ≤ 5000) (hs : SegR w x len zs) (hr : Rt 9223372036854775807 zs len) :
    Calls Try.prog 19 #[.slice x len cap] w fun e w' => ∃ v, e = .returned v ∧ w'.ownsRow w.heap.size 32 3 v (joined zs len).length (cellsR (joined zs len)) ∧ Below w.heap.size w w' := by
  obtain ⟨i0, hi, hz0, hz1, hz2⟩ := info_parts info32
  have R := hide (right_same hr hl)
  have HR := hide hr
  clear hr
  go_enter Try.func19, Try.ntmps19
  go_wp2_with fail
  refine (right_any x len cap _ zs _ (by unfold maxLen; omega) hs).mono ?_
  rintro e w1 ⟨rfl, hb1⟩
  have hs1 := hs.below hb1
  have hz := hb1.size
  clear hs
  rw [R.out]
  go_wp2
  go_loopw [3, 5, 6, 12] (fun v _ _ i wr => ∃ k n : Nat, k ≤ len ∧ i = .int .i64 k ∧ n = (joined zs k).length ∧ wr.ownsRow w1.heap.size 32 3 v n (cellsR (joined zs k)) ∧ Below w1.heap.size w1 wr) (fun _ _ _ i _ => len - (intOf i).toNat)
  case atStart => exact ⟨0, 0, Nat.zero_le _, rfl, rfl, World.ownsRow_nil _ _ _ _, Below.refl _ _⟩
  case round =>
    obtain ⟨k, n, hk, rfl, hn, hown, hbel⟩ := hrel
    by_cases hlt : k < len
    · obtain ⟨b, off, rfl, hc⟩ := hs1.leads (by omega)
      obtain ⟨c0, c1, c2⟩ := seg_below hbel (hc k hlt)
      have JN := hide (show joined zs (k + 1) = push (joined zs k) (at' zs k) from rfl)
      have hjl := joined_len zs k
      have hjr := joined_rt k (rt_le HR.out (by omega))
      clear hc hs1
      generalize joined zs k = o at *
      generalize at' zs k = x at *
      have HN := hide hn
      rw [← hn] at hjl hjr
      clear hn
      rcases hown.2 with ⟨rfl, rfl⟩ | ⟨g, cp, cur, rfl, hg, hcur, hkc, hcm, hcs, htk⟩
      · go_wp2_with fail
        have hbW := hbel.alloc hbel.size (.cells #[.int .i32 x.f, .int .i32 x.t, .int .i64 x.v] 32)
        have owW := hown.alloc (.cells #[.int .i32 x.f, .int .i32 x.t, .int .i64 x.v] 32)
        obtain ⟨r0, r1, r2⟩ := box3 wr (.int .i32 x.f) (.int .i32 x.t) (.int .i64 x.v) 32
        clear hbel hown c0 c1 c2
        generalize wr.alloc (.cells #[.int .i32 x.f, .int .i32 x.t, .int .i64 x.v] 32) = W at *
        generalize wr.heap.size = q at *
        go_quiet (fail)
        have hbX := below_drewN hbW nq
        have owX : (W.drewN nq).ownsRow _ _ _ _ _ _ := owW
        have s0 : (W.drewN nq).cell? ⟨q, 0, none⟩ = _ := r0
        have s1 : (W.drewN nq).cell? ⟨q, 1, none⟩ = _ := r1
        have s2 : (W.drewN nq).cell? ⟨q, 2, none⟩ = _ := r2
        clear r0 r1 r2 hbW owW
        generalize W.drewN nq = X at *
        go_wp2_with (at_builtin; refine wpList_append_own _ rfl _ _ 22 rfl w1.heap.size 32 i0 (.agg #[.int .i32 0, .int .i32 0, .int .i64 0]) 3 16 Try.underlying22 hi hz0 hz1 hz2 rfl (by decide) _ _ _ rfl (owX.alloc _) ⟨_, 0, none⟩ 1 1 (cells1 x) rfl rfl ?c1 ?c2 ?c3 ?c4 ?c5 ?_)
        case c1 => exact one_new3 _ _ _
        case c2 => exact cells1_one' x
        case c3 => unfold maxLen; omega
        case c4 => omega
        case c5 => have := hbX.size; simp; omega
        · intro v' w3 hown' hgrow _
          have hb4 : Below w1.heap.size w1 w3 := (hbX.alloc hbX.size _).grown hgrow (by have := hbX.size; simp; omega) (fun k' e => (owX.lt k' e).1)
          have hpg := hide (push_empty (x := x) HN.out)
          clear hgrow owX hbX
          go_wp2
          go_roundw
          case rel => exact ⟨k + 1, 1, by omega, by go_num, by rw [JN.out, hpg.out, List.length_append, ← HN.out]; rfl, by rw [JN.out, hpg.out, cellsR_app, cellsR_one]; exact hown', hb4⟩
          case measure => simp [intOf]; omega
      · clear hcur htk hcs
        rcases n with _ | n
        · go_wp2_with fail
          have hbW := hbel.alloc hbel.size (.cells #[.int .i32 x.f, .int .i32 x.t, .int .i64 x.v] 32)
          have owW := hown.alloc (.cells #[.int .i32 x.f, .int .i32 x.t, .int .i64 x.v] 32)
          obtain ⟨r0, r1, r2⟩ := box3 wr (.int .i32 x.f) (.int .i32 x.t) (.int .i64 x.v) 32
          clear hbel hown c0 c1 c2
          generalize wr.alloc (.cells #[.int .i32 x.f, .int .i32 x.t, .int .i64 x.v] 32) = W at *
          generalize wr.heap.size = q at *
          go_quiet (fail)
          have hbX := below_drewN hbW nq
          have owX : (W.drewN nq).ownsRow _ _ _ _ _ _ := owW
          have s0 : (W.drewN nq).cell? ⟨q, 0, none⟩ = _ := r0
          have s1 : (W.drewN nq).cell? ⟨q, 1, none⟩ = _ := r1
          have s2 : (W.drewN nq).cell? ⟨q, 2, none⟩ = _ := r2
          clear r0 r1 r2 hbW owW
          generalize W.drewN nq = X at *
          go_wp2_with (at_builtin; refine wpList_append_own _ rfl _ _ 22 rfl w1.heap.size 32 i0 (.agg #[.int .i32 0, .int .i32 0, .int .i64 0]) 3 16 Try.underlying22 hi hz0 hz1 hz2 rfl (by decide) _ _ _ rfl (owX.alloc _) ⟨_, 0, none⟩ 1 1 (cells1 x) rfl rfl ?c1 ?c2 ?c3 ?c4 ?c5 ?_)
          case c1 => exact one_new3 _ _ _
          case c2 => exact cells1_one' x
          case c3 => unfold maxLen; omega
          case c4 => omega
          case c5 => have := hbX.size; simp; omega
          · intro v' w3 hown' hgrow _
            have hb4 : Below w1.heap.size w1 w3 := (hbX.alloc hbX.size _).grown hgrow (by have := hbX.size; simp; omega) (fun k' e => (owX.lt k' e).1)
            have hpg := hide (push_empty (x := x) HN.out)
            clear hgrow owX hbX
            go_wp2
            go_roundw
            case rel => exact ⟨k + 1, 1, by omega, by go_num, by rw [JN.out, hpg.out, List.length_append, ← HN.out]; rfl, by rw [JN.out, hpg.out, cellsR_app, cellsR_one]; exact hown', hb4⟩
            case measure => simp [intOf]; omega
        obtain ⟨o1, o2, o3, _, _⟩ := hjr.1 n (by omega)
        obtain ⟨e0, e1, e2⟩ := cellsR_at o n (by have := HN.out; omega)
        clear hjr
        by_cases hgo : goesB (at' o n) x = true
        · have HG := hide hgo
          clear hgo
          go_wp2_with fail
          have hbW := hbel.alloc hbel.size (.cells #[.int .i32 x.f, .int .i32 x.t, .int .i64 x.v] 32)
          have owW := hown.alloc (.cells #[.int .i32 x.f, .int .i32 x.t, .int .i64 x.v] 32)
          obtain ⟨r0, r1, r2⟩ := box3 wr (.int .i32 x.f) (.int .i32 x.t) (.int .i64 x.v) 32
          clear hbel hown c0 c1 c2
          generalize wr.alloc (.cells #[.int .i32 x.f, .int .i32 x.t, .int .i64 x.v] 32) = W at *
          generalize wr.heap.size = q at *
          have d0 := (owW.cellAt (n * 3) (by omega)).trans e0
          have d1 := (owW.cellAt (n * 3 + 1) (by omega)).trans e1
          have d2 := (owW.cellAt (n * 3 + 2) (by omega)).trans e2
          clear e0 e1 e2
          have i1 : (0 : Int) ≤ (n : Int) := by omega
          have i2 : (n : Int) < (n : Int) + 1 := by omega
          go_region_held3 (fun w' => (w'.cell? ⟨g, n * 3, none⟩ = some (.int .i32 (at' o n).f) ∧ w'.cell? ⟨g, n * 3 + 1, none⟩ = some (.int .i32 (at' o n).t) ∧ w'.cell? ⟨g, n * 3 + 2, none⟩ = some (.int .i64 (at' o n).v)) ∧ w'.cell? ⟨q, 0, none⟩ = some (.int .i32 x.f) ∧ w'.cell? ⟨q, 1, none⟩ = some (.int .i32 x.t) ∧ w'.cell? ⟨q, 2, none⟩ = some (.int .i64 x.v)) (first | assumption | go_keep) ((go_at_call 30; refine (goes_any (at' o n) x _ (by omega) (by omega)).mono ?_; rintro e w2 ⟨rfl, hb2⟩; have k1 := And.intro (seg_below hb2 ⟨d0, d1, d2⟩) (seg_below hb2 ⟨r0, r1, r2⟩); rw [HG.out]))
          obtain ⟨⟨_, f1, _⟩, t0, t1, t2⟩ := k1
          have hb3 : Below w1.heap.size w1 w2 := hbW.drew.trans (hb2.mono hbW.size)
          have ow2 := own_below owW.drew hb2
          clear hb2 owW hbW d0 d1 d2 r0 r1 r2
          have f2 := ow2.frozenAt (n * 3 + 1)
          go_wp2
          go_roundw
          case rel =>
            have hpg := push_goes' HN.out HG.out
            refine ⟨k + 1, n + 1, by omega, by go_num, by rw [JN.out, hpg, List.length_set]; exact HN.out, ?_, hb3.setCell hg _⟩
            rw [JN.out, hpg, ← cellsR_set o n x.t (by have := HN.out; omega)]
            exact (ow2.stored _ _).1
          case measure => simp [intOf]; omega
        · have HG := hide (Bool.eq_false_iff.2 hgo)
          clear hgo
          go_wp2_with fail
          have hbW := hbel.alloc hbel.size (.cells #[.int .i32 x.f, .int .i32 x.t, .int .i64 x.v] 32)
          have owW := hown.alloc (.cells #[.int .i32 x.f, .int .i32 x.t, .int .i64 x.v] 32)
          obtain ⟨r0, r1, r2⟩ := box3 wr (.int .i32 x.f) (.int .i32 x.t) (.int .i64 x.v) 32
          clear hbel hown c0 c1 c2
          generalize wr.alloc (.cells #[.int .i32 x.f, .int .i32 x.t, .int .i64 x.v] 32) = W at *
          generalize wr.heap.size = q at *
          have d0 := (owW.cellAt (n * 3) (by omega)).trans e0
          have d1 := (owW.cellAt (n * 3 + 1) (by omega)).trans e1
          have d2 := (owW.cellAt (n * 3 + 2) (by omega)).trans e2
          clear e0 e1 e2
          have i1 : (0 : Int) ≤ (n : Int) := by omega
          have i2 : (n : Int) < (n : Int) + 1 := by omega
          go_region_held3 (fun w' => (w'.cell? ⟨g, n * 3, none⟩ = some (.int .i32 (at' o n).f) ∧ w'.cell? ⟨g, n * 3 + 1, none⟩ = some (.int .i32 (at' o n).t) ∧ w'.cell? ⟨g, n * 3 + 2, none⟩ = some (.int .i64 (at' o n).v)) ∧ w'.cell? ⟨q, 0, none⟩ = some (.int .i32 x.f) ∧ w'.cell? ⟨q, 1, none⟩ = some (.int .i32 x.t) ∧ w'.cell? ⟨q, 2, none⟩ = some (.int .i64 x.v)) (first | assumption | go_keep) ((go_at_call 30; refine (goes_any (at' o n) x _ (by omega) (by omega)).mono ?_; rintro e w2 ⟨rfl, hb2⟩; have k1 := And.intro (seg_below hb2 ⟨d0, d1, d2⟩) (seg_below hb2 ⟨r0, r1, r2⟩); rw [HG.out]))
          obtain ⟨⟨_, f1, _⟩, t0, t1, t2⟩ := k1
          have hb3 : Below w1.heap.size w1 w2 := hbW.drew.trans (hb2.mono hbW.size)
          have ow2 := own_below owW.drew hb2
          clear hb2 owW hbW d0 d1 d2 r0 r1 r2
          go_wp2_with (at_builtin; refine wpList_append_own _ rfl _ _ 22 rfl w1.heap.size 32 i0 (.agg #[.int .i32 0, .int .i32 0, .int .i64 0]) 3 16 Try.underlying22 hi hz0 hz1 hz2 rfl (by decide) _ _ _ rfl (ow2.alloc _) ⟨_, 0, none⟩ 1 1 (cells1 x) rfl rfl ?c1 ?c2 ?c3 ?c4 ?c5 ?_)
          case c1 => exact one_new3 _ _ _
          case c2 => exact cells1_one' x
          case c3 => unfold maxLen; omega
          case c4 => omega
          case c5 => have := hb3.size; simp; omega
          · intro v' w3 hown' hgrow _
            have hb4 : Below w1.heap.size w1 w3 := (hb3.alloc hb3.size _).grown hgrow (by have := hb3.size; simp; omega) (fun k' e => (ow2.lt k' e).1)
            have hpg := hide (push_stays' HN.out HG.out)
            clear hgrow ow2 hb3
            go_wp2
            go_roundw
            case rel => exact ⟨k + 1, n + 1 + 1, by omega, by go_num, by rw [JN.out, hpg.out, List.length_append, ← HN.out]; rfl, by rw [JN.out, hpg.out, cellsR_app, cellsR_one]; exact hown', hb4⟩
            case measure => simp [intOf]; omega
    · have e : k = len := by omega
      subst e
      have HN := hide hn
      clear hn
      go_wp2
      go_ret
      exact ⟨_, rfl, by rw [← HN.out]; exact own_mono hown hz, hb1.trans (hbel.mono hz)⟩
end Go.Proofs.Ytooiomfcemceiaa.A
