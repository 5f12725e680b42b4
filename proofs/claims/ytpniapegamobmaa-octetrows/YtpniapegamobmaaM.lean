/- The document's rows of numbers. -/
import Derived.Test.YtpniapegamobmaaL
namespace Go.Proofs.Ytpniapegamobmaa.A
open Go.RowKit

set_option maxHeartbeats 1600000 in
theorem rrow_no (x : Option Addr) (len cap : Nat) (a n s : Int) (w : World) (hl : len ≤ 5000) (h : rowB len a n s = false) :
    Calls Try.prog 24 #[.slice x len cap, .int .i64 a, .int .i64 n, .int .i64 s] w fun e w' => e = .returned (.tuple #[.slice none 0 0, .bool false]) ∧ w' = w := by
  by_cases hsz : s = 1 ∨ s = 2 ∨ s = 4
  · by_cases h0 : n < 0
    · clear h
      rcases hsz with rfl | rfl | rfl
      all_goals
        go_enter Try.func24, Try.ntmps24
        go_wp2_with fail
        go_ret2
        exact ⟨rfl, rfl⟩
    · by_cases hn : (len : Int) < n
      · clear h
        rcases hsz with rfl | rfl | rfl
        all_goals
          go_enter Try.func24, Try.ntmps24
          go_wp2_with fail
          go_ret2
          exact ⟨rfl, rfl⟩
      · have HI := hide (show inB len a (n * s) = false by rw [← rowB_in hsz (by omega)]; exact h)
        clear h
        rcases hsz with rfl | rfl | rfl
        · rw [Int.mul_one] at HI
          go_enter Try.func24, Try.ntmps24
          go_wp2_with (go_at_call 16; refine (rwithin_any _ _ _ _ (by unfold maxLen; omega)).mono ?_; rintro e w' ⟨rfl, rfl⟩; rw [HI.out])
          go_ret2
          exact ⟨rfl, rfl⟩
        · go_enter Try.func24, Try.ntmps24
          go_wp2_with (go_at_call 16; refine (rwithin_any _ _ _ _ (by unfold maxLen; omega)).mono ?_; rintro e w' ⟨rfl, rfl⟩; rw [HI.out])
          go_ret2
          exact ⟨rfl, rfl⟩
        · go_enter Try.func24, Try.ntmps24
          go_wp2_with (go_at_call 16; refine (rwithin_any _ _ _ _ (by unfold maxLen; omega)).mono ?_; rintro e w' ⟨rfl, rfl⟩; rw [HI.out])
          go_ret2
          exact ⟨rfl, rfl⟩
  · have s1 : (s != 1) = true := by rw [bne_iff_ne]; omega
    have s2 : (s != 2) = true := by rw [bne_iff_ne]; omega
    have s4 : (s != 4) = true := by rw [bne_iff_ne]; omega
    clear hsz h
    go_enter Try.func24, Try.ntmps24
    go_wp2_with fail
    go_ret2
    exact ⟨rfl, rfl⟩

theorem numAt_row (zs : List Int) (p s k : Nat) (h : p + k * s + s ≤ zs.length) : numAt zs ((p + k * s : Nat) : Int) (s : Int) = rowN zs p s k := by
  rw [numAt_nat zs (p + k * s) s h]; rfl
/-- The first k numbers of a row. -/
def rowL (zs : List Int) (p s k : Nat) : List Int := (List.range k).map fun i => rowN zs p s i
theorem rowL_len (zs : List Int) (p s k : Nat) : (rowL zs p s k).length = k := by simp [rowL]
theorem rowL_snoc (zs : List Int) (p s k : Nat) : rowL zs p s (k + 1) = rowL zs p s k ++ [rowN zs p s k] := by simp [rowL, List.range_succ]

theorem one_new (w : World) (v : Value) (t : TypeId) : ∀ j u, [v][j]? = some u → (w.alloc (.cells #[v] t)).cell? ((⟨w.heap.size, 0, none⟩ : Addr).add j) = some u := by
  intro j u hj
  match j with
  | 0 =>
    have e : v = u := by simpa using hj
    subst e
    simp [Addr.add]
  | j + 1 => simp at hj

set_option maxHeartbeats 1600000 in
theorem rrow_yes (x : Option Addr) (len cap p n s : Nat) (zs : List Int) (w : World) (hl : len ≤ 5000) (hcap : len ≤ cap) (hm : cap ≤ maxLen) (hs : Seg w x len zs) (hsz : s = 1 ∨ s = 2 ∨ s = 4) (hin : p + n * s ≤ len) :
    Calls Try.prog 24 #[.slice x len cap, .int .i64 p, .int .i64 n, .int .i64 s] w fun e w' =>
      ∃ v, e = .returned (.tuple #[v, .bool true]) ∧ w'.ownsRow w.heap.size 3 1 v n ((rowL zs p s n).map (Value.int .i64)) ∧ Below w.heap.size w w' := by
  obtain ⟨i0, hi, hz0, hz1, hz2⟩ := info_parts info3
  have HI := hide (show inB len (p : Int) ((n : Int) * (s : Int)) = true by unfold inB; rw [decide_eq_true_iff]; rcases hsz with rfl | rfl | rfl <;> omega)
  have q0 : decide ((n : Int) < 0) = false := by rw [decide_eq_false_iff_not]; omega
  have q1 : decide (len < n) = false := by rw [decide_eq_false_iff_not]; rcases hsz with rfl | rfl | rfl <;> omega
  have q2 : decide ((len : Int) < (n : Int)) = false := by rw [decide_eq_false_iff_not]; rcases hsz with rfl | rfl | rfl <;> omega
  rcases hsz with rfl | rfl | rfl
  · rw [show ((1 : Nat) : Int) = 1 from rfl, Int.mul_one] at HI
    go_enter Try.func24, Try.ntmps24
    go_wp2_with (go_at_call 16; refine (rwithin_any _ _ _ _ (by unfold maxLen; omega)).mono ?_; rintro e w ⟨rfl, rfl⟩; rw [HI.out])
    go_loopw [10, 11, 12, 13] (fun v i _ _ wr => ∃ k : Nat, k ≤ n ∧ i = .int .i64 k ∧ wr.ownsRow w.heap.size 3 1 v k ((rowL zs p 1 k).map (Value.int .i64)) ∧ Below w.heap.size w wr) (fun _ i _ _ _ => n - (intOf i).toNat)
    case atStart => exact ⟨0, Nat.zero_le _, rfl, World.ownsRow_nil _ _ _ _, Below.refl _ _⟩
    case round =>
      obtain ⟨k, hk, rfl, hown, hbel⟩ := hrel
      by_cases hlt : k < n
      · have hs' := hs.below hbel
        have HN := hide (show numAt zs ((p : Int) + (k : Int)) 1 = rowN zs p 1 k from by
          have := numAt_row zs p 1 k (by rw [hs.1]; omega)
          rw [← this]
          congr 1 <;> omega)
        go_wp2_with (first | (go_at_call 14; refine (rnumber_any _ _ _ zs _ _ _ hs' hcap hm (by omega) (by omega)).mono ?_; rintro e wr ⟨rfl, rfl⟩; rw [HN.out]) | (at_builtin; refine wpList_append_own _ rfl _ _ 34 rfl w.heap.size 3 i0 (.int .i64 0) 1 8 Try.underlying34 hi hz0 hz1 hz2 rfl (by decide) _ _ _ rfl (hown.alloc _) ⟨_, 0, none⟩ 1 1 [.int .i64 (rowN zs p 1 k)] rfl rfl ?c1 ?c2 ?c3 ?c4 ?c5 ?_))
        case c1 => exact one_new _ _ _
        case c2 => intro u hu; simp only [List.mem_singleton] at hu; subst hu; rfl
        case c3 => unfold maxLen; omega
        case c4 => omega
        case c5 => have := hbel.size; simp; omega
        · intro v' w1 hown' hgrow _
          have hbel' : Below w.heap.size w w1 := (hbel.alloc hbel.size _).grown hgrow (by have := hbel.size; simp; omega) (fun k' e => (hown.lt k' e).1)
          have hown2 : w1.ownsRow w.heap.size 3 1 v' (k + 1) ((rowL zs p 1 (k + 1)).map (Value.int .i64)) := by rw [rowL_snoc, List.map_append]; exact hown'
          clear hown' hgrow hown hbel hs'
          go_wp2
          go_roundw
          case rel => first | exact ⟨k + 1, by omega, by go_num, hown2, hbel'⟩ | ((repeat apply Exists.intro); exact ⟨⟨k + 1, by omega, by go_num, hown2, hbel'⟩, rfl⟩)
          case measure => simp [intOf]; omega
      · have e : k = n := by omega
        subst e
        go_wp2
        go_ret2
        exact ⟨_, rfl, hown, hbel⟩
  · rw [show ((2 : Nat) : Int) = 2 from rfl] at HI
    go_enter Try.func24, Try.ntmps24
    go_wp2_with (go_at_call 16; refine (rwithin_any _ _ _ _ (by unfold maxLen; omega)).mono ?_; rintro e w ⟨rfl, rfl⟩; rw [HI.out])
    go_loopw [10, 11, 12, 13] (fun v i _ _ wr => ∃ k : Nat, k ≤ n ∧ i = .int .i64 k ∧ wr.ownsRow w.heap.size 3 1 v k ((rowL zs p 2 k).map (Value.int .i64)) ∧ Below w.heap.size w wr) (fun _ i _ _ _ => n - (intOf i).toNat)
    case atStart => exact ⟨0, Nat.zero_le _, rfl, World.ownsRow_nil _ _ _ _, Below.refl _ _⟩
    case round =>
      obtain ⟨k, hk, rfl, hown, hbel⟩ := hrel
      by_cases hlt : k < n
      · have hs' := hs.below hbel
        have HN := hide (show numAt zs ((p : Int) + (k : Int) * 2) 2 = rowN zs p 2 k from by
          have := numAt_row zs p 2 k (by rw [hs.1]; omega)
          rw [← this]
          congr 1 <;> omega)
        go_wp2_with (first | (go_at_call 14; refine (rnumber_any _ _ _ zs _ _ _ hs' hcap hm (by omega) (by omega)).mono ?_; rintro e wr ⟨rfl, rfl⟩; rw [HN.out]) | (at_builtin; refine wpList_append_own _ rfl _ _ 34 rfl w.heap.size 3 i0 (.int .i64 0) 1 8 Try.underlying34 hi hz0 hz1 hz2 rfl (by decide) _ _ _ rfl (hown.alloc _) ⟨_, 0, none⟩ 1 1 [.int .i64 (rowN zs p 2 k)] rfl rfl ?c1 ?c2 ?c3 ?c4 ?c5 ?_))
        case c1 => exact one_new _ _ _
        case c2 => intro u hu; simp only [List.mem_singleton] at hu; subst hu; rfl
        case c3 => unfold maxLen; omega
        case c4 => omega
        case c5 => have := hbel.size; simp; omega
        · intro v' w1 hown' hgrow _
          have hbel' : Below w.heap.size w w1 := (hbel.alloc hbel.size _).grown hgrow (by have := hbel.size; simp; omega) (fun k' e => (hown.lt k' e).1)
          have hown2 : w1.ownsRow w.heap.size 3 1 v' (k + 1) ((rowL zs p 2 (k + 1)).map (Value.int .i64)) := by rw [rowL_snoc, List.map_append]; exact hown'
          clear hown' hgrow hown hbel hs'
          go_wp2
          go_roundw
          case rel => first | exact ⟨k + 1, by omega, by go_num, hown2, hbel'⟩ | ((repeat apply Exists.intro); exact ⟨⟨k + 1, by omega, by go_num, hown2, hbel'⟩, rfl⟩)
          case measure => simp [intOf]; omega
      · have e : k = n := by omega
        subst e
        go_wp2
        go_ret2
        exact ⟨_, rfl, hown, hbel⟩
  · rw [show ((4 : Nat) : Int) = 4 from rfl] at HI
    go_enter Try.func24, Try.ntmps24
    go_wp2_with (go_at_call 16; refine (rwithin_any _ _ _ _ (by unfold maxLen; omega)).mono ?_; rintro e w ⟨rfl, rfl⟩; rw [HI.out])
    go_loopw [10, 11, 12, 13] (fun v i _ _ wr => ∃ k : Nat, k ≤ n ∧ i = .int .i64 k ∧ wr.ownsRow w.heap.size 3 1 v k ((rowL zs p 4 k).map (Value.int .i64)) ∧ Below w.heap.size w wr) (fun _ i _ _ _ => n - (intOf i).toNat)
    case atStart => exact ⟨0, Nat.zero_le _, rfl, World.ownsRow_nil _ _ _ _, Below.refl _ _⟩
    case round =>
      obtain ⟨k, hk, rfl, hown, hbel⟩ := hrel
      by_cases hlt : k < n
      · have hs' := hs.below hbel
        have HN := hide (show numAt zs ((p : Int) + (k : Int) * 4) 4 = rowN zs p 4 k from by
          have := numAt_row zs p 4 k (by rw [hs.1]; omega)
          rw [← this]
          congr 1 <;> omega)
        go_wp2_with (first | (go_at_call 14; refine (rnumber_any _ _ _ zs _ _ _ hs' hcap hm (by omega) (by omega)).mono ?_; rintro e wr ⟨rfl, rfl⟩; rw [HN.out]) | (at_builtin; refine wpList_append_own _ rfl _ _ 34 rfl w.heap.size 3 i0 (.int .i64 0) 1 8 Try.underlying34 hi hz0 hz1 hz2 rfl (by decide) _ _ _ rfl (hown.alloc _) ⟨_, 0, none⟩ 1 1 [.int .i64 (rowN zs p 4 k)] rfl rfl ?c1 ?c2 ?c3 ?c4 ?c5 ?_))
        case c1 => exact one_new _ _ _
        case c2 => intro u hu; simp only [List.mem_singleton] at hu; subst hu; rfl
        case c3 => unfold maxLen; omega
        case c4 => omega
        case c5 => have := hbel.size; simp; omega
        · intro v' w1 hown' hgrow _
          have hbel' : Below w.heap.size w w1 := (hbel.alloc hbel.size _).grown hgrow (by have := hbel.size; simp; omega) (fun k' e => (hown.lt k' e).1)
          have hown2 : w1.ownsRow w.heap.size 3 1 v' (k + 1) ((rowL zs p 4 (k + 1)).map (Value.int .i64)) := by rw [rowL_snoc, List.map_append]; exact hown'
          clear hown' hgrow hown hbel hs'
          go_wp2
          go_roundw
          case rel => first | exact ⟨k + 1, by omega, by go_num, hown2, hbel'⟩ | ((repeat apply Exists.intro); exact ⟨⟨k + 1, by omega, by go_num, hown2, hbel'⟩, rfl⟩)
          case measure => simp [intOf]; omega
      · have e : k = n := by omega
        subst e
        go_wp2
        go_ret2
        exact ⟨_, rfl, hown, hbel⟩

end Go.Proofs.Ytpniapegamobmaa.A
