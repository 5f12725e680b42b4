/- Ahead of layer 6: the document's List: the states of a table. -/
import Derived.Test.YtldeofdjhpfdaaaG
import Derived.Deep.AppendSrc
namespace Go.Proofs.Ytldeofdjhpfdaaa.A
open Go.RowKit

/-- The states among the first k of a table. -/
def lstL (g : Nat → Bool) (k : Nat) : List Int := ((List.range k).filter g).map fun (j : Nat) => (j : Int)
theorem lstL_yes {g : Nat → Bool} {k : Nat} (h : g k = true) : lstL g (k + 1) = lstL g k ++ [(k : Int)] := by simp [lstL, List.range_succ, h]
theorem lstL_no {g : Nat → Bool} {k : Nat} (h : g k = false) : lstL g (k + 1) = lstL g k := by simp [lstL, List.range_succ, h]
theorem lstL_le (g : Nat → Bool) (k : Nat) : (lstL g k).length ≤ k := by
  unfold lstL; rw [List.length_map]; exact Nat.le_trans (List.length_filter_le _ _) (by simp)
theorem info3 : (Try.prog.info? 3).map (fun i => (i.zero, i.size, i.bytes)) = some (some (.int .i64 0), 1, 8) := by kernel_rfl
theorem one_new (w : World) (v : Value) (t : TypeId) : ∀ j u, [v][j]? = some u → (w.alloc (.cells #[v] t)).cell? ((⟨w.heap.size, 0, none⟩ : Addr).add j) = some u := by
  intro j u hj
  match j with
  | 0 =>
    have e : v = u := by simpa using hj
    subst e
    simp [Addr.add]
  | j + 1 => simp at hj

set_option maxRecDepth 100000 in
set_option maxHeartbeats 3200000 in
theorem list_any (F N : Nat) (g : Nat → Bool) (w : World) (hN : N ≤ 10000) (hF : Mk w F N g) :
    Calls Try.prog 19 #[.slice (some ⟨F, 0, none⟩) N N] w fun e w' =>
      ∃ v, e = .returned v ∧ w'.ownsRow w.heap.size 3 1 v (lstL g N).length ((lstL g N).map (Value.int .i64)) ∧ Below w.heap.size w w' := by
  obtain ⟨i0, hi, hz0, hz1, hz2⟩ := info_parts info3
  have HF := hide hF
  have HFL := hide (mk_lt hF)
  clear hF
  go_enter Try.func19, Try.ntmps19
  go_wp2_with fail
  go_loopw [3, 4] (fun v i wr => ∃ k : Nat, k ≤ N ∧ i = .int .i64 k ∧ wr.ownsRow w.heap.size 3 1 v (lstL g k).length ((lstL g k).map (Value.int .i64)) ∧ Below w.heap.size w wr) (fun _ i _ => N - (intOf i).toNat)
  case atStart => exact ⟨0, Nat.zero_le _, rfl, World.ownsRow_nil _ _ _ _, Below.refl _ _⟩
  case round =>
    obtain ⟨k, hk, rfl, hown, hbel⟩ := hrel
    by_cases hlt : k < N
    · obtain ⟨f0, _⟩ := mk_cell (mk_below HFL.out hbel HF.out) hlt
      have i1 : (0 : Int) ≤ (k : Int) := by omega
      have i2 : (k : Int) < (N : Int) := by omega
      have hle := lstL_le g k
      cases hg : g k
      · rw [hg] at f0
        have hown2 := hown
        rw [← lstL_no hg] at hown2
        clear hown hg
        go_wp2
        go_roundw
        case rel => exact ⟨k + 1, by omega, by go_num, hown2, hbel⟩
        case measure => simp [intOf]; omega
      · rw [hg] at f0
        have HG := hide hg
        clear hg
        go_wp2_with (at_builtin; refine wpList_append_own _ rfl _ _ 27 rfl w.heap.size 3 i0 (.int .i64 0) 1 8 Try.underlying27 hi hz0 hz1 hz2 rfl (by decide) _ _ _ rfl (hown.alloc _) ⟨_, 0, none⟩ 1 1 [.int .i64 (k : Int)] rfl rfl ?c1 ?c2 ?c3 ?c4 ?c5 ?_)
        case c1 => exact one_new _ _ _
        case c2 => intro u hu; simp only [List.mem_singleton] at hu; subst hu; rfl
        case c3 => unfold maxLen; omega
        case c4 => omega
        case c5 => have := hbel.size; simp; omega
        · intro v' w1 hown' hgrow _
          have hbel' : Below w.heap.size w w1 := (hbel.alloc hbel.size _).grown hgrow (by have := hbel.size; simp; omega) (fun k' e => (hown.lt k' e).1)
          have hown2 : w1.ownsRow w.heap.size 3 1 v' (lstL g (k + 1)).length ((lstL g (k + 1)).map (Value.int .i64)) := by rw [lstL_yes HG.out, List.map_append, List.length_append]; exact hown'
          clear hown' hgrow hown hbel
          go_wp2
          go_roundw
          case rel => exact ⟨k + 1, by omega, by go_num, hown2, hbel'⟩
          case measure => simp [intOf]; omega
    · have e : k = N := by omega
      subst e
      go_wp2
      go_ret
      exact ⟨_, rfl, hown, hbel⟩

end Go.Proofs.Ytldeofdjhpfdaaa.A
