/- Ahead of layer 6: the document's tables of states. -/
import Derived.Test.YtldeofdjhpfdaaaG
namespace Go.Proofs.Ytldeofdjhpfdaaa.A
open Go.RowKit

theorem mk_new1 (w : World) (N : Nat) : Mk (w.alloc (.cells (rowB N fun _ => false) 4)) w.heap.size N (fun _ => false) := heap_alloc_last w _
/-- Which states are among the first k that are told. -/
def tblB (zs : List Int) (k j : Nat) : Bool := (zs.take k).any fun z => z == (j : Int)
theorem tblB_step {zs : List Int} {k : Nat} {z : Int} (h : zs[k]? = some z) (j : Nat) : tblB zs (k + 1) j = (tblB zs k j || z == (j : Int)) := by
  unfold tblB; rw [take_at h, List.any_append]; simp
theorem tblB_yes {zs : List Int} {k i : Nat} (h : zs[k]? = some (i : Int)) (j : Nat) : (if j = i then true else tblB zs k j) = tblB zs (k + 1) j := by
  rw [tblB_step h]
  by_cases e : j = i
  · subst e; simp
  · have : ((i : Int) == (j : Int)) = false := by simp; omega
    rw [if_neg e, this, Bool.or_false]
theorem tblB_no {zs : List Int} {k N : Nat} {z : Int} (h : zs[k]? = some z) (hz : ¬ (0 ≤ z ∧ z < N)) (j : Nat) (hj : j < N) : tblB zs k j = tblB zs (k + 1) j := by
  rw [tblB_step h]
  have : (z == (j : Int)) = false := by simp; omega
  rw [this, Bool.or_false]

set_option maxRecDepth 100000 in
set_option maxHeartbeats 3200000 in
theorem table_any (a : Option Addr) (len cap N : Nat) (zs : List Int) (w : World) (hz : zs.length = len) (hl : len ≤ 10000) (hN : N ≤ 10000) (hW : Wd w a zs) :
    Calls Try.prog 18 #[.slice a len cap, .int .i64 (N : Int)] w fun e w' => Gives w N (tblB zs len) e w' := by
  have hmk : ∀ w, (Instr.makeSlice 42 (.int .i64 (N : Int)) (.int .i64 (N : Int))).run Try.prog w = .ok (.slice (some ⟨w.heap.size, 0, none⟩) N N) (w.alloc (.cells (rowB N fun _ => false) 4)) := make39 N hN
  have HW := hide hW
  have HZ := hide hz
  clear hW hz
  go_enter Try.func18, Try.ntmps18
  go_wp2_with fail
  have hm0 : Mk (w.alloc (.cells (rowB N fun _ => false) 4)) w.heap.size N (tblB zs 0) := mk_congr (mk_new1 _ _) (fun j _ => by simp [tblB])
  have hb0 := (Below.refl w.heap.size w).alloc (Nat.le_refl _) (.cells (rowB N fun _ => false) 4)
  clear hmk
  generalize w.alloc (.cells (rowB N fun _ => false) 4) = W0 at *
  generalize hB : w.heap.size = B at *
  go_loopw [6] (fun i wr => ∃ k : Nat, k ≤ len ∧ i = .int .i64 k ∧ Mk wr B N (tblB zs k) ∧ Below B w wr) (fun i _ => len - (intOf i).toNat)
  case atStart => exact ⟨0, Nat.zero_le _, rfl, hm0, hb0⟩
  case round =>
    obtain ⟨k, hk, rfl, hm, hb⟩ := hrel
    clear hm0 hb0
    by_cases hlt : k < len
    · obtain ⟨z, hc⟩ : ∃ z, zs[k]? = some z := ⟨_, List.getElem?_eq_getElem (by rw [HZ.out]; exact hlt)⟩
      obtain ⟨b, off, rfl, k0⟩ := wd_below (hB ▸ hb) HW.out k z hc
      have i1 : (0 : Int) ≤ (k : Int) := by omega
      have i2 : (k : Int) < (len : Int) := by omega
      by_cases z0 : 0 ≤ z
      · by_cases z1 : z < N
        · obtain ⟨i, rfl⟩ : ∃ i : Nat, z = i := ⟨z.toNat, by omega⟩
          have hi : i < N := by omega
          obtain ⟨m0, m1⟩ := mk_cell hm hi
          have HM := hide hm
          have HN := hide (tblB_yes hc)
          clear hm hc
          go_wp2
          go_roundw
          case rel => exact ⟨k + 1, by omega, by go_num, mk_congr (mk_set HM.out hi true) (fun j _ => HN.out j), hb.setCell (by simp) _⟩
          case measure => simp [intOf]; omega
        · have HM := hide (mk_congr hm (tblB_no hc (fun q => z1 q.2)))
          have hz1 : decide (z < (N : Int)) = false := by simp; omega
          have hz0 : decide (0 ≤ z) = true := by simp; omega
          clear hm hc
          go_wp2
          go_roundw
          case rel => exact ⟨k + 1, by omega, by go_num, HM.out, hb⟩
          case measure => simp [intOf]; omega
      · have HM := hide (mk_congr hm (tblB_no hc (fun q => z0 q.1)))
        have hz0 : decide (0 ≤ z) = false := by simp; omega
        clear hm hc
        go_wp2
        go_roundw
        case rel => exact ⟨k + 1, by omega, by go_num, HM.out, hb⟩
        case measure => simp [intOf]; omega
    · have e : k = len := by omega
      subst e
      go_wp2
      go_ret
      exact ⟨B, by omega, rfl, hm, by rw [hB]; exact hb⟩

end Go.Proofs.Ytldeofdjhpfdaaa.A
