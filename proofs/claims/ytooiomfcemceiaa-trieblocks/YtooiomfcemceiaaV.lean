/- Contracts: it is done once. -/
import Derived.Test.YtooiomfcemceiaaT
import Derived.Defers
import Derived.Laws.Pointers
import Derived.Laws.LoneSync
import Derived.RegionTactic
import Derived.RegionCalls
import Derived.ChangeAlike
import Derived.Laws.NewBlocks
namespace Go.Proofs.Ytooiomfcemceiaa.A
open Go.RowKit Go.Maps

theorem disable (w : World) : (callFunc 45 #[]).run Try.prog w = .ok (.value (.tuple #[])) w := run_call_mark0 Try.func45 (by kernel_rfl) (by kernel_rfl) (by kernel_rfl) .disable (by kernel_rfl) w
theorem enable (w : World) : (callFunc 47 #[]).run Try.prog w = .ok (.value (.tuple #[])) w := run_call_mark0 Try.func47 (by kernel_rfl) (by kernel_rfl) (by kernel_rfl) .enable (by kernel_rfl) w
theorem acquire (a : Addr) (w : World) : (callFunc 48 #[.pointer (some a)]).run Try.prog w = .ok (.value (.tuple #[])) w := run_call_marked Try.func48 (by kernel_rfl) (by kernel_rfl) (by kernel_rfl) .acquire (by kernel_rfl) a w
theorem releaseMerge (a : Addr) (w : World) : (callFunc 50 #[.pointer (some a)]).run Try.prog w = .ok (.value (.tuple #[])) w := run_call_marked Try.func50 (by kernel_rfl) (by kernel_rfl) (by kernel_rfl) .releaseMerge (by kernel_rfl) a w

theorem store_deferred (a : Addr) (x : Value) (u : FrameMode) (w : World) (hc : w.cell? a = some x) (hz : w.frozen? a = false) :
    CallsD Try.prog 40 #[.pointer (some a), .bool true] u w fun e u' w' => u' = u ∧ (e = .returned (.tuple #[]) ∧ w' = w.drew.setCell a (.int .u32 1)) := by
  have hc' : w.drew.cell? a = some x := by go_simp
  have hz' : w.drew.frozen? a = false := by go_simp
  have hst := run_call_store (P := Try.prog) Try.func43 (by kernel_rfl) (by kernel_rfl) (by kernel_rfl) (by kernel_rfl) (k := .u32) (y := 1) hc' hz'
  go_enter_d Try.func40, Try.ntmps40
  go_wp2
  go_region_calls
  all_goals (go_end0; exact ⟨rfl, rfl⟩)

theorem unlock_deferred (a : Addr) (u : FrameMode) (w : World) (hc : w.cell? a = some (.int .i32 1)) (hz : w.frozen? a = false) :
    CallsD Try.prog 39 #[.pointer (some a)] u w fun e u' w' => u' = u ∧ (e = .returned (.tuple #[]) ∧ w' = w.setCell a (.int .i32 0)) := by
  have hd := disable
  have he := enable
  have hr := releaseMerge
  have hadd := run_call_add (P := Try.prog) Try.func51 (by kernel_rfl) (by kernel_rfl) (by kernel_rfl) .i32 (by kernel_rfl) (y := -1) (s := 0) hc hz (by simp [go_sem]; rfl)
  have hcv := run_convert_to_unsafe (P := Try.prog) (src := 90) (dst := 94) Try.underlying90 Try.underlying94 (by kernel_rfl) hc
  go_enter_d Try.func39, Try.ntmps39
  go_wp2
  go_end0
  go_wp2
  go_end0
  exact ⟨rfl, rfl⟩

theorem lock_free (a : Addr) (w : World) (hc : w.cell? a = some (.int .i32 0)) (hz : w.frozen? a = false) :
    Calls Try.prog 38 #[.pointer (some a)] w fun e w' => e = .returned (.tuple #[]) ∧ w' = w.setCell a (.int .i32 1) := by
  have hd := disable
  have he := enable
  have ha := acquire
  have hcas := run_call_cas_hit (P := Try.prog) Try.func46 (by kernel_rfl) (by kernel_rfl) (by kernel_rfl) .i32 (by kernel_rfl) (y := 1) hc hz
  have hc' : (w.setCell a (.int .i32 1)).cell? a = some (.int .i32 1) := World.cell?_setCell_same w a _ hc
  have hcv := run_convert_to_unsafe (P := Try.prog) (src := 90) (dst := 94) Try.underlying90 Try.underlying94 (by kernel_rfl) hc'
  go_enter Try.func38, Try.ntmps38
  go_wp2
  first | go_end0 | (simp only [Exit.inBlock, Exit.then]; refine bodyPost_ret (results_none rfl _ _ _) rfl ?_) | refine bodyPost_ret (results_none rfl _ _ _) rfl ?_
  go_wp2
  go_end0
  exact ⟨rfl, rfl⟩

theorem bt_apart {h : Int → Int} {w : World} {tb nb : Nat} {o1 o2 o3 a6 vb : Value} (d : Bt h w tb o1 o2 o3 a6 nb vb) (t : Nat) (cs : Array Value) (fr : Nat × Nat) (ht : w.heap[t]? = some (.cells cs 58 fr)) : nb ≠ t ∧ (vb.ownBlock = none ∨ vb.ownBlock ≠ some t) := by
  obtain ⟨_, d2, d3⟩ := d
  constructor
  · rintro rfl
    rw [ht] at d2
    simp at d2
  · rcases d3.2 with ⟨rfl, _⟩ | ⟨g, cap, cur, rfl, _, hg, _⟩
    · exact .inl rfl
    · refine .inr (fun e => ?_)
      simp [Value.ownBlock] at e
      subst e
      rw [ht] at hg
      simp at hg
theorem bt_grown {h : Int → Int} {w w' : World} {tb nb t : Nat} {o1 o2 o3 a6 vb : Value} (d : Bt h w tb o1 o2 o3 a6 nb vb) (hg : w.grownBy w' (some t)) (hne : tb ≠ t) {cs : Array Value} {fr : Nat × Nat} (ht : w.heap[t]? = some (.cells cs 58 fr)) : Bt h w' tb o1 o2 o3 a6 nb vb := by
  obtain ⟨a1, a2⟩ := bt_apart d t cs fr ht
  exact ⟨st_grown d.1 hg (by simpa using hne), heap_grown d.2.1 hg (by simpa using a1), d.2.2.kept hg a2⟩
theorem own_set {w : World} {base n size : Nat} {e : TypeId} {v : Value} {xs : List Value} (h : w.ownsRow base e size v n xs) (a : Addr) (ha : v.ownBlock = none ∨ v.ownBlock ≠ some a.block) (u : Value) : (w.setCell a u).ownsRow base e size v n xs :=
  h.kept (row := some a.block) ⟨rfl, rfl, rfl, by simp, fun k _ hne => Below.heap_setCell _ _ _ _ (fun e => hne (by rw [e]))⟩ ha
theorem bt_set {h : Int → Int} {w : World} {tb nb : Nat} {o1 o2 o3 a6 vb : Value} (d : Bt h w tb o1 o2 o3 a6 nb vb) (j : Nat) (u : Value) {p1 p2 p3 p6 : Value}
    (hs : (#[.slice none 0 0, o1, o2, o3, .slice (some ⟨nb, 0, none⟩) 8704 8704, vb, a6] : Array Value).setIfInBounds j u = #[.slice none 0 0, p1, p2, p3, .slice (some ⟨nb, 0, none⟩) 8704 8704, vb, p6]) : Bt h (w.setCell ⟨tb, j, none⟩ u) tb p1 p2 p3 p6 nb vb := by
  obtain ⟨a1, a2⟩ := bt_apart d tb _ _ d.1
  refine ⟨?_, ?_, own_set d.2.2 _ a2 _⟩
  · unfold St; rw [st_set d.1, hs]
  · rw [Below.heap_setCell _ _ _ _ a1]; exact d.2.1
end Go.Proofs.Ytooiomfcemceiaa.A
