/- Contracts: doSlow, Do. -/
import Derived.Test.YtooiomfcemceiaaV
namespace Go.Proofs.Ytooiomfcemceiaa.A
open Go.RowKit Go.Maps

theorem grown_refl (w : World) (row : Option Nat) : w.grownBy w row := ⟨rfl, rfl, rfl, Nat.le_refl _, fun _ _ _ => rfl⟩
theorem grown_drew {w w' : World} {row : Option Nat} (h : w.grownBy w' row) : w.grownBy w'.drew row := ⟨h.os, h.tape, h.output, h.size, h.block⟩
theorem st_put2 {w : World} {tb : Nat} {r o1 o2 o3 n v a : Value} (h : St w tb r o1 o2 o3 n v a) (u : Value) : St (w.setCell ⟨tb, 2, none⟩ u) tb r o1 u o3 n v a := st_set h 2 u

set_option maxRecDepth 100000 in
set_option maxHeartbeats 1600000 in
theorem slow_any (tb : Nat) (x : Option Addr) (len cap : Nat) (zs : List Rg) (o3 a6 : Value) (w : World) (hst : St w tb (.slice x len cap) (.int .u32 0) (.int .i32 0) o3 (.slice none 0 0) (.slice none 0 0) a6)
    (hl : len ≤ 5000) (hcap : len ≤ cap) (hs : SegR w x len zs) (hx : ∀ a, x = some a → a.block ≠ tb) (hr : Rt 255 zs len) :
    Calls Try.prog 33 #[.pointer (some ⟨tb, 1, none⟩), .func (.func 23) #[.pointer (some ⟨tb, 0, none⟩)] #[]] w fun e w' => e = .returned (.tuple #[]) ∧ w.grownBy w' (some tb) ∧ ∃ nb vb, Bt (hv zs len) w' tb (.int .u32 1) (.int .i32 0) o3 a6 nb vb := by
  have hst1 := st_put2 hst (.int .i32 1)
  have hg1 := grown_set (grown_refl w (some tb)) ⟨tb, 2, none⟩ (.int .i32 1) (.inl rfl)
  have hs1 := seg_grown hs hg1 hx
  have hld := run_call_load (P := Try.prog) Try.func37 (by kernel_rfl) (by kernel_rfl) (by kernel_rfl) .u32 (by kernel_rfl) (w := w.setCell ⟨tb, 2, none⟩ (.int .i32 1)) (a := ⟨tb, 1, none⟩) (x := 0) (st_cells hst1).2.1
  have hnot : ∀ (x : Bool) (w : World), (Op.unary .not (.bool x)).run Try.prog w = .ok (.bool (!x)) w := fun _ _ => rfl
  have hlk := (st_cells hst).2.2.1
  have hfz := st_free hst 2
  have HC := hide (And.intro hlk hfz)
  have HST := hide hst1
  have HG := hide hg1
  have HS := hide hs1
  clear hst hst1 hg1 hs1 hlk hfz hs
  go_enter_defers Try.func33, Try.ntmps33
  go_wp2_with (first | (go_at_call 38; refine (lock_free ⟨tb, 2, none⟩ _ HC.out.1 HC.out.2).mono ?_; rintro e w' ⟨rfl, rfl⟩) | (go_at_call 32; go_in) | (go_at_call 23; refine (build_any tb x len cap zs (.int .u32 0) (.int .i32 1) o3 a6 _ HST.out hl hcap HS.out hx hr).mono ?_; rintro e w2 ⟨rfl, hg2, nb, vb, hbt⟩))
  go_wp2
  obtain ⟨b0, b1, b2, b3, b4, b5, b6⟩ := st_cells hbt.1
  have bf1 := st_free hbt.1
  refine leaves_cons (f := 40) (args := #[.pointer (some ⟨tb, 1, none⟩), .bool true]) (by simp) (by simp [go_sem]) ?_
  refine (store_deferred ⟨tb, 1, none⟩ (.int .u32 0) .returning _ b1 (bf1 1)).mono ?_
  rintro e u' w'' ⟨rfl, rfl, rfl⟩
  have hbt0 : Bt (hv zs len) w2.drew tb (.int .u32 0) (.int .i32 1) o3 a6 nb vb := hbt
  have hbt1 := bt_set hbt0 1 (.int .u32 1) (p1 := .int .u32 1) (p2 := .int .i32 1) (p3 := o3) (p6 := a6) rfl
  have hg3 := grown_set (grown_drew (grown_more HG.out hg2 (fun k e => .inr (by cases e; rfl)))) ⟨tb, 1, none⟩ (.int .u32 1) (.inl rfl)
  obtain ⟨b0, b1, b2, b3, b4, b5, b6⟩ := st_cells hbt1.1
  have bf2 := st_free hbt1.1
  refine leaves_cons (f := 39) (args := #[.pointer (some ⟨tb, 2, none⟩)]) (by simp [settle]) (by simp [go_sem]) ?_
  refine (unlock_deferred ⟨tb, 2, none⟩ _ _ b2 (bf2 2)).mono ?_
  rintro e u' w'' ⟨rfl, rfl, rfl⟩
  have hbt2 := bt_set hbt1 2 (.int .i32 0) (p1 := .int .u32 1) (p2 := .int .i32 0) (p3 := o3) (p6 := a6) rfl
  have hg4 := grown_set hg3 ⟨tb, 2, none⟩ (.int .i32 0) (.inl rfl)
  simp [Leaves, settle, results, Try.results33]
  exact ⟨hg4, nb, vb, hbt2⟩

theorem do_done (a : Addr) (fv : Value) (w : World) (h0 : w.cell? a = some (.int .u32 1)) :
    Calls Try.prog 22 #[.pointer (some a), fv] w fun e w' => e = .returned (.tuple #[]) ∧ w' = w := by
  have hl := run_call_load (P := Try.prog) Try.func37 (by kernel_rfl) (by kernel_rfl) (by kernel_rfl) .u32 (by kernel_rfl) h0
  have hnot : ∀ (x : Bool) (w : World), (Op.unary .not (.bool x)).run Try.prog w = .ok (.bool (!x)) w := fun _ _ => rfl
  go_enter Try.func22, Try.ntmps22
  go_wp2
  go_end0
  exact ⟨rfl, rfl⟩

set_option maxRecDepth 100000 in
set_option maxHeartbeats 1600000 in
theorem do_first (tb : Nat) (x : Option Addr) (len cap : Nat) (zs : List Rg) (o3 a6 : Value) (w : World) (hst : St w tb (.slice x len cap) (.int .u32 0) (.int .i32 0) o3 (.slice none 0 0) (.slice none 0 0) a6)
    (hl : len ≤ 5000) (hcap : len ≤ cap) (hs : SegR w x len zs) (hx : ∀ a, x = some a → a.block ≠ tb) (hr : Rt 255 zs len) :
    Calls Try.prog 22 #[.pointer (some ⟨tb, 1, none⟩), .func (.func 23) #[.pointer (some ⟨tb, 0, none⟩)] #[]] w fun e w' => e = .returned (.tuple #[]) ∧ w.grownBy w' (some tb) ∧ ∃ nb vb, Bt (hv zs len) w' tb (.int .u32 1) (.int .i32 0) o3 a6 nb vb := by
  have hld := run_call_load (P := Try.prog) Try.func37 (by kernel_rfl) (by kernel_rfl) (by kernel_rfl) .u32 (by kernel_rfl) (w := w) (a := ⟨tb, 1, none⟩) (x := 0) (st_cells hst).2.1
  have hnot : ∀ (x : Bool) (w : World), (Op.unary .not (.bool x)).run Try.prog w = .ok (.bool (!x)) w := fun _ _ => rfl
  have HST := hide hst
  have HS := hide hs
  clear hst hs
  go_enter Try.func22, Try.ntmps22
  go_wp2_with (first | (go_at_call 33; refine (slow_any tb x len cap zs o3 a6 _ HST.out hl hcap HS.out hx hr).mono ?_; rintro e w2 ⟨rfl, hg2, nb, vb, hbt⟩) | (go_at_call 32; go_in))
  go_end0
  exact ⟨rfl, hg2, nb, vb, hbt⟩

/-- The numbers of what was asked. -/
theorem add_any (a : Addr) (n : Int) (w : World) (hc : w.cell? a = some (.int .i64 n)) (hz : w.frozen? a = false) (h0 : 0 ≤ n) (h1 : n < 4611686018427387904) :
    Calls Try.prog 21 #[.pointer (some a), .int .i64 1] w fun e w' => e = .returned (.int .i64 (n + 1)) ∧ w' = w.setCell a (.int .i64 (n + 1)) := by
  have hadd := run_call_add (P := Try.prog) Try.func31 (by kernel_rfl) (by kernel_rfl) (by kernel_rfl) .i64 (by kernel_rfl) (y := 1) (s := n + 1) hc hz (by simp [go_sem]; rw [IntKind.wrap_i64]; omega)
  go_enter Try.func21, Try.ntmps21
  go_wp2
  go_ret
  exact ⟨rfl, rfl⟩
theorem loadn_any (a : Addr) (n : Int) (w : World) (hc : w.cell? a = some (.int .i64 n)) :
    Calls Try.prog 24 #[.pointer (some a)] w fun e w' => e = .returned (.int .i64 n) ∧ w' = w := by
  have hl := run_call_load (P := Try.prog) Try.func36 (by kernel_rfl) (by kernel_rfl) (by kernel_rfl) .i64 (by kernel_rfl) hc
  go_enter Try.func24, Try.ntmps24
  go_wp2
  go_ret
  exact ⟨rfl, rfl⟩
end Go.Proofs.Ytooiomfcemceiaa.A
