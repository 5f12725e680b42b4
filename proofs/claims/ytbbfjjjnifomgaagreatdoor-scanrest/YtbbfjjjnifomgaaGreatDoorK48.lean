/- What is done once: the lock, the deferred calls, numbers. -/
import Derived.Defers
import Derived.Laws.Pointers
import Derived.Laws.LoneSync
import Derived.RegionTactic
import Derived.RegionCalls
import Derived.ChangeAlike
import Derived.Laws.NewBlocks
import Derived.Lib.SplitLaws
import Derived.WalkKit
import Derived.ProofKit
import Derived.Outline
import Derived.BigQuiet
import Derived.Deep.QuietTactic
import Derived.Below
import Derived.WalkLawsBesides
import Derived.Laws.AppendOwn
import Derived.Shelf.Small.Strs
import Derived.Shelf.Strconv.Itoa0
import Derived.Shelf.Strconv.Itoa1
import Derived.Shelf.LaysM
import Derived.Shelf.Strconv.Itoa2
import Derived.Shelf.Strconv.Clone
import Derived.Shelf.Strings.Search1
import Derived.Shelf.Strings.Search2
import Derived.Shelf.Strings.Search3
import Derived.Shelf.Strings.Count
import Derived.Shelf.Strings.Shaped
import Derived.Shelf.Strconv.AppendUint10
import Derived.Shelf.Strconv.AppendInt10
import Derived.Shelf.Strconv.AppendIntPublic10
import Derived.Shelf.Strings.Split
import Derived.Shelf.Strings.SplitShaped
import Derived.Shelf.Bits.Mul64
import Derived.Shelf.Unicode.DecodeSlow
import Derived.Ground.Names2Prog
import Derived.Shelf.Slices.Clone
import Derived.Ground.SlgnProg
import Derived.Shelf.SlicesE.Clone
import Derived.Deep.RegionHeld3
import Derived.OpenShut
import Derived.Deep.Slices
import Derived.Deep.Strs
import Derived.Deep.OwnRows
import Derived.Deep.WholeRow
import Derived.Deep.Heap
import Derived.Laws.OwnMore
import Derived.Deep.AppendLies
import Derived.Deep.RegionLaw
import Derived.OwnWalk
import Derived.Recover
import Derived.Deep.AppendSrc
import Derived.Laws.AppendOwnNone
import Derived.Test.YtbbfjjjnifomgaaGreatDoorK8
import Derived.Test.YtbbfjjjnifomgaaGreatDoorK11
import Derived.Test.YtbbfjjjnifomgaaGreatDoorK13
import Derived.Test.YtbbfjjjnifomgaaGreatDoorK14
import Derived.Test.YtbbfjjjnifomgaaGreatDoorK24
import Derived.Test.YtbbfjjjnifomgaaGreatDoorK29
import Derived.Test.YtbbfjjjnifomgaaGreatDoorK39
import Derived.Laws.IdiomStrings
import Derived.Laws.BytesArg
import Derived.Maps.OwnSet
import Derived.Maps.OwnOps
import Derived.Deep.MidRow
import Derived.Lib.LaidTab
import Derived.WalkSpells
import Derived.DeepKeys5
import Derived.Maps.AppendAt
import Derived.Maps.RangeWalk
import Derived.Deep.Cut
import Derived.Deep.CutRange
import Derived.Maps.Keyed
import Derived.Laws.Tables
import Derived.Laws.Rows
import Derived.Laws.CopyOwn
import Derived.Deep.LoopGhost
import Derived.LaidMore
import Derived.HandedShaped
import Derived.Shelf.Vars
import Derived.MakeChecks
import Derived.Stop.LaidErr
import Derived.BigRegion
import Derived.Test.YtbbfjjjnifomgaaGreatDoorK1
import Derived.Test.YtbbfjjjnifomgaaGreatDoorK4
import Derived.Test.YtbbfjjjnifomgaaGreatDoorK19
import Derived.Test.YtbbfjjjnifomgaaGreatDoorK20
import Derived.Test.YtbbfjjjnifomgaaGreatDoorK22
import Derived.Test.YtbbfjjjnifomgaaGreatDoorK23
import Derived.Test.YtbbfjjjnifomgaaGreatDoorK26
import Derived.Test.YtbbfjjjnifomgaaGreatDoorK33
import Derived.Test.YtbbfjjjnifomgaaGreatDoorK40
import Derived.Test.YtbbfjjjnifomgaaGreatDoorK42
import Derived.Test.YtbbfjjjnifomgaaGreatDoorK44
import Derived.Test.YtbbfjjjnifomgaaGreatDoorK46
import Derived.Test.YtbbfjjjnifomgaaGreatDoorK25
import Derived.Test.YtbbfjjjnifomgaaGreatDoorK41
import Derived.Test.YtbbfjjjnifomgaaGreatDoorK45
namespace Go.Proofs.YtbbfjjjnifomgaaGreatDoor.A
open Go.RowKit Go.Maps
set_option linter.unusedVariables false

theorem disable (w : World) : (callFunc 139 #[]).run Tryz.prog w = .ok (.value (.tuple #[])) w := run_call_mark0 Tryz.func139 (by kernel_rfl) (by kernel_rfl) (by kernel_rfl) .disable (by kernel_rfl) w
theorem enable (w : World) : (callFunc 141 #[]).run Tryz.prog w = .ok (.value (.tuple #[])) w := run_call_mark0 Tryz.func141 (by kernel_rfl) (by kernel_rfl) (by kernel_rfl) .enable (by kernel_rfl) w
theorem acquire (a : Addr) (w : World) : (callFunc 142 #[.pointer (some a)]).run Tryz.prog w = .ok (.value (.tuple #[])) w := run_call_marked Tryz.func142 (by kernel_rfl) (by kernel_rfl) (by kernel_rfl) .acquire (by kernel_rfl) a w
theorem releaseMerge (a : Addr) (w : World) : (callFunc 144 #[.pointer (some a)]).run Tryz.prog w = .ok (.value (.tuple #[])) w := run_call_marked Tryz.func144 (by kernel_rfl) (by kernel_rfl) (by kernel_rfl) .releaseMerge (by kernel_rfl) a w

theorem store_deferred (a : Addr) (x : Value) (u : FrameMode) (w : World) (hc : w.cell? a = some x) (hz : w.frozen? a = false) :
    CallsD Tryz.prog 96 #[.pointer (some a), .bool true] u w fun e u' w' => u' = u ∧ (e = .returned (.tuple #[]) ∧ w' = w.drew.setCell a (.int .u32 1)) := by
  have hc' : w.drew.cell? a = some x := by go_simp
  have hz' : w.drew.frozen? a = false := by go_simp
  have hst := run_call_store (P := Tryz.prog) Tryz.func119 (by kernel_rfl) (by kernel_rfl) (by kernel_rfl) (by kernel_rfl) (k := .u32) (y := 1) hc' hz'
  go_enter_d Tryz.func96, Tryz.ntmps96
  go_wp2
  go_region_calls
  all_goals (go_end0; exact ⟨rfl, rfl⟩)

set_option maxRecDepth 100000 in
theorem unlock_deferred (a : Addr) (u : FrameMode) (w : World) (hc : w.cell? a = some (.int .i32 1)) (hz : w.frozen? a = false) :
    CallsD Tryz.prog 95 #[.pointer (some a)] u w fun e u' w' => u' = u ∧ (e = .returned (.tuple #[]) ∧ w' = w.setCell a (.int .i32 0)) := by
  have hd := disable
  have he := enable
  have hr := releaseMerge
  have hadd := run_call_add (P := Tryz.prog) Tryz.func145 (by kernel_rfl) (by kernel_rfl) (by kernel_rfl) .i32 (by kernel_rfl) (y := -1) (s := 0) hc hz (by simp [go_sem]; rfl)
  have hcv := run_convert_to_unsafe (P := Tryz.prog) (src := 195) (dst := 199) Tryz.underlying195 Tryz.underlying199 (by kernel_rfl) hc
  go_enter_d Tryz.func95, Tryz.ntmps95
  go_wp2
  go_end0
  go_wp2
  go_end0
  exact ⟨rfl, rfl⟩

set_option maxRecDepth 100000 in
theorem lock_free (a : Addr) (w : World) (hc : w.cell? a = some (.int .i32 0)) (hz : w.frozen? a = false) :
    Calls Tryz.prog 94 #[.pointer (some a)] w fun e w' => e = .returned (.tuple #[]) ∧ w' = w.setCell a (.int .i32 1) := by
  have hd := disable
  have he := enable
  have ha := acquire
  have hcas := run_call_cas_hit (P := Tryz.prog) Tryz.func140 (by kernel_rfl) (by kernel_rfl) (by kernel_rfl) .i32 (by kernel_rfl) (y := 1) hc hz
  have hc' : (w.setCell a (.int .i32 1)).cell? a = some (.int .i32 1) := World.cell?_setCell_same w a _ hc
  have hcv := run_convert_to_unsafe (P := Tryz.prog) (src := 195) (dst := 199) Tryz.underlying195 Tryz.underlying199 (by kernel_rfl) hc'
  go_enter Tryz.func94, Tryz.ntmps94
  go_wp2
  first | go_end0 | (simp only [Exit.inBlock, Exit.then]; refine bodyPost_ret (results_none rfl _ _ _) rfl ?_) | refine bodyPost_ret (results_none rfl _ _ _) rfl ?_
  go_wp2
  go_end0
  exact ⟨rfl, rfl⟩

theorem grown_set {w wr : World} {tb : Nat} (h : w.grownBy wr (some tb)) (a : Addr) (u : Value) (ha : a.block = tb ∨ w.heap.size ≤ a.block) : w.grownBy (wr.setCell a u) (some tb) := by
  refine ⟨h.os, h.tape, h.output, by simpa using h.size, fun k hk hne => ?_⟩
  rw [Below.heap_setCell _ _ _ _ (by
    rcases ha with e | e
    · rw [e]; exact fun q => hne (by rw [q])
    · omega)]
  exact h.block k hk hne
theorem grown_more {w wr w1 : World} {tb : Nat} {row : Option Nat} (h : w.grownBy wr (some tb)) (hg : wr.grownBy w1 row) (hr : ∀ k, row = some k → w.heap.size ≤ k ∨ k = tb) : w.grownBy w1 (some tb) := by
  refine ⟨hg.os.trans h.os, hg.tape.trans h.tape, hg.output.trans h.output, Nat.le_trans h.size hg.size, fun k hk hne => ?_⟩
  rw [hg.block k (Nat.lt_of_lt_of_le hk h.size) (fun q => by
    rcases hr k q.symm with e | e
    · omega
    · exact hne (by rw [e]))]
  exact h.block k hk hne
theorem grown_refl (w : World) (row : Option Nat) : w.grownBy w row := ⟨rfl, rfl, rfl, Nat.le_refl _, fun _ _ _ => rfl⟩
theorem grown_drew {w w' : World} {row : Option Nat} (h : w.grownBy w' row) : w.grownBy w'.drew row := ⟨h.os, h.tape, h.output, h.size, h.block⟩

theorem do_done (a : Addr) (fv : Value) (w : World) (h0 : w.cell? a = some (.int .u32 1)) :
    Calls Tryz.prog 58 #[.pointer (some a), fv] w fun e w' => e = .returned (.tuple #[]) ∧ w' = w := by
  have hl := run_call_load (P := Tryz.prog) Tryz.func93 (by kernel_rfl) (by kernel_rfl) (by kernel_rfl) .u32 (by kernel_rfl) h0
  have hnot : ∀ (x : Bool) (w : World), (Op.unary .not (.bool x)).run Tryz.prog w = .ok (.bool (!x)) w := fun _ _ => rfl
  go_enter Tryz.func58, Tryz.ntmps58
  go_wp2
  go_end0
  exact ⟨rfl, rfl⟩

/-- The number of pieces. -/
theorem add_any (a : Addr) (n y : Int) (w : World) (hc : w.cell? a = some (.int .i64 n)) (hz : w.frozen? a = false) (h0 : 0 ≤ n) (h1 : n < 4611686018427387904) (h2 : 0 ≤ y) (h3 : y < 4611686018427387904) :
    Calls Tryz.prog 37 #[.pointer (some a), .int .i64 y] w fun e w' => e = .returned (.int .i64 (n + y)) ∧ w' = w.setCell a (.int .i64 (n + y)) := by
  have hadd := run_call_add (P := Tryz.prog) Tryz.func60 (by kernel_rfl) (by kernel_rfl) (by kernel_rfl) .i64 (by kernel_rfl) (y := y) (s := n + y) hc hz (by simp [go_sem]; rw [IntKind.wrap_i64]; omega)
  go_enter Tryz.func37, Tryz.ntmps37
  go_wp2
  go_ret
  exact ⟨rfl, rfl⟩
theorem loadn_any (a : Addr) (n : Int) (w : World) (hc : w.cell? a = some (.int .i64 n)) :
    Calls Tryz.prog 38 #[.pointer (some a)] w fun e w' => e = .returned (.int .i64 n) ∧ w' = w := by
  have hl := run_call_load (P := Tryz.prog) Tryz.func61 (by kernel_rfl) (by kernel_rfl) (by kernel_rfl) .i64 (by kernel_rfl) hc
  go_enter Tryz.func38, Tryz.ntmps38
  go_wp2
  go_ret
  exact ⟨rfl, rfl⟩
end Go.Proofs.YtbbfjjjnifomgaaGreatDoor.A


/- A scanner is made ready, once. -/
namespace Go.Proofs.YtbbfjjjnifomgaaGreatDoor.A
open Go.RowKit
set_option linter.unusedVariables false

theorem sk_put5 {w : World} {q : Nat} {x b o1 o2 o3 m0 m1 : Value} {f c : Int} (h : Sk w q x b o1 o2 o3 m0 m1 f c) (u : Value) : Sk (w.setCell ⟨q, 5, none⟩ u) q x b o1 o2 o3 u m1 f c := by
  unfold Sk; rw [sk_set h 5 u]; simp
theorem sk_put6 {w : World} {q : Nat} {x b o1 o2 o3 m0 m1 : Value} {f c : Int} (h : Sk w q x b o1 o2 o3 m0 m1 f c) (u : Value) : Sk (w.setCell ⟨q, 6, none⟩ u) q x b o1 o2 o3 m0 u f c := by
  unfold Sk; rw [sk_set h 6 u]; simp
theorem sk_put0 {w : World} {q : Nat} {x b o1 o2 o3 m0 m1 : Value} {f c : Int} (h : Sk w q x b o1 o2 o3 m0 m1 f c) (u : Value) : Sk (w.setCell ⟨q, 0, none⟩ u) q u b o1 o2 o3 m0 m1 f c := by
  unfold Sk; rw [sk_set h 0 u]; simp
theorem sk_put2 {w : World} {q : Nat} {x b o1 o2 o3 m0 m1 : Value} {f c : Int} (h : Sk w q x b o1 o2 o3 m0 m1 f c) (u : Value) : Sk (w.setCell ⟨q, 2, none⟩ u) q x b u o2 o3 m0 m1 f c := by
  unfold Sk; rw [sk_set h 2 u]; simp
theorem sk_put3 {w : World} {q : Nat} {x b o1 o2 o3 m0 m1 : Value} {f c : Int} (h : Sk w q x b o1 o2 o3 m0 m1 f c) (u : Value) : Sk (w.setCell ⟨q, 3, none⟩ u) q x b o1 u o3 m0 m1 f c := by
  unfold Sk; rw [sk_set h 3 u]; simp
theorem sk_put7 {w : World} {q : Nat} {x b o1 o2 o3 m0 m1 : Value} {f c : Int} (h : Sk w q x b o1 o2 o3 m0 m1 f c) (u : Int) : Sk (w.setCell ⟨q, 7, none⟩ (.int .i64 u)) q x b o1 o2 o3 m0 m1 u c := by
  unfold Sk; rw [sk_set h 7 (.int .i64 u)]; simp
theorem sk_put8 {w : World} {q : Nat} {x b o1 o2 o3 m0 m1 : Value} {f c : Int} (h : Sk w q x b o1 o2 o3 m0 m1 f c) (u : Int) : Sk (w.setCell ⟨q, 8, none⟩ (.int .i64 u)) q x b o1 o2 o3 m0 m1 f u := by
  unfold Sk; rw [sk_set h 8 (.int .i64 u)]; simp

/-- What the smallest machine of what Build told is. -/
theorem sm0_small {nx0 : List (List Int)} {ru0 : List Int} {z : Int} {N : Nat} {t : List (Ex N)} (hM : Mac t nx0 ru0 z) (a0 a1 : Option Addr) (c0 c1 : Nat) (w : World) (hd : Dr w a0 nx0) (hw : Wd w a1 ru0) :
    Calls Tryz.prog 82 #[.agg #[.slice a0 nx0.length c0, .slice a1 ru0.length c1]] w fun e w' => ∃ nx ru b0 b1 d0 d1, Sm0 nx0 ru0 z nx ru ∧ e = .returned (.agg #[.slice b0 nx.length d0, .slice b1 ru.length d1]) ∧ Dr w' b0 nx ∧ Wd w' b1 ru ∧ Below w.heap.size w w' ∧ (∀ a, b0 = some a → w.heap.size ≤ a.block) ∧ (∀ a, b1 = some a → w.heap.size ≤ a.block) ∧ (nx = [] → b0 = none ∧ b1 = none) := by
  rcases hM.fact with ⟨h0, rfl, rfl⟩ | ⟨h0, hr, h16, -⟩
  · refine (msmall_no a0 a1 0 0 c0 c1 [] [] w ⟨rfl, rfl, hd, hw, Nat.zero_le _, Nat.zero_le _⟩ (by decide)).mono fun e w' ⟨he, hb⟩ => ?_
    exact ⟨[], [], none, none, 0, 0, .inl ⟨h0, rfl, rfl⟩, he, fun i x hx => by simp at hx, fun i x hx => by simp at hx, hb, by simp, by simp, fun _ => ⟨rfl, rfl⟩⟩
  · obtain ⟨h1, h2, h3, -⟩ := right_open hr
    have hx := mx_of hr h16
    have := msmall_yes a0 a1 nx0.length c0 c1 nx0 ru0 w ⟨rfl, h3, hd, hw, by unfold maxLen; omega, by unfold maxLen; omega⟩ hr hx
    rw [h3]
    refine this.mono fun e w' ⟨F, hF, b0, b1, d0, d1, he, q1, q2, q3, q4, q5⟩ => ?_
    obtain ⟨m, hm⟩ : ∃ m, m = 201 := ⟨_, rfl⟩
    rw [← hm] at he q1 q2
    have hso := smOf_cl hm ⟨hx, ac_alk hF, gc_live hF⟩
    have hpos := (smOf_eqo hso).2.1.pos
    exact ⟨_, _, b0, b1, d0, d1, .inr ⟨h0, hso⟩, he, q1, q2, q3, q4, q5, fun e => by rw [e] at hpos; simp at hpos⟩

/-- What has been built. -/
def Bu (w : World) (q : Nat) (b o1 o2 o3 : Value) (nx0 : List (List Int)) (ru0 : List Int) (z : Int) (w' : World) : Prop := w.grownBy w' (some q) ∧ ∃ nx ru a0 a1 c0 c1, Sm0 nx0 ru0 z nx ru ∧ Sk w' q (.slice none 0 0) b o1 o2 o3 (.slice a0 nx.length c0) (.slice a1 ru.length c1) z 0 ∧ Dr w' a0 nx ∧ Wd w' a1 ru ∧ (∀ x, a0 = some x → w.heap.size ≤ x.block) ∧ (∀ x, a1 = some x → w.heap.size ≤ x.block) ∧ (nx = [] → a0 = none ∧ a1 = none)

set_option maxRecDepth 100000 in
set_option maxHeartbeats 3200000 in
theorem build_any9 (q N : Nat) (ps : List (Rl × Nd)) (x b o1 o2 o3 : Value) (nx0 : List (List Int)) (ru0 : List Int) (z : Int) (w : World) (hs : Sk w q x b o1 o2 o3 (.slice none 0 0) (.slice none 0 0) 0 0) (hx : Mkx (q + 1) w ps x) (hN : ∀ p ∈ ps, p.1.n ≤ N) (hl : ps.length ≤ 16) (hM : Mac (exsL N (ps.map (·.1))) nx0 ru0 z) (ht : Tab w.heap.size w) :
    Calls Tryz.prog 59 #[.pointer (some ⟨q, 0, none⟩)] w fun e w' => e = .returned (.tuple #[]) ∧ Bu w q b o1 o2 o3 nx0 ru0 z w' := by
  obtain ⟨a, c, rfl, hex⟩ := mkx_exs hx hN
  have HS := hide hs
  have HM := hide hM
  have HC := hide (hM.prog a ps.length c w (by simp [exsL]) (by unfold maxLen; omega) hex ht)
  obtain ⟨g0, -⟩ := sk_cells hs
  clear hs hx hM hex ht
  go_enter Tryz.func59, Tryz.ntmps59
  go_wp2_with fail
  refine HC.out.mono ?_
  rintro e w1 ⟨a0, a1, c0, c1, rfl, hdr, hwd, hb1⟩
  have hbA := (Below.refl w1.heap.size w1).alloc (Nat.le_refl _) (.cells #[.slice a0 nx0.length c0, .slice a1 ru0.length c1] 25)
  have HDR := hide (dr_below hbA hdr)
  have HWD := hide (wd_below hbA hwd)
  have HSA := hide (sk_below (sk_below HS.out hb1) hbA)
  have HBA := hide (hb1.alloc hb1.size (.cells #[.slice a0 nx0.length c0, .slice a1 ru0.length c1] 25))
  clear hb1 hbA hdr hwd HC g0
  go_wp2_with fail
  generalize w1.alloc (.cells #[.slice a0 nx0.length c0, .slice a1 ru0.length c1] 25) = W at *
  refine (sm0_small HM.out a0 a1 c0 c1 W HDR.out HWD.out).mono ?_
  rintro e w2 ⟨nx, ru, b0, b1, d0, d1, hsm, rfl, hd2, hw2, hb2, hu0, hu1, hnil⟩
  have h0 := sk_below HSA.out hb2
  have h4 := sk_put0 (sk_put7 (sk_put6 (sk_put5 h0 (.slice b0 nx.length d0)) (.slice b1 ru.length d1)) z) (.slice none 0 0)
  have hgw : w.grownBy ((((w2.setCell ⟨q, 5, none⟩ (.slice b0 nx.length d0)).setCell ⟨q, 6, none⟩ (.slice b1 ru.length d1)).setCell ⟨q, 7, none⟩ (.int .i64 z)).setCell ⟨q, 0, none⟩ (.slice none 0 0)) (some q) := by
    have g0 : w.grownBy w2 (some q) := gb_below (HBA.out.trans (hb2.mono HBA.out.size))
    have g1 := grown_set g0 ⟨q, 5, none⟩ (.slice b0 nx.length d0) (.inl rfl)
    have g2 := grown_set g1 ⟨q, 6, none⟩ (.slice b1 ru.length d1) (.inl rfl)
    have g3 := grown_set g2 ⟨q, 7, none⟩ (.int .i64 z) (.inl rfl)
    exact grown_set g3 ⟨q, 0, none⟩ (.slice none 0 0) (.inl rfl)
  have hq := sk_lt HSA.out
  have hkp : ∀ k, q < k → k < w2.heap.size → ((((w2.setCell ⟨q, 5, none⟩ (.slice b0 nx.length d0)).setCell ⟨q, 6, none⟩ (.slice b1 ru.length d1)).setCell ⟨q, 7, none⟩ (.int .i64 z)).setCell ⟨q, 0, none⟩ (.slice none 0 0)).heap[k]? = w2.heap[k]? := fun k hk _ => by
    have hne : k ≠ q := by omega
    rw [Below.heap_setCell _ _ _ _ hne, Below.heap_setCell _ _ _ _ hne, Below.heap_setCell _ _ _ _ hne, Below.heap_setCell _ _ _ _ hne]
  have hup0 : Up9 q b0 := fun a ha => by have := hu0 a ha; omega
  have hup1 : Up9 q b1 := fun a ha => by have := hu1 a ha; omega
  have hwW := HBA.out.size
  have hh0 : ∀ x, b0 = some x → w.heap.size ≤ x.block := fun a ha => by have := hu0 a ha; omega
  have hh1 : ∀ x, b1 = some x → w.heap.size ≤ x.block := fun a ha => by have := hu1 a ha; omega
  have HF := hide (show Bu w q b o1 o2 o3 nx0 ru0 z ((((w2.setCell ⟨q, 5, none⟩ (.slice b0 nx.length d0)).setCell ⟨q, 6, none⟩ (.slice b1 ru.length d1)).setCell ⟨q, 7, none⟩ (.int .i64 z)).setCell ⟨q, 0, none⟩ (.slice none 0 0)) from ⟨hgw, nx, ru, b0, b1, d0, d1, hsm, h4, dr_move hd2 hup0 hkp, wd_move hw2 hup1 hkp, hh0, hh1, hnil⟩)
  obtain ⟨e0, e1, e2, e3, e4, e5, e6, e7, e8⟩ := sk_cells h0
  have f0 := sk_free h0 0
  have f5 := sk_free h0 5
  have f6 := sk_free h0 6
  have f7 := sk_free h0 7
  clear h0 h4 hgw hkp hup0 hup1 hh0 hh1 hwW hnil hd2 hw2 hb2 hu0 hu1 hsm
  go_wp2
  go_end0
  exact ⟨rfl, HF.out⟩
end Go.Proofs.YtbbfjjjnifomgaaGreatDoor.A


/- Once: the scanner is ready. -/
namespace Go.Proofs.YtbbfjjjnifomgaaGreatDoor.A
open Go.RowKit Go.Maps
set_option linter.unusedVariables false

theorem gb_low {w w' : World} {q B : Nat} (h : w.grownBy w' (some q)) (hB : B ≤ q) (hq : q < w.heap.size) : Below B w w' :=
  ⟨h.os, h.tape, h.output, h.size, fun b hb => h.block b (by omega) (fun e => by have := Option.some.inj e; omega)⟩
theorem drew_heap (w : World) : w.drew.heap = w.heap := rfl

set_option maxRecDepth 100000 in
set_option maxHeartbeats 3200000 in
theorem slow_any9 (q N B : Nat) (ps : List (Rl × Nd)) (x b : Value) (nx0 : List (List Int)) (ru0 : List Int) (z : Int) (w : World) (hs : Sk w q x b (.int .u32 0) (.int .i32 0) (.int .u32 0) (.slice none 0 0) (.slice none 0 0) 0 0) (hx : Mkx (q + 1) w ps x) (hN : ∀ p ∈ ps, p.1.n ≤ N) (hl : ps.length ≤ 16) (hM : Mac (exsL N (ps.map (·.1))) nx0 ru0 z) (hB : B ≤ q) (ht : Tab B w) :
    Calls Tryz.prog 80 #[.pointer (some ⟨q, 2, none⟩), .func (.func 59) #[.pointer (some ⟨q, 0, none⟩)] #[]] w fun e w' => e = .returned (.tuple #[]) ∧ Bu w q b (.int .u32 1) (.int .i32 0) (.int .u32 0) nx0 ru0 z w' := by
  have hst1 := sk_put3 hs (.int .i32 1)
  have hg1 := grown_set (grown_refl w (some q)) ⟨q, 3, none⟩ (.int .i32 1) (.inl rfl)
  have hq := sk_lt hs
  have hmk1 := mkx_kept hx (keep_gb hg1 (Nat.lt_succ_self q))
  have ht1 : Tab (w.setCell ⟨q, 3, none⟩ (.int .i32 1)).heap.size (w.setCell ⟨q, 3, none⟩ (.int .i32 1)) := tab_up (tab_on ht (gb_low hg1 hB hq)) (by simp; omega)
  have hld := run_call_load (P := Tryz.prog) Tryz.func93 (by kernel_rfl) (by kernel_rfl) (by kernel_rfl) .u32 (by kernel_rfl) (w := w.setCell ⟨q, 3, none⟩ (.int .i32 1)) (a := ⟨q, 2, none⟩) (x := 0) (sk_cells hst1).2.2.1
  have hnot : ∀ (x : Bool) (w : World), (Op.unary .not (.bool x)).run Tryz.prog w = .ok (.bool (!x)) w := fun _ _ => rfl
  have hlk := (sk_cells hs).2.2.2.1
  have hfz := sk_free hs 3
  have HC := hide (And.intro hlk hfz)
  have HST := hide hst1
  have HG := hide hg1
  have HMK := hide hmk1
  have HT := hide ht1
  have HM := hide hM
  clear hs hst1 hg1 hlk hfz hmk1 ht1 hx ht hM
  go_enter_defers Tryz.func80, Tryz.ntmps80
  go_wp2_with (first | (go_at_call 94; refine (lock_free ⟨q, 3, none⟩ _ HC.out.1 HC.out.2).mono ?_; rintro e w' ⟨rfl, rfl⟩) | (go_at_call 79; go_in) | (go_at_call 59; refine (build_any9 q N ps x b (.int .u32 0) (.int .i32 1) (.int .u32 0) nx0 ru0 z _ HST.out HMK.out hN hl HM.out HT.out).mono ?_; rintro e w2 ⟨rfl, hg2, nx, ru, a0, a1, c0, c1, hsm, hsk, hdr, hwd, hu0, hu1, hnil⟩))
  go_wp2
  obtain ⟨-, -, e2, e3, -⟩ := sk_cells hsk
  have bf1 := sk_free hsk
  refine leaves_cons (f := 96) (args := #[.pointer (some ⟨q, 2, none⟩), .bool true]) (by simp) (by simp [go_sem]) ?_
  refine (store_deferred ⟨q, 2, none⟩ (.int .u32 0) .returning _ e2 (bf1 2)).mono ?_
  rintro e u' w'' ⟨rfl, rfl, rfl⟩
  have hsk0 : Sk w2.drew q (.slice none 0 0) b (.int .u32 0) (.int .i32 1) (.int .u32 0) (.slice a0 nx.length c0) (.slice a1 ru.length c1) z 0 := hsk
  have hsk1 := sk_put2 hsk0 (.int .u32 1)
  have hg3 := grown_set (grown_drew (grown_more HG.out hg2 (fun k e => .inr (by cases e; rfl)))) ⟨q, 2, none⟩ (.int .u32 1) (.inl rfl)
  obtain ⟨-, -, -, e3', -⟩ := sk_cells hsk1
  have bf2 := sk_free hsk1
  refine leaves_cons (f := 95) (args := #[.pointer (some ⟨q, 3, none⟩)]) (by simp [settle]) (by simp [go_sem]) ?_
  refine (unlock_deferred ⟨q, 3, none⟩ _ _ e3' (bf2 3)).mono ?_
  rintro e u' w'' ⟨rfl, rfl, rfl⟩
  have hsk2 := sk_put3 hsk1 (.int .i32 0)
  have hg4 := grown_set hg3 ⟨q, 3, none⟩ (.int .i32 0) (.inl rfl)
  have hkp : ∀ k, q < k → k < w2.heap.size → ((w2.drew.setCell ⟨q, 2, none⟩ (.int .u32 1)).setCell ⟨q, 3, none⟩ (.int .i32 0)).heap[k]? = w2.heap[k]? := fun k hk _ => by
    have hne : k ≠ q := by omega
    rw [Below.heap_setCell _ _ _ _ hne, Below.heap_setCell _ _ _ _ hne, drew_heap]
  have hdr2 := dr_move hdr (q := q) (fun x hx => by have := hu0 x hx; simp at this; omega) hkp
  have hwd2 := wd_move hwd (q := q) (fun x hx => by have := hu1 x hx; simp at this; omega) hkp
  simp [Leaves, settle, results, Tryz.results80]
  exact ⟨hg4, nx, ru, a0, a1, c0, c1, hsm, hsk2, hdr2, hwd2, fun x hx => by simpa using hu0 x hx, fun x hx => by simpa using hu1 x hx, hnil⟩

set_option maxRecDepth 100000 in
set_option maxHeartbeats 3200000 in
theorem do_first9 (q N B : Nat) (ps : List (Rl × Nd)) (x b : Value) (nx0 : List (List Int)) (ru0 : List Int) (z : Int) (w : World) (hs : Sk w q x b (.int .u32 0) (.int .i32 0) (.int .u32 0) (.slice none 0 0) (.slice none 0 0) 0 0) (hx : Mkx (q + 1) w ps x) (hN : ∀ p ∈ ps, p.1.n ≤ N) (hl : ps.length ≤ 16) (hM : Mac (exsL N (ps.map (·.1))) nx0 ru0 z) (hB : B ≤ q) (ht : Tab B w) :
    Calls Tryz.prog 58 #[.pointer (some ⟨q, 2, none⟩), .func (.func 59) #[.pointer (some ⟨q, 0, none⟩)] #[]] w fun e w' => e = .returned (.tuple #[]) ∧ Bu w q b (.int .u32 1) (.int .i32 0) (.int .u32 0) nx0 ru0 z w' := by
  have hld := run_call_load (P := Tryz.prog) Tryz.func93 (by kernel_rfl) (by kernel_rfl) (by kernel_rfl) .u32 (by kernel_rfl) (w := w) (a := ⟨q, 2, none⟩) (x := 0) (sk_cells hs).2.2.1
  have hnot : ∀ (x : Bool) (w : World), (Op.unary .not (.bool x)).run Tryz.prog w = .ok (.bool (!x)) w := fun _ _ => rfl
  have HS := hide (slow_any9 q N B ps x b nx0 ru0 z w hs hx hN hl hM hB ht)
  clear hs hx hM ht
  go_enter Tryz.func58, Tryz.ntmps58
  go_wp2_with (first | (go_at_call 80; refine HS.out.mono ?_; rintro e w2 ⟨rfl, hbu⟩) | (go_at_call 79; go_in))
  go_end0
  exact ⟨rfl, hbu⟩
end Go.Proofs.YtbbfjjjnifomgaaGreatDoor.A


/- A scanner's machine, as it is asked for. -/
namespace Go.Proofs.YtbbfjjjnifomgaaGreatDoor.A
open Go.RowKit
set_option linter.unusedVariables false

/-- A scanner, made or ready; how many pieces it cut. -/
def Scs (w : World) (q : Nat) (l : List Rl) (nx0 : List (List Int)) (ru0 : List Int) (z c : Int) : Prop := (c = 0 ∧ ScN w q l) ∨ ∃ nx ru, Sm0 nx0 ru0 z nx ru ∧ ScR w q l nx ru z c
theorem scs_below {w w' : World} {q : Nat} {l : List Rl} {nx0 : List (List Int)} {ru0 : List Int} {z c : Int} (h : Scs w q l nx0 ru0 z c) (hb : Below w.heap.size w w') : Scs w' q l nx0 ru0 z c := by
  rcases h with ⟨h0, h⟩ | ⟨nx, ru, h0, h⟩
  · exact .inl ⟨h0, scn_below h hb⟩
  · exact .inr ⟨nx, ru, h0, scr_below h hb⟩
theorem scs_lt {w : World} {q : Nat} {l : List Rl} {nx0 : List (List Int)} {ru0 : List Int} {z c : Int} (h : Scs w q l nx0 ru0 z c) : q < w.heap.size := by
  rcases h with ⟨h0, h⟩ | ⟨nx, ru, h0, h⟩
  · exact scn_lt h
  · exact scr_lt h
/-- What ready tells. -/
def Rdy (w : World) (q : Nat) (l : List Rl) (nx0 : List (List Int)) (ru0 : List Int) (z c : Int) (e : Ending) (w' : World) : Prop :=
  ∃ nx ru a0 a1 c0 c1, Sm0 nx0 ru0 z nx ru ∧ e = .returned (.tuple #[.agg #[.slice a0 nx.length c0, .slice a1 ru.length c1], .int .i64 z]) ∧ Dr w' a0 nx ∧ Wd w' a1 ru ∧ ScR w' q l nx ru z c ∧ w.grownBy w' (some q) ∧ (nx = [] → a0 = none ∧ a1 = none)

theorem ready_end {w w2 : World} {q r : Nat} {l : List Rl} {nx0 : List (List Int)} {ru0 : List Int} {z c : Int} {b : Value} {nx : List (List Int)} {ru : List Int} {a0 a1 : Option Addr} {c0 c1 : Nat} (hr : w.heap.size = r) (hq : q < r) (hsm : Sm0 nx0 ru0 z nx ru)
    (hsk : Sk w2 q (.slice none 0 0) b (.int .u32 1) (.int .i32 0) (.int .u32 0) (.slice a0 nx.length c0) (.slice a1 ru.length c1) z c) (hd : Dr w2 a0 nx) (hw : Wd w2 a1 ru) (hu0 : ∀ x, a0 = some x → q < x.block ∧ x.block ≠ r) (hu1 : ∀ x, a1 = some x → q < x.block ∧ x.block ≠ r) (hbo : w.ownsRow (q + 1) 4 1 b l.length (brV l)) (hg : w.grownBy w2 (some q)) (hnil : nx = [] → a0 = none ∧ a1 = none) (u v : Value) :
    Dr ((w2.setCell ⟨r, 0, none⟩ u).setCell ⟨r, 1, none⟩ v).drew a0 nx ∧ Wd ((w2.setCell ⟨r, 0, none⟩ u).setCell ⟨r, 1, none⟩ v).drew a1 ru ∧ ScR ((w2.setCell ⟨r, 0, none⟩ u).setCell ⟨r, 1, none⟩ v).drew q l nx ru z c ∧ w.grownBy ((w2.setCell ⟨r, 0, none⟩ u).setCell ⟨r, 1, none⟩ v).drew (some q) := by
  have hk : ∀ b, b ≠ r → ((w2.setCell ⟨r, 0, none⟩ u).setCell ⟨r, 1, none⟩ v).drew.heap[b]? = w2.heap[b]? := fun b hb => by
    rw [drew_heap, Below.heap_setCell _ _ _ _ hb, Below.heap_setCell _ _ _ _ hb]
  have d : Dr ((w2.setCell ⟨r, 0, none⟩ u).setCell ⟨r, 1, none⟩ v).drew a0 nx := fun i row hr' => by
    obtain ⟨h1, b', off, e, h2⟩ := hd i row hr'
    exact ⟨h1, b', off, e, fun j v hj => (World.cell?_of_block (hk b' (hu0 _ e).2)).trans (h2 j v hj)⟩
  have m : Wd ((w2.setCell ⟨r, 0, none⟩ u).setCell ⟨r, 1, none⟩ v).drew a1 ru := fun i c' hc => by
    obtain ⟨b', off, e, h2⟩ := hw i c' hc
    exact ⟨b', off, e, (World.cell?_of_block (hk b' (hu1 _ e).2)).trans h2⟩
  refine ⟨d, m, ⟨b, a0, a1, c0, c1, ?_, d, m, fun x hx => (hu0 x hx).1, fun x hx => (hu1 x hx).1, ?_, hnil⟩, ?_⟩
  · exact sk_other (sk_other hsk (a := ⟨r, 0, none⟩) (by show r ≠ q; omega) u) (a := ⟨r, 1, none⟩) (by show r ≠ q; omega) v
  · refine own_up hbo fun k h1 h2 => ?_
    rw [hk k (by omega), hg.block k h2 (fun e => by have := Option.some.inj e; omega)]
  · exact grown_drew (grown_set (grown_set hg ⟨r, 0, none⟩ u (.inr (by show w.heap.size ≤ r; omega))) ⟨r, 1, none⟩ v (.inr (by show w.heap.size ≤ r; omega)))

set_option maxRecDepth 100000 in
set_option maxHeartbeats 3200000 in
theorem ready_any (q N B : Nat) (l : List Rl) (nx0 : List (List Int)) (ru0 : List Int) (z c : Int) (w : World) (hs : Scs w q l nx0 ru0 z c) (hN : ∀ x ∈ l, x.n ≤ N) (hl : l.length ≤ 16) (hM : Mac (exsL N l) nx0 ru0 z) (hB : B ≤ q) (ht : Tab B w) :
    Calls Tryz.prog 34 #[.pointer (some ⟨q, 0, none⟩)] w (Rdy w q l nx0 ru0 z c) := by
  obtain ⟨r, hr⟩ : ∃ r, w.heap.size = r := ⟨_, rfl⟩
  have hqr : q < r := hr ▸ scs_lt hs
  have HR := hide hr
  have hbA := (Below.refl w.heap.size w).alloc (Nat.le_refl _) (.cells #[.slice none 0 0, .slice none 0 0] 25)
  have HBX := hide (show (w.alloc (.cells #[.slice none 0 0, .slice none 0 0] 25)).heap[r]? = some (.cells #[.slice none 0 0, .slice none 0 0] 25 (0, 0)) from hr ▸ heap_alloc_last w _)
  have HSZ := hide (show (w.alloc (.cells #[.slice none 0 0, .slice none 0 0] 25)).heap.size = r + 1 by simp [hr])
  have HBA := hide hbA
  have HT := hide (tab_on ht (hbA.mono (by omega)))
  have HM := hide hM
  have hrq : r ≠ q := by omega
  have hqr' : q ≠ r := by omega
  rcases hs with ⟨rfl, hs⟩ | ⟨nx, ru, hsm, hs⟩
  · obtain ⟨ps, x, b, rfl, hsk, hmk, hbo⟩ := hs
    have HD := hide (do_first9 q N B ps x b nx0 ru0 z (w.alloc (.cells #[.slice none 0 0, .slice none 0 0] 25)) (sk_below hsk hbA) (mkx_below hmk hbA) (fun p hp => hN p.1 (List.mem_map_of_mem hp)) (by simpa using hl) hM hB HT.out)
    have HBO := hide hbo
    clear hsk hmk hbA ht hM hr hbo
    go_enter Tryz.func34, Tryz.ntmps34
    go_wp2_with (first | (go_at_call 58; refine HD.out.mono ?_; rintro e w2 ⟨rfl, hg2, nx, ru, a0, a1, c0, c1, hsm, hsk, hdr, hwd, hu0, hu1, hnil⟩))
    rw [HSZ.out] at hu0 hu1
    have HE := hide (ready_end HR.out hqr hsm hsk hdr hwd (fun x hx => by have := hu0 x hx; omega) (fun x hx => by have := hu1 x hx; omega) HBO.out (gb_trans (gb_below HBA.out) hg2) hnil (.slice a0 nx.length c0) (.slice a1 ru.length c1))
    have HX2 := hide ((hg2.block r (by rw [HSZ.out]; omega) (fun e => hrq (Option.some.inj e))).trans HBX.out)
    have HSM := hide hsm
    obtain ⟨-, -, -, -, -, e5, e6, e7, -⟩ := sk_cells hsk
    obtain ⟨x0, x1, xz⟩ := d_cells HX2.out
    have xz0 := xz 0
    have xz1 := xz 1
    rw [HR.out]
    clear hg2 hsm hsk hdr hwd hu0 hu1 xz
    go_region_held3 (fun w' => w'.cell? ⟨q, 5, none⟩ = some (.slice a0 nx.length c0) ∧ w'.cell? ⟨q, 6, none⟩ = some (.slice a1 ru.length c1) ∧ w'.cell? ⟨q, 7, none⟩ = some (.int .i64 z)) (go_keep) (fail)
    go_wp2
    obtain ⟨m0, m1, -⟩ := d_cells (set2 (x := .slice a0 nx.length c0) (y := .slice a1 ru.length c1) HX2.out)
    refine bodyPost_ret (v := .tuple #[.agg #[.slice a0 nx.length c0, .slice a1 ru.length c1], .int .i64 z]) (by simp [results, Tryz.results34, go_sem, m0, m1]) rfl ?_
    exact ⟨nx, ru, a0, a1, c0, c1, HSM.out, rfl, HE.out.1, HE.out.2.1, HE.out.2.2.1, HE.out.2.2.2, hnil⟩
  · obtain ⟨b, a0, a1, c0, c1, hsk, hdr, hwd, hu0, hu1, hbo, hnil⟩ := hs
    have hsk1 := sk_below hsk hbA
    have HD := hide (do_done ⟨q, 2, none⟩ (.func (.func 59) #[.pointer (some ⟨q, 0, none⟩)] #[]) _ (sk_cells hsk1).2.2.1)
    have HE := hide (fun (u v : Value) => show Dr (((w.alloc (.cells #[.slice none 0 0, .slice none 0 0] 25)).setCell ⟨r, 0, none⟩ u).setCell ⟨r, 1, none⟩ v).drew a0 nx ∧ Wd (((w.alloc (.cells #[.slice none 0 0, .slice none 0 0] 25)).setCell ⟨r, 0, none⟩ u).setCell ⟨r, 1, none⟩ v).drew a1 ru ∧ ScR (((w.alloc (.cells #[.slice none 0 0, .slice none 0 0] 25)).setCell ⟨r, 0, none⟩ u).setCell ⟨r, 1, none⟩ v).drew q l nx ru z c ∧ w.grownBy (((w.alloc (.cells #[.slice none 0 0, .slice none 0 0] 25)).setCell ⟨r, 0, none⟩ u).setCell ⟨r, 1, none⟩ v).drew (some q) from by
      have hbF : Below w.heap.size w (((w.alloc (.cells #[.slice none 0 0, .slice none 0 0] 25)).setCell ⟨r, 0, none⟩ u).setCell ⟨r, 1, none⟩ v).drew := ((hbA.setCell (p := ⟨r, 0, none⟩) (by show w.heap.size ≤ r; omega) u).setCell (p := ⟨r, 1, none⟩) (by show w.heap.size ≤ r; omega) v).drew
      exact ⟨dr_below hbF hdr, wd_below hbF hwd, scr_below ⟨b, a0, a1, c0, c1, hsk, hdr, hwd, hu0, hu1, hbo, hnil⟩ hbF, gb_below hbF⟩)
    have HSM := hide hsm
    obtain ⟨-, -, -, -, -, e5, e6, e7, -⟩ := sk_cells hsk1
    clear hsk hsk1 hdr hwd hu0 hu1 hbo hbA ht hM hsm
    go_enter Tryz.func34, Tryz.ntmps34
    go_wp2_with (first | (go_at_call 58; refine HD.out.mono ?_; rintro e w2 ⟨rfl, rfl⟩))
    try rw [HR.out]
    generalize w.alloc (.cells #[.slice none 0 0, .slice none 0 0] 25) = w2 at *
    obtain ⟨x0, x1, xz⟩ := d_cells HBX.out
    have xz0 := xz 0
    have xz1 := xz 1
    clear xz
    go_region_held3 (fun w' => w'.cell? ⟨q, 5, none⟩ = some (.slice a0 nx.length c0) ∧ w'.cell? ⟨q, 6, none⟩ = some (.slice a1 ru.length c1) ∧ w'.cell? ⟨q, 7, none⟩ = some (.int .i64 z)) (go_keep) (fail)
    go_wp2
    obtain ⟨m0, m1, -⟩ := d_cells (set2 (x := .slice a0 nx.length c0) (y := .slice a1 ru.length c1) HBX.out)
    refine bodyPost_ret (v := .tuple #[.agg #[.slice a0 nx.length c0, .slice a1 ru.length c1], .int .i64 z]) (by simp [results, Tryz.results34, go_sem, m0, m1]) rfl ?_
    exact ⟨nx, ru, a0, a1, c0, c1, HSM.out, rfl, (HE.out _ _).1, (HE.out _ _).2.1, (HE.out _ _).2.2.1, (HE.out _ _).2.2.2, hnil⟩
end Go.Proofs.YtbbfjjjnifomgaaGreatDoor.A


/- A scanner cuts; how many; which are broken. -/
namespace Go.Proofs.YtbbfjjjnifomgaaGreatDoor.A
open Go.RowKit
set_option linter.unusedVariables false

theorem wd_off {w w' : World} {q : Nat} {a : Option Addr} {l : List Int} (h : Wd w a l) (hq : l ≠ [] → ∀ x, a = some x → x.block ≠ q) (hg : w.grownBy w' (some q)) : Wd w' a l := fun i c hc => by
  obtain ⟨b, off, e, h2⟩ := h i c hc
  have hne : b ≠ q := hq (fun e => by rw [e] at hc; simp at hc) _ e
  exact ⟨b, off, e, (World.cell?_of_block (hg.block b (cell_lt h2) (fun e => hne (Option.some.inj e)))).trans h2⟩
theorem scr_add {w : World} {q : Nat} {l : List Rl} {nx : List (List Int)} {ru : List Int} {f c : Int} (h : ScR w q l nx ru f c) (c' : Int) : ScR (w.setCell ⟨q, 8, none⟩ (.int .i64 c')) q l nx ru f c' := by
  obtain ⟨b, a0, a1, c0, c1, h1, h2, h3, h4, h5, h6, h7⟩ := h
  have hk : ∀ k, q < k → k < w.heap.size → (w.setCell ⟨q, 8, none⟩ (.int .i64 c')).heap[k]? = w.heap[k]? := fun k hk _ => Below.heap_setCell _ _ _ _ (by show k ≠ q; omega)
  exact ⟨b, a0, a1, c0, c1, sk_put8 h1 c', dr_move h2 h4 hk, wd_move h3 h5 hk, h4, h5, own_up h6 hk, h7⟩
theorem scs_cell {w : World} {q : Nat} {l : List Rl} {nx0 : List (List Int)} {ru0 : List Int} {z c : Int} (h : Scs w q l nx0 ru0 z c) : w.cell? ⟨q, 8, none⟩ = some (.int .i64 c) := by
  rcases h with ⟨rfl, ps, x, b, -, h, -⟩ | ⟨nx, ru, -, b, a0, a1, c0, c1, h, -⟩
  · exact (sk_cells h).2.2.2.2.2.2.2.2
  · exact (sk_cells h).2.2.2.2.2.2.2.2

theorem cuts_any (q : Nat) (l : List Rl) (nx0 : List (List Int)) (ru0 : List Int) (z c : Int) (w : World) (hs : Scs w q l nx0 ru0 z c) :
    Calls Tryz.prog 18 #[.pointer (some ⟨q, 0, none⟩)] w fun e w' => e = .returned (.int .i64 c) ∧ w' = w := by
  have HL := hide (loadn_any ⟨q, 8, none⟩ c w (scs_cell hs))
  clear hs
  go_enter Tryz.func18, Tryz.ntmps18
  go_wp2_with fail
  refine HL.out.mono ?_
  rintro e w1 ⟨rfl, rfl⟩
  go_wp2
  go_ret
  exact ⟨rfl, rfl⟩
/-- What a scanner's Cut tells. -/
def Ctd (w : World) (q : Nat) (l : List Rl) (nx0 : List (List Int)) (ru0 : List Int) (z c : Int) (word : List Int) (len : Nat) (e : Ending) (w' : World) : Prop :=
  ∃ nx ru, Sm0 nx0 ru0 z nx ru ∧ w.grownBy w' (some q) ∧ ((z = 7 ∧ e = .returned (.tuple #[.slice none 0 0, .int .i64 7]) ∧ Scs w' q l nx0 ru0 z c) ∨
      (z = 0 ∧ ∃ (ps : List Pc) (pa : Option Addr) (pc : Nat), ps = cutW (fun a => longR nx ru word (a : Int)) len ∧ ps.length ≤ len ∧ e = .returned (.tuple #[.slice pa ps.length pc, .int .i64 0]) ∧ SegP w' pa ps ∧ (∀ x, pa = some x → w.heap.size ≤ x.block) ∧ Scs w' q l nx0 ru0 z (c + (ps.length : Nat))))

set_option maxRecDepth 100000 in
set_option maxHeartbeats 3200000 in
theorem scut_any (q N B : Nat) (l : List Rl) (nx0 : List (List Int)) (ru0 : List Int) (z c : Int) (a : Option Addr) (len cap : Nat) (word : List Int) (w : World) (hs : Scs w q l nx0 ru0 z c) (hN : ∀ x ∈ l, x.n ≤ N) (hl : l.length ≤ 16) (hM : Mac (exsL N l) nx0 ru0 z) (hB : B ≤ q) (ht : Tab B w)
    (hz : word.length = len) (hlc : len ≤ cap) (hcm : cap ≤ maxLen) (hlen : len ≤ 100000) (hW : Wd w a word) (haq : word ≠ [] → ∀ x, a = some x → x.block ≠ q) (hc0 : 0 ≤ c) (hc1 : c < 4611686018427387904) :
    Calls Tryz.prog 17 #[.pointer (some ⟨q, 0, none⟩), .slice a len cap] w (Ctd w q l nx0 ru0 z c word len) := by
  have HRD := hide (ready_any q N B l nx0 ru0 z c w hs hN hl hM hB ht)
  have hqw := scs_lt hs
  have HW := hide hW
  have HZ := hide hz
  clear hs hM hW hz ht
  go_enter Tryz.func17, Tryz.ntmps17
  go_wp2_with fail
  refine HRD.out.mono ?_
  rintro e w1 ⟨nx, ru, a0, a1, c0, c1, hsm, rfl, hdr, hwd, hsc, hg, -⟩
  have hbA := (Below.refl w1.heap.size w1).alloc (Nat.le_refl _) (.cells #[.slice a0 nx.length c0, .slice a1 ru.length c1] 25)
  rcases hsm with ⟨rfl, rfl, rfl⟩ | ⟨rfl, hso⟩
  · have HF := hide (And.intro (show Scs (w1.alloc (.cells #[.slice a0 ([] : List (List Int)).length c0, .slice a1 ([] : List Int).length c1] 25)) q l nx0 ru0 7 c from .inr ⟨[], [], .inl ⟨rfl, rfl, rfl⟩, scr_below hsc hbA⟩) (gb_trans hg (gb_below hbA)))
    clear hdr hwd hsc hg hbA
    go_wp2
    refine bodyPost_ret (v := .tuple #[.slice none 0 0, .int .i64 7]) (by simp [results, Tryz.results17, go_sem]) rfl ?_
    exact ⟨[], [], .inl ⟨rfl, rfl, rfl⟩, HF.out.2, .inl ⟨rfl, rfl, HF.out.1⟩⟩
  · obtain ⟨hr, hmx, -, -⟩ := smOf_eqo hso
    have HSO := hide hso
    have HR := hide hr
    have HDM := hide (show Dm (w1.alloc (.cells #[.slice a0 nx.length c0, .slice a1 ru.length c1] 25)) a0 a1 nx.length ru.length nx ru from ⟨rfl, rfl, dr_below hbA hdr, wd_below hbA hwd, by have := hmx.most; unfold maxLen; omega, by have := hmx.most; have := hmx.lr; unfold maxLen; omega⟩)
    have HSC := hide (scr_below hsc hbA)
    have HG := hide (gb_trans hg (gb_below hbA))
    have HWA := hide (wd_below hbA (wd_off HW.out haq hg))
    have HSZ := hide (show w.heap.size ≤ (w1.alloc (.cells #[.slice a0 nx.length c0, .slice a1 ru.length c1] 25)).heap.size by have := hg.size; simp; omega)
    have HLO := hide (show LgOk (fun a => longR nx ru word (a : Int)) len from by have h := long_ok nx ru word; rw [HZ.out] at h; exact h)
    clear hdr hwd hsc hg hbA hso hr hmx
    go_wp2_with fail
    generalize w1.alloc (.cells #[.slice a0 nx.length c0, .slice a1 ru.length c1] 25) = W at *
    refine (cut_any a0 a1 nx.length ru.length c0 c1 nx ru a len cap word W HDM.out HR.out HZ.out hlc hcm hlen HWA.out (fun a => longR nx ru word (a : Int)) (fun _ => rfl)).mono ?_
    rintro e w2 ⟨v, rfl, hown, hb2⟩
    obtain ⟨ps, hps⟩ : ∃ ps, ps = cutW (fun a => longR nx ru word (a : Int)) len := ⟨_, rfl⟩
    have hcnt : ps.length ≤ len := by rw [hps]; unfold cutW; have := cut_count HLO.out len 0; omega
    rw [← hps] at hown
    have hS2 := scr_below HSC.out hb2
    have hne : v.ownBlock ≠ some q := fun e => by have := (own_type hown e).1; have := HSZ.out; omega
    have hup : ∀ k, v.ownBlock = some k → w.heap.size ≤ k := fun k hk => by have := (own_type hown hk).1; have := HSZ.out; omega
    have h3 := set_far (q := q) (i := 8) (u := .int .i64 (c + (ps.length : Nat))) hown hne
    have HADD := hide (add_any ⟨q, 8, none⟩ c (ps.length : Nat) w2 (by obtain ⟨b, a0', a1', c0', c1', hk, -⟩ := hS2; exact (sk_cells hk).2.2.2.2.2.2.2.2) (by obtain ⟨b, a0', a1', c0', c1', hk, -⟩ := hS2; exact sk_free hk 8) hc0 hc1 (by omega) (by omega))
    have HF := hide (show Scs (w2.setCell ⟨q, 8, none⟩ (.int .i64 (c + (ps.length : Nat)))) q l nx0 ru0 0 (c + (ps.length : Nat)) from .inr ⟨nx, ru, .inr ⟨rfl, HSO.out⟩, scr_add hS2 _⟩)
    have HGF := hide (show w.grownBy (w2.setCell ⟨q, 8, none⟩ (.int .i64 (c + (ps.length : Nat)))) (some q) from grown_set (gb_trans HG.out (gb_below hb2)) ⟨q, 8, none⟩ (.int .i64 (c + (ps.length : Nat))) (.inl rfl))
    obtain ⟨pa, pc, rfl, hseg⟩ := own_segP h3 rfl
    have HSEG := hide hseg
    have HUP := hide hup
    have HPS := hide hps
    clear hown h3 hne hup hS2 hb2 hseg hps
    go_wp2_with fail
    refine HADD.out.mono ?_
    rintro e w3 ⟨rfl, rfl⟩
    go_wp2
    refine bodyPost_ret (v := .tuple #[.slice pa ps.length pc, .int .i64 0]) (by simp [results, Tryz.results17, go_sem]) rfl ?_
    exact ⟨nx, ru, .inr ⟨rfl, HSO.out⟩, HGF.out, .inr ⟨rfl, ps, pa, pc, HPS.out, hcnt, rfl, HSEG.out, fun x hx => HUP.out x.block (by rw [hx]; rfl), HF.out⟩⟩

/-- Is a rule broken? -/
def brF (l : List Rl) (r : Int) : Bool := if r < 0 then true else if (l.length : Int) ≤ r then true else match l[r.toNat]? with
  | some x => x.br
  | none => true
theorem scs_row {w : World} {q : Nat} {l : List Rl} {nx0 : List (List Int)} {ru0 : List Int} {z c : Int} (h : Scs w q l nx0 ru0 z c) : ∃ ba bc, w.cell? ⟨q, 1, none⟩ = some (.slice ba l.length bc) ∧ w.ownsRow (q + 1) 4 1 (.slice ba l.length bc) l.length (brV l) := by
  rcases h with ⟨rfl, ps, x, b, -, h, -, hb⟩ | ⟨nx, ru, -, b, a0, a1, c0, c1, h, -, -, -, -, hb, -⟩
  · obtain ⟨ba, bc, rfl⟩ := own_form hb
    exact ⟨ba, bc, (sk_cells h).2.1, hb⟩
  · obtain ⟨ba, bc, rfl⟩ := own_form hb
    exact ⟨ba, bc, (sk_cells h).2.1, hb⟩

set_option maxRecDepth 100000 in
set_option maxHeartbeats 3200000 in
theorem broken_any (q : Nat) (l : List Rl) (nx0 : List (List Int)) (ru0 : List Int) (z c : Int) (f t r : Int) (w : World) (hs : Scs w q l nx0 ru0 z c) :
    Calls Tryz.prog 19 #[.pointer (some ⟨q, 0, none⟩), .agg #[.int .i64 f, .int .i64 t, .int .i64 r]] w fun e w' => e = .returned (.bool (brF l r)) ∧ Below w.heap.size w w' := by
  obtain ⟨ba, bc, hc, hrow⟩ := scs_row hs
  have hbA := (Below.refl w.heap.size w).alloc (Nat.le_refl _) (.cells #[.int .i64 f, .int .i64 t, .int .i64 r] 30)
  have HBA := hide hbA
  have HXB := hide (heap_alloc_last w (.cells #[.int .i64 f, .int .i64 t, .int .i64 r] 30))
  have HC := hide (cell_allocU hc (.cells #[.int .i64 f, .int .i64 t, .int .i64 r] 30))
  have HROW := hide (own_below hrow hbA)
  clear hs hc hrow hbA
  go_enter Tryz.func19, Tryz.ntmps19
  go_wp2_with fail
  generalize w.alloc (.cells #[.int .i64 f, .int .i64 t, .int .i64 r] 30) = W at *
  obtain ⟨z0, hz0⟩ : ∃ z0, w.heap.size = z0 := ⟨_, rfl⟩
  rw [hz0] at HXB HBA ⊢
  have HZ0 := hide hz0
  clear hz0
  obtain ⟨p0, p1, p2, -⟩ := p_cells HXB.out
  have hc := HC.out
  by_cases h0 : r < 0
  · have d0 : decide (r < 0) = true := by simp [h0]
    have HR := hide (show brF l r = true by unfold brF; rw [if_pos h0])
    clear h0
    go_quiet (fail)
    go_wp2
    go_ret
    exact ⟨by rw [HR.out]; rfl, by rw [HZ0.out]; exact below_drewN HBA.out _⟩
  · have d0 : decide (r < 0) = false := by simp; omega
    by_cases h1 : (l.length : Int) ≤ r
    · have d1 : decide ((l.length : Int) ≤ r) = true := by simp [h1]
      have HR := hide (show brF l r = true by unfold brF; rw [if_neg h0, if_pos h1])
      clear h0 h1
      go_quiet (fail)
      go_wp2
      go_ret
      exact ⟨by rw [HR.out]; rfl, by rw [HZ0.out]; exact below_drewN HBA.out _⟩
    · have d1 : decide ((l.length : Int) ≤ r) = false := by simp; omega
      obtain ⟨k, rfl⟩ : ∃ k : Nat, r = (k : Int) := ⟨r.toNat, by omega⟩
      have hk : k < l.length := by omega
      have d2 : decide (l.length ≤ k) = false := by simp; omega
      obtain ⟨x, hx⟩ : ∃ x, l[k]? = some x := ⟨_, List.getElem?_eq_getElem hk⟩
      obtain ⟨g, cs, hform, hg1, hg2⟩ := HROW.out.form (by omega)
      obtain ⟨rfl, -, rfl⟩ := Value.slice.inj hform
      have hcell := HROW.out.cellAt k (by omega)
      rw [show (brV l)[k]? = some (.bool x.br) by unfold brV; rw [List.getElem?_map, hx]; rfl] at hcell
      have HR := hide (show brF l (k : Int) = x.br by unfold brF; rw [if_neg h0, if_neg h1]; simp only [Int.toNat_natCast, hx])
      have i3 : (0 : Int) ≤ (k : Int) := by omega
      have i4 : (k : Int) < (l.length : Int) := by omega
      clear h0 h1 hx hform hg1 hg2
      go_quiet (fail)
      go_wp2
      go_ret
      exact ⟨by rw [HR.out]; rfl, by rw [HZ0.out]; exact below_drewN HBA.out _⟩
end Go.Proofs.YtbbfjjjnifomgaaGreatDoor.A

