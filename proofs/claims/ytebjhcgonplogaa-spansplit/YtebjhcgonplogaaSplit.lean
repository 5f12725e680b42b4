/-
  SpanSplit returns true for every input: a range that is parted in two finds the same, and joins to the same.
  Conditions: none.
-/
import Derived.Test.YtebjhcgonplogaaU
import Derived.Deep.RegionHeld3
import Derived.Deep.AppendLies
import Derived.OpenShut
import Derived.ShutString
import Derived.ChangeOld
import Derived.Below
namespace Go.Proofs.Ytebjhcgonplogaa.spanSplit
open Go.ChangeShapes Go.WideShapes Go.ChangeAt Go.RowKit
open Go.ChangeMaps (open_string shut_string)
set_option linter.unusedVariables false

theorem own : ownKnob Try.prog.godebug = none := by kernel_rfl
theorem laidOut : laidOutB Try.prog = true := by kernel_rfl

set_option maxRecDepth 100000 in
set_option maxHeartbeats 1600000 in
theorem walk_yes (b off len0 cap0 i : Nat) (z0 : List A.Rg) (a1 c : Int) (w : World) (w0 : A.SegR w (some ⟨b, off, none⟩) len0 z0) (l0 : len0 ≤ cap0) (m0 : cap0 ≤ maxLen) (h3 : len0 ≤ 300) (h0 : 0 < len0) (k0 : 0 ≤ a1) (k1 : a1 ≤ 255)
    (hr : A.Rt 255 z0 len0) (hi : a1 % (len0 : Int) = (i : Int)) (hil : i < len0) (h1 : (A.at' z0 i).f ≤ c) (h2 : c < (A.at' z0 i).t) :
    Calls Try.prog 7 #[.slice (some ⟨b, off, none⟩) len0 cap0, .int .u8 a1, .int .i32 c] w fun e w' => e = .returned (.bool true) ∧ Below w.heap.size w w' := by
  obtain ⟨i0, hi0, hz0, hz1, hz2⟩ := info_parts A.info28
  have R := A.hide (A.right_same hr (show len0 ≤ 5000 by omega))
  have HR := A.hide hr
  have HI := A.hide hi
  clear hr hi
  go_enter Try.func7, Try.ntmps7
  go_wp2_with fail
  refine (A.alive_any _).mono ?_
  rintro e w1 ⟨rfl, hb1⟩
  have hs1 := w0.below hb1
  have hbw : b < w.heap.size := by
    obtain ⟨b', off', e', hc⟩ := w0.leads (by omega)
    simp at e'
    obtain ⟨rfl, rfl⟩ := e'
    exact A.cell_lt (hc 0 h0).1
  have q0 : ((len0 : Int) == 0) = false := by simp; omega
  have q00 : (len0 == 0) = false := by simp; omega
  go_wp2_with fail
  refine (A.right_any _ _ _ _ z0 _ (by omega) hs1).mono ?_
  rintro e w2 ⟨rfl, hb2⟩
  have hs2 := hs1.below hb2
  have hb2' := hb1.trans (hb2.mono hb1.size)
  clear hs1 hb1 hb2
  rw [R.out]
  obtain ⟨b', off', e', hc⟩ := hs2.leads (by omega)
  simp at e'
  obtain ⟨rfl, rfl⟩ := e'
  obtain ⟨c0, c1, c2⟩ := hc i hil
  have hi := HI.out
  have n1 : (0 : Int) ≤ (i : Int) := by omega
  have n2 : (i : Int) < (len0 : Int) := by omega
  have hlz : z0.length = len0 := hs2.1
  have HL := A.hide hlz
  clear hlz
  go_wp2_with (at_builtin; refine wpList_append_own _ rfl _ _ 22 rfl w.heap.size 28 i0 (.agg #[.int .i32 0, .int .i32 0, .int .i64 0]) 3 16 Try.underlying22 hi0 hz0 hz1 hz2 rfl (by decide) (.slice none 0 0) 0 [] rfl (World.ownsRow_nil _ _ _ _) ⟨b, off, none⟩ i cap0 (A.cellsR (z0.take i)) rfl ?c0 ?c1 ?c2 ?c3 ?c4 ?c5 ?_)
  case c0 => rw [A.cellsR_len]; simp; have := HL.out; omega
  case c1 => exact A.cells_head HL.out (by omega) hc
  case c2 => exact A.cellsR_one' _
  case c3 => unfold maxLen; omega
  case c4 => omega
  case c5 => exact hb2'.size
  intro v1 w3 hown1 hgrow1 _
  have hb3 : Below w.heap.size w w3 := hb2'.grown hgrow1 hb2'.size (fun k' e => by cases e)
  have own3 : w3.ownsRow w.heap.size 28 3 v1 i (A.cellsR (z0.take i)) := by simpa using hown1
  clear hown1 hgrow1 hs2 hb2' hc c0 c1 c2 hi
  have hs3 := w0.below hb3
  obtain ⟨b', off', e', hc⟩ := hs3.leads (by omega)
  simp at e'
  obtain ⟨rfl, rfl⟩ := e'
  obtain ⟨c0, c1, c2⟩ := hc i hil
  have hne : some b ≠ v1.ownBlock := fun e => by have := (own3.lt b e.symm).1; omega
  have hz3 := hb3.size
  obtain ⟨o1, o2, o3, _, _⟩ := HR.out.1 i hil
  go_wp2_with fail
  have nw : IntKind.i32.wrap (c + 1) = c + 1 := by rw [IntKind.wrap_i32]; omega
  go_region_held3 (fun w' => w'.cell? ⟨b, off + i * 3, none⟩ = some (.int .i32 (A.at' z0 i).f) ∧ w'.cell? ⟨b, off + i * 3 + 1, none⟩ = some (.int .i32 (A.at' z0 i).t) ∧ w'.cell? ⟨b, off + i * 3 + 2, none⟩ = some (.int .i64 (A.at' z0 i).v)) (first | go_keep | (go_split_ands; refine ⟨?_, ?_, ?_⟩ <;> (rw [hgrow.cell_far _ (by simp; omega) hne]; assumption))) ((refine step_append_lies _ (by rfl) _ _ _ (by rfl) w.heap.size 28 i0 _ 3 16 Try.underlying22 hi0 hz0 hz1 hz2 rfl (by omega) v1 i (A.cellsR (z0.take i)) (by rfl) ((own3.alloc _).drew) ⟨w3.heap.size, 0, none⟩ 2 2 (A.cellsR [⟨(A.at' z0 i).f, c, (A.at' z0 i).v⟩, ⟨c + 1, (A.at' z0 i).t, (A.at' z0 i).v⟩]) (by rfl) (by rfl) (World.news_of_block (cs := #[.int .i32 (A.at' z0 i).f, .int .i32 c, .int .i64 (A.at' z0 i).v, .int .i32 (c + 1), .int .i32 (A.at' z0 i).t, .int .i64 (A.at' z0 i).v]) (t := 28) (fr := (0, 0)) (heap_alloc_new w3 _)) (A.cellsR_one' _) (by omega) (by unfold maxLen; omega) (by omega) (by simp; omega) (w3.heap.size + 1) (by simp) ?_; intro gg cp4 w4 own4 hgrow hat hlt4))
  have hb4 : Below w.heap.size w w4 := (hb3.alloc hb3.size _).drew.grown hgrow (by simp; omega) (fun k' e => (own3.lt k' e).1)
  clear hgrow own3 hb3 hs3 hc c0 c1 c2 hne hz3 nw hat
  have hs4 := w0.below hb4
  obtain ⟨b', off', e', hc⟩ := hs4.leads (by omega)
  simp at e'
  obtain ⟨rfl, rfl⟩ := e'
  have E5 := A.hide (show i + 2 + (len0 - (i + 1)) = len0 + 1 from by omega)
  have HC0 := A.hide (show (A.cellsR (z0.drop (i + 1))).length = (len0 - (i + 1)) * 3 from by rw [A.cellsR_len, List.length_drop, HL.out])
  have HC1 := A.hide (show ∀ j u, (A.cellsR (z0.drop (i + 1)))[j]? = some u → w4.cell? ((if cap0 = i + 1 then (⟨b, off, none⟩ : Addr) else ⟨b, off + (i + 1) * 3, none⟩).add j) = some u from by
    split
    · rename_i he
      have : z0.drop (i + 1) = [] := List.drop_eq_nil_of_le (by have := HL.out; omega)
      rw [this]
      intro j u hj
      simp [A.cellsR] at hj
    · exact A.cells_tail HL.out hc)
  have hz4 := hb4.size
  go_wp2_with (at_builtin; refine wpList_append_own _ rfl _ _ 22 rfl w.heap.size 28 i0 (.agg #[.int .i32 0, .int .i32 0, .int .i64 0]) 3 16 Try.underlying22 hi0 hz0 hz1 hz2 rfl (by decide) (.slice (some ⟨gg, 0, none⟩) (i + 2) cp4) (i + 2) _ rfl own4 (if cap0 = i + 1 then (⟨b, off, none⟩ : Addr) else ⟨b, off + (i + 1) * 3, none⟩) (len0 - (i + 1)) (cap0 - (i + 1)) (A.cellsR (z0.drop (i + 1))) (by show Value.slice (if cap0 = i + 1 then some (⟨b, off, none⟩ : Addr) else some ⟨b, off + (i + 1) * 3, none⟩) (len0 - (i + 1)) (cap0 - (i + 1)) = _; split <;> rfl) HC0.out HC1.out (A.cellsR_one' _) (by unfold maxLen; omega) (by omega) hz4 ?_)
  all_goals
    intro v5 w5 own5 hgrow5 _
    clear HC0 HC1 hz4
    have hb5 : Below w.heap.size w w5 := hb4.grown hgrow5 hb4.size (fun k' e => (own4.lt k' e).1)
    rw [E5.out] at own5
    have own5' : w5.ownsRow w.heap.size 28 3 v5 (len0 + 1) (A.cellsR (A.split z0 i c)) := by
      unfold A.split
      rw [A.cellsR_app, A.cellsR_app, List.append_assoc]
      exact own5
    clear own5 hgrow5 own4 hb4 hs4 hc hlt4
    obtain ⟨x5, cp5, rfl, -, -, hcp5, s5⟩ := A.seg_own own5'
    clear own5'
    have hRL : A.Rt 255 z0 z0.length := by rw [HL.out]; exact HR.out
    have MR := A.hide (show A.Rt 255 (A.split z0 i c) (len0 + 1) from by have := A.split_rt hRL (by rw [HL.out]; exact hil) h1 h2; rwa [HL.out] at this)
    have MJ := A.hide (show A.joined (A.split z0 i c) (len0 + 1) = A.joined z0 len0 from by have := (A.split_all (l := z0) (i := i) (c := c) (by rw [HL.out]; exact hil)).1; rwa [HL.out] at this)
    have MC := A.hide (show A.cnt (A.split z0 i c) (len0 + 1) = A.cnt z0 len0 from by have := (A.split_all (l := z0) (i := i) (c := c) (by rw [HL.out]; exact hil)).2; rwa [HL.out] at this)
    have MF := A.hide (show A.fnd (A.split z0 i c) c (len0 + 1) = ((A.at' z0 i).v, true) ∧ A.fnd (A.split z0 i c) (c + 1) (len0 + 1) = ((A.at' z0 i).v, true) from by have := A.split_fnd hRL (by rw [HL.out]; exact hil) h1 h2; rwa [HL.out] at this)
    clear hRL
    generalize A.split z0 i c = M at *
    go_wp2_with fail
    refine (A.find_yes _ _ _ _ M _ (by omega) s5 (A.rt_more MR.out (by decide))).mono ?_
    rintro e w6 ⟨rfl, h6⟩
    rw [MF.out.1]
    have s6 := s5.below h6
    have hb6 := hb5.trans (h6.mono hb5.size)
    clear h6 s5 hb5
    go_wp2_with fail
    refine (A.find_yes _ _ _ _ M _ (by omega) s6 (A.rt_more MR.out (by decide))).mono ?_
    rintro e w7 ⟨rfl, h7⟩
    rw [MF.out.2]
    have s7 := s6.below h7
    have hb7 := hb6.trans (h7.mono hb6.size)
    clear h7 s6 hb6
    have hs7 := w0.below hb7
    have hjl := A.joined_len z0 len0
    go_wp2_with fail
    refine (A.join_yes _ _ _ z0 _ (by omega) hs7 (A.rt_more HR.out (by decide))).mono ?_
    rintro e w8 ⟨v8, rfl, ho8, h8⟩
    have s8 := s7.below h8
    have hb8 := hb7.trans (h8.mono hb7.size)
    obtain ⟨x8, p8, rfl, -, -, -, t8⟩ := A.seg_own ho8
    clear h8 s7 hb7 hs7 ho8
    go_wp2_with fail
    refine (A.join_yes _ _ _ M _ (by omega) s8 (A.rt_more MR.out (by decide))).mono ?_
    rintro e w9 ⟨v9, rfl, ho9, h9⟩
    rw [MJ.out] at ho9
    have s9 := s8.below h9
    have t9 := t8.below h9
    have hb9 := hb8.trans (h9.mono hb8.size)
    obtain ⟨x9, p9, rfl, -, -, -, u9⟩ := A.seg_own ho9
    clear h9 s8 hb8 ho9 t8
    generalize A.joined z0 len0 = J at *
    generalize J.length = n at *
    have hne : ((n : Int) != (n : Int)) = false := by simp
    go_wp2
    go_loopw [15] (fun j wr => ∃ k : Nat, k ≤ n ∧ j = .int .i64 k ∧ A.SegR wr x8 n J ∧ A.SegR wr x9 n J ∧ A.SegR wr x5 (len0 + 1) M ∧ Below w.heap.size w wr) (fun j _ => n - (intOf j).toNat)
    case atStart => exact ⟨0, Nat.zero_le _, rfl, t9, u9, s9, hb9⟩
    case round =>
      obtain ⟨k, hk, rfl, s1, s2, sM, hbel⟩ := hrel
      clear t9 u9 s9 hb9
      by_cases hlt : k < n
      · obtain ⟨b1, off1, rfl, hc1⟩ := s1.leads (by omega)
        obtain ⟨b2, off2, rfl, hc2⟩ := s2.leads (by omega)
        obtain ⟨c0, c1, c2⟩ := hc1 k hlt
        obtain ⟨d0, d1, d2⟩ := hc2 k hlt
        clear hc1 hc2
        generalize (A.at' J k).f = f at *
        generalize (A.at' J k).t = t at *
        generalize (A.at' J k).v = v at *
        go_wp2
        go_quiet (fail)
        go_wp2
        go_roundw
        case rel => exact ⟨k + 1, by omega, by go_num, s1, s2, sM, A.below_drewN hbel _⟩
        case measure => simp [intOf]; omega
      · have e : k = n := by omega
        subst e
        clear s1 s2
        have hsW := w0.below hbel
        obtain ⟨b', off', e', hc⟩ := hsW.leads (by omega)
        simp at e'
        obtain ⟨rfl, rfl⟩ := e'
        obtain ⟨c0, c1, c2⟩ := hc i hil
        clear hc
        have hv : ((A.at' z0 i).v == (A.at' z0 i).v) = true := by simp
        go_wp2_with fail
        refine (A.right_any _ _ _ _ M _ (by unfold maxLen; omega) sM).mono ?_
        rintro e w10 ⟨rfl, h10⟩
        rw [A.right_same MR.out (by omega)]
        have sM1 := sM.below h10
        have hb10 := hbel.trans (h10.mono hbel.size)
        clear c0 c1 c2 hsW h10 sM hbel
        go_wp2_with fail
        refine (A.count_yes _ _ _ M _ (by omega) sM1 (A.rt_more MR.out (by decide))).mono ?_
        rintro e w11 ⟨rfl, h11⟩
        rw [MC.out]
        have hb11 := hb10.trans (h11.mono hb10.size)
        clear h11 sM1 hb10
        have hs11 := w0.below hb11
        go_wp2_with fail
        refine (A.count_yes _ _ _ z0 _ (by omega) hs11 (A.rt_more HR.out (by decide))).mono ?_
        rintro e w12 ⟨rfl, h12⟩
        have hb12 := hb11.trans (h12.mono hb11.size)
        have hcn : (A.cnt z0 len0 == A.cnt z0 len0) = true := by simp
        clear h12 hs11 hb11
        go_wp2_with fail
        go_ret
        exact ⟨rfl, hb12⟩

set_option maxRecDepth 100000 in
set_option maxHeartbeats 800000 in
theorem walk_far (a0 : Option Addr) (len0 cap0 : Nat) (a1 c : Int) (w : World) (hl : len0 ≤ maxLen) (h3 : ¬ len0 ≤ 300) :
    Calls Try.prog 7 #[.slice a0 len0 cap0, .int .u8 a1, .int .i32 c] w fun e w' => e = .returned (.bool true) ∧ Below w.heap.size w w' := by
  go_enter Try.func7, Try.ntmps7
  go_wp2_with fail
  refine (A.alive_any _).mono ?_
  rintro e w1 ⟨rfl, hb1⟩
  go_wp2_with fail
  go_ret
  exact ⟨rfl, hb1⟩

set_option maxRecDepth 100000 in
set_option maxHeartbeats 800000 in
theorem walk_none (a0 : Option Addr) (cap0 : Nat) (a1 c : Int) (w : World) :
    Calls Try.prog 7 #[.slice a0 0 cap0, .int .u8 a1, .int .i32 c] w fun e w' => e = .returned (.bool true) ∧ Below w.heap.size w w' := by
  go_enter Try.func7, Try.ntmps7
  go_wp2_with fail
  refine (A.alive_any _).mono ?_
  rintro e w1 ⟨rfl, hb1⟩
  go_wp2_with fail
  go_ret
  exact ⟨rfl, hb1⟩

set_option maxRecDepth 100000 in
set_option maxHeartbeats 800000 in
theorem walk_wrong (a0 : Option Addr) (len0 cap0 : Nat) (z0 : List A.Rg) (a1 c : Int) (w : World) (w0 : A.SegR w a0 len0 z0) (hl : len0 ≤ maxLen) (h3 : len0 ≤ 300) (h0 : 0 < len0) (hr : A.rightB 255 z0 len0 = false) :
    Calls Try.prog 7 #[.slice a0 len0 cap0, .int .u8 a1, .int .i32 c] w fun e w' => e = .returned (.bool true) ∧ Below w.heap.size w w' := by
  have R := A.hide hr
  clear hr
  go_enter Try.func7, Try.ntmps7
  go_wp2_with fail
  refine (A.alive_any _).mono ?_
  rintro e w1 ⟨rfl, hb1⟩
  have hs1 := w0.below hb1
  have q0 : ((len0 : Int) == 0) = false := by simp; omega
  have q00 : (len0 == 0) = false := by simp; omega
  go_wp2_with fail
  refine (A.right_any _ _ _ _ z0 _ hl hs1).mono ?_
  rintro e w2 ⟨rfl, hb2⟩
  have hb2' := hb1.trans (hb2.mono hb1.size)
  clear hs1 hb1 hb2
  rw [R.out]
  go_wp2_with fail
  go_ret
  exact ⟨rfl, hb2'⟩

set_option maxRecDepth 100000 in
set_option maxHeartbeats 800000 in
theorem walk_out (b off len0 cap0 i : Nat) (z0 : List A.Rg) (a1 c : Int) (w : World) (w0 : A.SegR w (some ⟨b, off, none⟩) len0 z0) (hl : len0 ≤ maxLen) (h3 : len0 ≤ 300) (h0 : 0 < len0) (k0 : 0 ≤ a1) (k1 : a1 ≤ 255)
    (hr : A.rightB 255 z0 len0 = true) (hi : a1 % (len0 : Int) = (i : Int)) (hil : i < len0) (h1 : c < (A.at' z0 i).f ∨ (A.at' z0 i).t ≤ c) :
    Calls Try.prog 7 #[.slice (some ⟨b, off, none⟩) len0 cap0, .int .u8 a1, .int .i32 c] w fun e w' => e = .returned (.bool true) ∧ Below w.heap.size w w' := by
  have R := A.hide hr
  have HI := A.hide hi
  clear hr hi
  go_enter Try.func7, Try.ntmps7
  go_wp2_with fail
  refine (A.alive_any _).mono ?_
  rintro e w1 ⟨rfl, hb1⟩
  have hs1 := w0.below hb1
  have q0 : ((len0 : Int) == 0) = false := by simp; omega
  have q00 : (len0 == 0) = false := by simp; omega
  go_wp2_with fail
  refine (A.right_any _ _ _ _ z0 _ hl hs1).mono ?_
  rintro e w2 ⟨rfl, hb2⟩
  have hs2 := hs1.below hb2
  have hb2' := hb1.trans (hb2.mono hb1.size)
  clear hs1 hb1 hb2
  rw [R.out]
  obtain ⟨b', off', e', hc⟩ := hs2.leads (by omega)
  simp at e'
  obtain ⟨rfl, rfl⟩ := e'
  obtain ⟨c0, c1, c2⟩ := hc i hil
  have hi := HI.out
  have n1 : (0 : Int) ≤ (i : Int) := by omega
  have n2 : (i : Int) < (len0 : Int) := by omega
  clear hc
  generalize (A.at' z0 i).f = f at *
  generalize (A.at' z0 i).t = t at *
  generalize (A.at' z0 i).v = v at *
  by_cases h2 : c < f
  · clear h1
    go_wp2_with fail
    go_ret
    exact ⟨rfl, hb2'⟩
  · have h3 : t ≤ c := by omega
    clear h1
    go_wp2_with fail
    go_ret
    exact ⟨rfl, hb2'⟩

theorem walk (a0 : Option Addr) (len0 cap0 : Nat) (z0 : List A.Rg) (a1 : Int) (a2 : Int) (w : World) (w0 : A.SegR w a0 len0 z0) (l0 : len0 ≤ cap0) (m0 : cap0 ≤ maxLen) (w1 : (Lit.int .u8 a1).wf = true) (w2 : (Lit.int .i32 a2).wf = true) :
    Calls Try.prog 7 #[.slice a0 len0 cap0, .int .u8 a1, .int .i32 a2] w fun e w' => e = .returned (.bool true) ∧ Below w.heap.size w w' := by
  have hb := bounds_u8 w1
  by_cases h3 : len0 ≤ 300
  · by_cases h0 : len0 = 0
    · subst h0
      exact walk_none a0 cap0 a1 a2 w
    · by_cases hr : A.rightB 255 z0 len0 = true
      · obtain ⟨b, off, rfl, _⟩ := w0.leads h0
        have g1 : 0 ≤ a1 % (len0 : Int) := Int.emod_nonneg _ (by omega)
        have g2 : a1 % (len0 : Int) < (len0 : Int) := Int.emod_lt_of_pos _ (by omega)
        obtain ⟨i, hi⟩ := Int.eq_ofNat_of_zero_le g1
        by_cases h1 : a2 < (A.at' z0 i).f ∨ (A.at' z0 i).t ≤ a2
        · exact walk_out b off len0 cap0 i z0 a1 a2 w w0 (by omega) h3 (by omega) (by omega) (by omega) hr hi (by omega) h1
        · exact walk_yes b off len0 cap0 i z0 a1 a2 w w0 l0 m0 h3 (by omega) (by omega) (by omega) (A.rt_of_right hr) hi (by omega) (by omega) (by omega)
      · exact walk_wrong a0 len0 cap0 z0 a1 a2 w w0 (by omega) h3 (by omega) (Bool.eq_false_iff.2 hr)
  · exact walk_far a0 len0 cap0 a1 a2 w (by omega) h3

set_option maxRecDepth 100000 in
theorem lifted (os : Os) (started : os.Started) (H : Type) (enc : TypeId × Value → H) :
    ReturnsInHanded {} Try.checked os 7 .any (Rows.spanSplitSpec.pre6 enc Try.prog Try.f7 Rows.spanSplitRow.domain false) (Rows.spanSplitSpec.post enc Try.prog Try.f7 false true false false) := by
  refine returnsInHanded_of_change (C := Try.checked) own started (by kernel_rfl) Try.func7
    (ChangeSpec.witness6 (enc := enc) (C := Try.checked) false ⟨#[], #[.slice none 0 0, .int .u8 0, .int .i32 0], []⟩ 8 (by kernel_rfl) (by kernel_rfl) (by kernel_rfl) (by kernel_rfl)) ?_
  intro W base args ds gs before hval0 hW hcnd _
  have hval : ∀ (j : Nat) t v, Try.f7.params[j]? = some t → args[j]? = some v → Value.okWide Try.prog W .any base t v := hval0
  have hW' := hW
  obtain ⟨p, q, hA0, hV, rfl, hfz, hnd⟩ := hW
  have hA : DataW.TrodAll enc Try.prog W 0 (fun _ => true) true Try.f7.params.toList args.toList ds p := hA0
  rw [Try.params7] at hA hval
  obtain ⟨v0, vs0, d0, ds0, p0, q0, hargs, rfl, rfl, h0, r0⟩ := trodAll_cons hA
  obtain ⟨v1, vs1, d1, ds1, p1, q1, rfl, rfl, rfl, h1, r1⟩ := trodAll_cons r0
  obtain ⟨v2, vs2, d2, ds2, p2, q2, rfl, rfl, rfl, h2, r2⟩ := trodAll_cons r1
  obtain ⟨rfl, rfl, rfl⟩ := trodAll_nil r2
  obtain rfl : args = #[v0, v1, v2] := by cases args; simp_all
  obtain ⟨rfl, rfl⟩ := trodVars_none hV
  obtain ⟨a0, len0, cap0, rfl⟩ := okWide_slice Try.underlying22 (hval 0 22 v0 rfl rfl)
  have k0 := h0
  have lt0 : ∀ x ∈ p0, x.block < W.heap.size := by obtain ⟨m, hm⟩ := k0; exact DataW.trod_lt m _ _ _ hm
  obtain ⟨z0, w0, l0, m0⟩ : ∃ zs, A.SegR W a0 len0 zs ∧ len0 ≤ cap0 ∧ cap0 ≤ maxLen := by obtain ⟨fuel, hf⟩ := h0; exact A.open_ranges hf
  obtain ⟨a1, rfl, rfl, rfl, w1⟩ := open_int Try.underlying5 (hval 1 5 v1 rfl rfl) h1
  obtain ⟨a2, rfl, rfl, rfl, w2⟩ := open_int Try.underlying21 (hval 2 21 v2 rfl rfl) h2
  clear hA0 hval0
  refine (walk a0 len0 cap0 z0 a1 a2 W w0 l0 m0 w1 w2).mono fun e W' ⟨he, bel⟩ => ?_
  subst he
  exact ⟨_, rfl, _, _, _, [], _, [], hW', trodAll_mk1 (shut_bool Try.underlying4 _), (trodAll_cons_mk (Below.trod laidOut (by kernel_rfl) (of_decide_eq_true (by kernel_rfl)) k0 bel lt0) (trodAll_cons_mk (shut_int Try.underlying5 w1) (trodAll_cons_mk (shut_int Try.underlying21 w2) trodAll_mk0))), rfl, bel.frame _, fun h => by cases h⟩

theorem over : Rows.spanSplitRow.holds Try.pinned (OpenSpec.ofChange Rows.spanSplitSpec) :=
  OpenClaim.holds_of_wide 7 Try.f7 rfl rfl rfl rfl rfl rfl rfl ⟨rfl, rfl, rfl, rfl, rfl⟩ rfl rfl rfl rfl rfl (by kernel_rfl) Try.func7 (by kernel_rfl)
    (of_decide_eq_true (by kernel_rfl)) (by unfold Func.isWrapper; first | (rw [if_pos (by decide +kernel)]; kernel_rfl) | (rw [if_neg (by decide +kernel)]; exact ⟨rfl, rfl⟩))
    (fun os started H enc _ => lifted os started H enc)

/-- The statement. -/
theorem proved : Rows.SpanSplitSaid := over
#print axioms proved
end Go.Proofs.Ytebjhcgonplogaa.spanSplit
