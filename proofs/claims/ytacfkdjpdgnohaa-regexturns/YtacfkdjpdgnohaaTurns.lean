/-
  The words of the turned expression are those of the expression, from behind; turned twice it is the same; both have as many nodes, are as deep, and have the empty word, or not, alike.
  Conditions: none.
-/
import Derived.Test.YtacfkdjpdgnohaaSf
import Derived.OpenShut
import Derived.ShutString
import Derived.ChangeOld
import Derived.Below
import Derived.Deep.RegionHeld3
namespace Go.Proofs.Ytacfkdjpdgnohaa.regexTurns
open Go.ChangeShapes Go.WideShapes Go.ChangeAt Go.RowKit
open Go.ChangeMaps (open_string shut_string)
set_option linter.unusedVariables false

theorem own : ownKnob Try.prog.godebug = none := by kernel_rfl
theorem laidOut : laidOutB Try.prog = true := by kernel_rfl

theorem info3 : (Try.prog.info? 3).map (fun i => (i.zero, i.size, i.bytes)) = some (some (.int .i64 0), 1, 8) := by kernel_rfl
/-- Numbers as cells. -/
def ints (l : List Int) : List Value := l.map (Value.int .i64)
theorem ints_one (c : Int) : ∀ u ∈ ints [c], u.oneCell' = true := fun u hu => by simp [ints] at hu; subst hu; rfl
theorem one_int (w : World) (c : Int) (t : TypeId) : ∀ j u, (ints [c])[j]? = some u → (w.alloc (.cells #[.int .i64 c] t)).cell? ((⟨w.heap.size, 0, none⟩ : Addr).add j) = some u := by
  intro j u hj
  match j with
  | 0 => simp [ints] at hj; subst hj; simp [Addr.add]
  | j + 1 => simp [ints] at hj
theorem own_wd {w : World} {base n : Nat} {v : Value} {l : List Int} (h : w.ownsRow base 3 1 v n (ints l)) (hn : l.length = n) : ∃ x cap, v = .slice x n cap ∧ A.Wd w x l := by
  rcases h.2 with ⟨rfl, h0⟩ | ⟨g, cap, cur, rfl, _, _, _, _, _, _⟩
  · subst h0
    exact ⟨none, 0, rfl, fun i c hc => by rw [List.length_eq_zero_iff.1 hn] at hc; simp at hc⟩
  · refine ⟨_, cap, rfl, fun i c hc => ⟨g, 0, rfl, ?_⟩⟩
    have hi := (List.getElem?_eq_some_iff.1 hc).1
    rw [Nat.zero_add, h.cellAt i (by omega)]
    simp [ints, hc]
theorem rev_next {z : List Int} {k : Nat} {c : Int} (h : z[z.length - 1 - k]? = some c) (hk : k < z.length) : z.reverse.take (k + 1) = z.reverse.take k ++ [c] := by
  have : z.reverse[k]? = some c := by rw [List.getElem?_reverse hk]; exact h
  exact A.take_at this
/-- What stands in memory while the last line is reckoned. -/
structure Sv (w : World) (q qt : Nat) (r y : A.Nd) (t : A.Ex 30) (S : List Nat) (a : Option Addr) (z : List Int) (b : Option Addr) : Prop where
  rx : A.Rx w 30 t (.agg #[.int .u8 r.k, .int .u16 r.s, .slice r.a r.l r.c])
  tr : A.Tr w 30 (A.turnE 30 t) y S
  wd : A.Wd w a z
  wb : A.Wd w b z.reverse
  cells : (w.cell? ⟨q, 0, none⟩ = some (.int .u8 r.k) ∧ w.cell? ⟨q, 1, none⟩ = some (.int .u16 r.s) ∧ w.cell? ⟨q, 2, none⟩ = some (.slice r.a r.l r.c)) ∧ w.cell? ⟨qt, 0, none⟩ = some (.int .u8 y.k) ∧ w.cell? ⟨qt, 1, none⟩ = some (.int .u16 y.s) ∧ w.cell? ⟨qt, 2, none⟩ = some (.slice y.a y.l y.c)
theorem Sv.below {w w' : World} {q qt : Nat} {r y : A.Nd} {t : A.Ex 30} {S : List Nat} {a b : Option Addr} {z : List Int} (h : Sv w q qt r y t S a z b) (hb : Below w.heap.size w w') : Sv w' q qt r y t S a z b := by
  obtain ⟨h1, h2, h3, h4, ⟨c1, c2, c3⟩, c4, c5, c6⟩ := h
  exact ⟨A.rx_below hb 30 t _ h1, A.tr_keep 30 _ y S (fun j hj => hb.block j (A.tr_lt 30 _ y S h2 j hj)) h2, A.wd_below hb h3, A.wd_below hb h4,
    ⟨(hb.cell (p := ⟨q, 0, none⟩) (A.cell_lt c1)).trans c1, (hb.cell (p := ⟨q, 1, none⟩) (A.cell_lt c2)).trans c2, (hb.cell (p := ⟨q, 2, none⟩) (A.cell_lt c3)).trans c3⟩,
    (hb.cell (p := ⟨qt, 0, none⟩) (A.cell_lt c4)).trans c4, (hb.cell (p := ⟨qt, 1, none⟩) (A.cell_lt c5)).trans c5, (hb.cell (p := ⟨qt, 2, none⟩) (A.cell_lt c6)).trans c6⟩
theorem nodes_same {t : A.Ex 30} (h : A.rightE 30 t = true) : A.nodesR 30 (A.turnE 30 t) = A.nodesR 30 t := by
  have h2 := A.right_turn 30 t h
  unfold A.nodesR
  rw [if_pos h, if_pos h2]
  unfold A.rightE at h
  simp only [Bool.and_eq_true, decide_eq_true_eq] at h
  exact A.nodes_turn h.2.1
theorem deep_same {t : A.Ex 30} (h : A.rightE 30 t = true) : A.deepR 30 (A.turnE 30 t) = A.deepR 30 t := by
  have h2 := A.right_turn 30 t h
  unfold A.deepR
  rw [if_pos h, if_pos h2, A.deep_turn]
set_option maxRecDepth 100000 in
set_option maxHeartbeats 12800000 in
theorem walk (v0 : Value) (n0 : Nat) (t0 : A.Ex n0) (a1 : Option Addr) (len1 cap1 : Nat) (z1 : List Int) (w : World) (w0 : A.Rx w n0 t0 v0) (w1 : A.Wd w a1 z1) (e1 : z1.length = len1) (l1 : len1 ≤ cap1) (m1 : cap1 ≤ maxLen) :
    Calls Try.prog 6 #[v0, .slice a1 len1 cap1] w fun e w' => e = .returned (.bool true) ∧ Below w.heap.size w w' := by
  obtain ⟨c0, c1, c2, rfl⟩ := A.rx_form w0
  have HB0 := A.hide ((Below.refl w.heap.size w).alloc (Nat.le_refl _) (.cells #[c0, c1, c2] 25))
  have HP := A.hide (A.box3 w c0 c1 c2 25)
  have HX := A.hide (A.rx_below HB0.out n0 t0 _ w0)
  have HW := A.hide (A.wd_below HB0.out w1)
  have HE := A.hide e1
  have hlm : len1 ≤ maxLen := Nat.le_trans l1 m1
  unfold maxLen at hlm
  clear w0 w1 e1 l1 m1
  go_enter Try.func6, Try.ntmps6
  go_wp2_with fail
  obtain ⟨p0, p1, p2⟩ := HP.out
  clear HP
  generalize w.alloc (.cells #[c0, c1, c2] 25) = W at *
  obtain ⟨q, hq⟩ : ∃ q, w.heap.size = q := ⟨_, rfl⟩
  rw [hq] at p0 p1 p2 HB0 ⊢
  have HQ := A.hide hq
  have hzW : q ≤ W.heap.size := by have := HB0.out.size; omega
  clear hq
  refine (A.alive_any W).mono ?_
  rintro e u1 ⟨rfl, hb1⟩
  have r0 := (hb1.cell (p := ⟨q, 0, none⟩) (A.cell_lt p0)).trans p0
  have r1 := (hb1.cell (p := ⟨q, 1, none⟩) (A.cell_lt p1)).trans p1
  have r2 := (hb1.cell (p := ⟨q, 2, none⟩) (A.cell_lt p2)).trans p2
  have HX1 := A.hide (A.rx_below hb1 n0 t0 _ HX.out)
  have HW1 := A.hide (A.wd_below hb1 HW.out)
  have HB1 := A.hide (HB0.out.trans (hb1.mono hzW))
  have hz1 : q ≤ u1.heap.size := Nat.le_trans hzW hb1.size
  clear hb1 p0 p1 p2 HX HB0 HW hzW
  go_wp2_with fail
  refine (A.rgreat_any n0 t0 _ 30 u1 (by omega) HX1.out).mono ?_
  rintro e u2 ⟨rfl, hb2⟩
  have p0 := (hb2.cell (p := ⟨q, 0, none⟩) (A.cell_lt r0)).trans r0
  have p1 := (hb2.cell (p := ⟨q, 1, none⟩) (A.cell_lt r1)).trans r1
  have p2 := (hb2.cell (p := ⟨q, 2, none⟩) (A.cell_lt r2)).trans r2
  have HX2 := A.hide (A.rx_below hb2 n0 t0 _ HX1.out)
  have HW2 := A.hide (A.wd_below hb2 HW1.out)
  have HB2 := A.hide (HB1.out.trans (hb2.mono hz1))
  have hz2 : q ≤ u2.heap.size := Nat.le_trans hz1 hb2.size
  clear hb2 r0 r1 r2 HX1 HB1 HW1 hz1
  cases hg : A.greatE n0 t0 30
  · obtain ⟨t, ht⟩ := A.rx_trim 30 n0 t0 _ HX2.out hg
    have HT2 := A.hide ht
    clear ht hg HX2
    by_cases hl : 30 < len1
    · have d1 : decide ((30 : Int) < (len1 : Int)) = true := by simp; omega
      go_wp2
      go_ret
      exact ⟨rfl, by rw [HQ.out]; exact HB2.out⟩
    · have d1 : decide ((30 : Int) < (len1 : Int)) = false := by simp; omega
      go_wp2_with fail
      refine (A.right_any 30 t _ u2 HT2.out).mono ?_
      rintro e u3 ⟨rfl, hb3⟩
      have r0 := (hb3.cell (p := ⟨q, 0, none⟩) (A.cell_lt p0)).trans p0
      have r1 := (hb3.cell (p := ⟨q, 1, none⟩) (A.cell_lt p1)).trans p1
      have r2 := (hb3.cell (p := ⟨q, 2, none⟩) (A.cell_lt p2)).trans p2
      have HT3 := A.hide (A.rx_below hb3 30 t _ HT2.out)
      have HW3 := A.hide (A.wd_below hb3 HW2.out)
      have HB3 := A.hide (HB2.out.trans (hb3.mono hz2))
      have hz3 : q ≤ u3.heap.size := Nat.le_trans hz2 hb3.size
      clear hb3 p0 p1 p2 HT2 HB2 HW2 hz2
      cases hr : A.rightE 30 t
      · clear hr
        go_wp2
        go_ret
        exact ⟨rfl, by rw [HQ.out]; exact HB3.out⟩
      · have HR := A.hide hr
        have HRT := A.hide (A.right_turn 30 t hr)
        clear hr
        obtain ⟨kx, sx, ax, lx, cx, rfl, rfl, rfl⟩ := A.rx_cells HT3.out
        go_wp2_with fail
        refine (A.turned_yes 30 t _ u3 HT3.out HR.out).mono ?_
        rintro e u4 ⟨y, S, rfl, hy, hSn, hSl, hb4⟩
        have p0 := (hb4.cell (p := ⟨q, 0, none⟩) (A.cell_lt r0)).trans r0
        have p1 := (hb4.cell (p := ⟨q, 1, none⟩) (A.cell_lt r1)).trans r1
        have p2 := (hb4.cell (p := ⟨q, 2, none⟩) (A.cell_lt r2)).trans r2
        have bA : Below u4.heap.size u4 (u4.alloc (.cells #[.int .u8 y.k, .int .u16 y.s, .slice y.a y.l y.c] 25)) := (Below.refl _ u4).alloc (Nat.le_refl _) _
        have HT4 := A.hide (A.rx_below bA 30 t _ (A.rx_below hb4 30 t _ HT3.out))
        have HY4 := A.hide (A.tr_keep 30 _ y S (fun j hj => bA.block j (A.tr_lt 30 _ y S hy j hj)) hy)
        have HW4 := A.hide (A.wd_below bA (A.wd_below hb4 HW3.out))
        have HB4 := A.hide ((HB3.out.trans (hb4.mono hz3)).trans (bA.mono (Nat.le_trans hz3 hb4.size)))
        have HC4 := A.hide (And.intro (And.intro (A.cell_alloc p0 (.cells #[.int .u8 y.k, .int .u16 y.s, .slice y.a y.l y.c] 25)) (And.intro (A.cell_alloc p1 (.cells #[.int .u8 y.k, .int .u16 y.s, .slice y.a y.l y.c] 25)) (A.cell_alloc p2 (.cells #[.int .u8 y.k, .int .u16 y.s, .slice y.a y.l y.c] 25)))) (A.box3 u4 (.int .u8 y.k) (.int .u16 y.s) (.slice y.a y.l y.c) 25))
        have hz4 : q ≤ (u4.alloc (.cells #[.int .u8 y.k, .int .u16 y.s, .slice y.a y.l y.c] 25)).heap.size := Nat.le_trans hz3 (Nat.le_trans hb4.size bA.size)
        have HZ4 := A.hide hz4
        have HSN := A.hide hSn
        clear hb4 r0 r1 r2 p0 p1 p2 HT3 HB3 HW3 hz3 hy hSn hSl bA hz4
        obtain ⟨i0, hi0, hx0, hx1, hx2⟩ := info_parts info3
        go_wp2_with fail
        generalize u4.alloc (.cells #[.int .u8 y.k, .int .u16 y.s, .slice y.a y.l y.c] 25) = U at *
        generalize u4.heap.size = qt at *
        go_loopw [6, 7] (fun v u wr => ∃ (k : Nat) (z : Int), k ≤ len1 ∧ u = .int .i64 z ∧ z = (len1 : Int) - 1 - k ∧ wr.ownsRow U.heap.size 3 1 v k (ints (z1.reverse.take k)) ∧ Below U.heap.size U wr) (fun _ u _ => (intOf u + 1).toNat)
        case atStart => exact ⟨0, _, Nat.zero_le _, rfl, by omega, World.ownsRow_nil _ _ _ _, Below.refl _ _⟩
        case round =>
          obtain ⟨k, z, hk, rfl, hz, hown, hb⟩ := hrel
          by_cases hlt : k < len1
          · obtain ⟨j, rfl⟩ : ∃ j : Nat, z = (j : Int) := ⟨z.toNat, by omega⟩
            have hjk : j = z1.length - 1 - k := by have := HE.out; omega
            have hcj : z1[j]? = some (z1[j]'(by have := HE.out; omega)) := by simp
            generalize z1[j]'(by have := HE.out; omega) = c at hcj
            obtain ⟨b, off, rfl, hcell⟩ := A.wd_below hb HW4.out j c hcj
            have HN := A.hide (rev_next (hjk ▸ hcj) (by have := HE.out; omega))
            have g0 : decide (0 ≤ (j : Int)) = true := by simp
            have i1 : (0 : Int) ≤ (j : Int) := by omega
            have i2 : (j : Int) < (len1 : Int) := by omega
            have HZ := A.hide hz
            have HKL := A.hide (show (k : Int) + 1 ≤ 30 by omega)
            clear hcj hjk hz
            go_wp2_with (at_builtin; refine wpList_append_own _ rfl _ _ 36 rfl U.heap.size 3 i0 (.int .i64 0) 1 8 Try.underlying36 hi0 hx0 hx1 hx2 rfl (by decide) _ _ _ rfl (hown.alloc _) ⟨_, 0, none⟩ 1 1 (ints [c]) rfl rfl ?c1 ?c2 ?c3 ?c4 ?c5 ?_)
            case c1 => exact one_int _ _ _
            case c2 => exact ints_one c
            case c3 => unfold maxLen; omega
            case c4 => omega
            case c5 => have := hb.size; simp; try omega
            intro v' w3 hown' hgrow _
            have hb4 : Below U.heap.size U w3 := (hb.alloc hb.size _).grown hgrow (by have := hb.size; simp; omega) (fun k' e => (hown.lt k' e).1)
            clear hgrow hown hb
            go_wp2
            go_roundw
            case rel => exact ⟨k + 1, (j : Int) - 1, by omega, by go_num, by have := HZ.out; omega, by rw [HN.out]; unfold ints at *; rw [List.map_append]; exact hown', hb4⟩
            case measure => simp [intOf]
          · have ek : k = len1 := by omega
            subst ek
            have g0 : decide (0 ≤ z) = false := by simp; omega
            rw [List.take_of_length_le (by simp; have := HE.out; omega)] at hown
            obtain ⟨xb, cb, rfl, hwb⟩ := own_wd hown (by simp; exact HE.out)
            have HV := A.hide (show Sv wr q qt ⟨kx, sx, ax, lx, cx⟩ y t S a1 z1 xb from by
              have hc := HC4.out
              exact ⟨A.rx_below hb 30 t _ HT4.out, A.tr_keep 30 _ y S (fun j hj => hb.block j (A.tr_lt 30 _ y S HY4.out j hj)) HY4.out, A.wd_below hb HW4.out, hwb,
                ⟨(hb.cell (p := ⟨q, 0, none⟩) (A.cell_lt hc.1.1)).trans hc.1.1, (hb.cell (p := ⟨q, 1, none⟩) (A.cell_lt hc.1.2.1)).trans hc.1.2.1, (hb.cell (p := ⟨q, 2, none⟩) (A.cell_lt hc.1.2.2)).trans hc.1.2.2⟩,
                (hb.cell (p := ⟨qt, 0, none⟩) (A.cell_lt hc.2.1)).trans hc.2.1, (hb.cell (p := ⟨qt, 1, none⟩) (A.cell_lt hc.2.2.1)).trans hc.2.2.1, (hb.cell (p := ⟨qt, 2, none⟩) (A.cell_lt hc.2.2.2)).trans hc.2.2.2⟩)
            have HBW := A.hide (HB4.out.trans (hb.mono HZ4.out))
            have HZW := A.hide (Nat.le_trans HZ4.out hb.size)
            have HRL := A.hide (show z1.reverse.length = k from by simp; exact HE.out)
            have HHT := A.hide (A.has_turn 30 t z1)
            have HET := A.hide (A.empty_turn 30 t)
            have HNT := A.hide (nodes_same HR.out)
            have HDT := A.hide (deep_same HR.out)
            have HTT := A.hide (A.turn_turn 30 t)
            have hc30 : k ≤ 1000 := by omega
            clear hown hwb hb
            go_wp2_with fail
            obtain ⟨⟨s0, s1, s2⟩, s3, s4, s5⟩ := HV.out.cells
            go_region_held3 (fun w' => (w'.cell? ⟨q, 0, none⟩ = some (.int .u8 kx) ∧ w'.cell? ⟨q, 1, none⟩ = some (.int .u16 sx) ∧ w'.cell? ⟨q, 2, none⟩ = some (.slice ax lx cx)) ∧ w'.cell? ⟨qt, 0, none⟩ = some (.int .u8 y.k) ∧ w'.cell? ⟨qt, 1, none⟩ = some (.int .u16 y.s) ∧ w'.cell? ⟨qt, 2, none⟩ = some (.slice y.a y.l y.c)) (first | assumption | go_keep) ((first
              | (go_at_call 15; refine (A.deep_any 30 t _ _ V9.out.rx).mono ?_; rintro e v10 ⟨rfl, hb10⟩; have V10 := A.hide (V9.out.below hb10); have k10 := V10.out.cells)
              | (go_at_call 15; refine (A.deep_any 30 (A.turnE 30 t) _ _ (A.tr_rx 30 _ y S V8.out.tr)).mono ?_; rintro e v9 ⟨rfl, hb9⟩; have V9 := A.hide (V8.out.below hb9); have k9 := V9.out.cells; rw [HDT.out])
              | (go_at_call 14; refine (A.nodes_any 30 t _ _ V7.out.rx).mono ?_; rintro e v8 ⟨rfl, hb8⟩; have V8 := A.hide (V7.out.below hb8); have k8 := V8.out.cells)
              | (go_at_call 14; refine (A.nodes_any 30 (A.turnE 30 t) _ _ (A.tr_rx 30 _ y S V6.out.tr)).mono ?_; rintro e v7 ⟨rfl, hb7⟩; have V7 := A.hide (V6.out.below hb7); have k7 := V7.out.cells; rw [HNT.out])
              | (go_at_call 17; refine (A.empty_any 30 t _ _ V5.out.rx).mono ?_; rintro e v6 ⟨rfl, hb6⟩; have V6 := A.hide (V5.out.below hb6); have k6 := V6.out.cells; rw [HR.out])
              | (go_at_call 17; refine (A.empty_any 30 (A.turnE 30 t) _ _ (A.tr_rx 30 _ y S V4.out.tr)).mono ?_; rintro e v5 ⟨rfl, hb5⟩; have V5 := A.hide (V4.out.below hb5); have k5 := V5.out.cells; rw [HET.out, HRT.out])
              | (go_at_call 23; refine (A.same_yes 30 t y3 S3 _ _ hy3 hn3 V3.out.rx).mono ?_; rintro e v4 ⟨rfl, hb4⟩; have V4 := A.hide (V3.out.below hb4); have k4 := V4.out.cells)
              | (go_at_call 16; refine (A.turned_yes 30 (A.turnE 30 t) _ _ (A.tr_rx 30 _ y S V2.out.tr) HRT.out).mono ?_; rw [HTT.out]; rintro e v3 ⟨y3, S3, rfl, hy3, hn3, -, hb3⟩; have V3 := A.hide (V2.out.below hb3); have k3 := V3.out.cells)
              | (go_at_call 19; refine (A.has_any z1.reverse 30 (A.turnE 30 t) _ xb k cb _ HRL.out hc30 (A.tr_rx 30 _ y S V1.out.tr) (A.right_shapes HRT.out) V1.out.wb).mono ?_; rintro e v2 ⟨rfl, hb2⟩; have V2 := A.hide (V1.out.below hb2); have k2 := V2.out.cells; rw [HHT.out])
              | (go_at_call 19; refine (A.has_any z1 30 t _ a1 k cap1 _ HE.out hc30 (HV.out.below (A.below_drew1 wr)).rx (A.right_shapes HR.out) (HV.out.below (A.below_drew1 wr)).wd).mono ?_; rintro e v1 ⟨rfl, hb1⟩; have V1 := A.hide ((HV.out.below (A.below_drew1 wr)).below hb1); have k1 := V1.out.cells)))
            have B1 := HBW.out.drew.trans (hb1.mono HZW.out)
            have Z1 := Nat.le_trans HZW.out hb1.size
            have B2 := B1.trans (hb2.mono Z1)
            have Z2 := Nat.le_trans Z1 hb2.size
            have B3 := B2.trans (hb3.mono Z2)
            have Z3 := Nat.le_trans Z2 hb3.size
            have B4 := B3.trans (hb4.mono Z3)
            have Z4 := Nat.le_trans Z3 hb4.size
            have B5 := B4.trans (hb5.mono Z4)
            have Z5 := Nat.le_trans Z4 hb5.size
            have B6 := B5.trans (hb6.mono Z5)
            have Z6 := Nat.le_trans Z5 hb6.size
            have B7 := B6.trans (hb7.mono Z6)
            have Z7 := Nat.le_trans Z6 hb7.size
            have B8 := B7.trans (hb8.mono Z7)
            have Z8 := Nat.le_trans Z7 hb8.size
            have B9 := B8.trans (hb9.mono Z8)
            have Z9 := Nat.le_trans Z8 hb9.size
            have B10 := B9.trans (hb10.mono Z9)
            have HBZ := A.hide B10
            clear B1 B2 B3 B4 B5 B6 B7 B8 B9 B10 Z1 Z2 Z3 Z4 Z5 Z6 Z7 Z8 Z9 hb1 hb2 hb3 hb4 hb5 hb6 hb7 hb8 hb9 hb10 k1 k2 k3 k4 k5 k6 k7 k8 k9 k10 hy3 hn3 s0 s1 s2 s3 s4 s5
            go_wp2
            go_ret
            exact ⟨A.ret_bool (by simp), by rw [HQ.out]; exact HBZ.out⟩
  · clear hg
    go_wp2
    go_ret
    exact ⟨rfl, by rw [HQ.out]; exact HB2.out⟩

set_option maxRecDepth 100000 in
theorem lifted (os : Os) (started : os.Started) (H : Type) (enc : TypeId × Value → H) :
    ReturnsInHanded {} Try.checked os 6 .any (Rows.regexTurnsSpec.pre6 enc Try.prog Try.f6 Rows.regexTurnsRow.domain false) (Rows.regexTurnsSpec.post enc Try.prog Try.f6 false true false false) := by
  refine returnsInHanded_of_change (C := Try.checked) own started (by kernel_rfl) Try.func6
    (ChangeSpec.witness6 (enc := enc) (C := Try.checked) false ⟨#[], #[.agg #[.int .u8 0, .int .u16 0, .slice none 0 0], .slice none 0 0], []⟩ 8 (by kernel_rfl) (by kernel_rfl) (by kernel_rfl) (by kernel_rfl)) ?_
  intro W base args ds gs before hval0 hW hcnd _
  have hval : ∀ (j : Nat) t v, Try.f6.params[j]? = some t → args[j]? = some v → Value.okWide Try.prog W .any base t v := hval0
  have hW' := hW
  obtain ⟨p, q, hA0, hV, rfl, hfz, hnd⟩ := hW
  have hA : DataW.TrodAll enc Try.prog W 0 (fun _ => true) true Try.f6.params.toList args.toList ds p := hA0
  rw [Try.params6] at hA hval
  obtain ⟨v0, vs0, d0, ds0, p0, q0, hargs, rfl, rfl, h0, r0⟩ := trodAll_cons hA
  obtain ⟨v1, vs1, d1, ds1, p1, q1, rfl, rfl, rfl, h1, r1⟩ := trodAll_cons r0
  obtain ⟨rfl, rfl, rfl⟩ := trodAll_nil r1
  obtain rfl : args = #[v0, v1] := by cases args; simp_all
  obtain ⟨rfl, rfl⟩ := trodVars_none hV
  obtain ⟨cs0, rfl⟩ := A.okWide_ex (hval 0 25 v0 rfl rfl)
  have k0 := h0
  have lt0 : ∀ x ∈ p0, x.block < W.heap.size := by obtain ⟨m, hm⟩ := k0; exact DataW.trod_lt m _ _ _ hm
  obtain ⟨n0, t0, w0⟩ : ∃ (n : Nat) (t : A.Ex n), A.Rx W n t (.agg cs0) := by obtain ⟨fuel, hf⟩ := h0; exact A.open_arg hf
  obtain ⟨a1, len1, cap1, rfl⟩ := okWide_slice Try.underlying36 (hval 1 36 v1 rfl rfl)
  have k1 := h1
  have lt1 : ∀ x ∈ p1, x.block < W.heap.size := by obtain ⟨m, hm⟩ := k1; exact DataW.trod_lt m _ _ _ hm
  obtain ⟨z1, w1, e1, l1, m1⟩ : ∃ zs : List Int, A.Wd W a1 zs ∧ zs.length = len1 ∧ len1 ≤ cap1 ∧ cap1 ≤ maxLen := by obtain ⟨fuel, hf⟩ := h1; exact A.open_words hf
  clear hA0 hval0
  refine (walk (.agg cs0) n0 t0 a1 len1 cap1 z1 W w0 w1 e1 l1 m1).mono fun e W' ⟨he, bel⟩ => ?_
  subst he
  exact ⟨_, rfl, _, _, _, [], _, [], hW', trodAll_mk1 (shut_bool Try.underlying4 _), (trodAll_cons_mk (Below.trod laidOut (by kernel_rfl) (of_decide_eq_true (by kernel_rfl)) k0 bel lt0) (trodAll_cons_mk (Below.trod laidOut (by kernel_rfl) (of_decide_eq_true (by kernel_rfl)) k1 bel lt1) trodAll_mk0)), rfl, bel.frame _, fun h => by cases h⟩

theorem over : Rows.regexTurnsRow.holds Try.pinned (OpenSpec.ofChange Rows.regexTurnsSpec) :=
  OpenClaim.holds_of_wide 6 Try.f6 rfl rfl rfl rfl rfl rfl rfl ⟨rfl, rfl, rfl, rfl, rfl⟩ rfl rfl rfl rfl rfl (by kernel_rfl) Try.func6 (by kernel_rfl)
    (of_decide_eq_true (by kernel_rfl)) (by unfold Func.isWrapper; first | (rw [if_pos (by decide +kernel)]; kernel_rfl) | (rw [if_neg (by decide +kernel)]; exact ⟨rfl, rfl⟩))
    (fun os started H enc _ => lifted os started H enc)

/-- The statement. -/
theorem proved : Rows.RegexTurnsSaid := over
#print axioms proved
end Go.Proofs.Ytacfkdjpdgnohaa.regexTurns
