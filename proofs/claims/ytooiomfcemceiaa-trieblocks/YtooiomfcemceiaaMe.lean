/- Contract: the document's Blocks. -/
import Derived.Test.YtooiomfcemceiaaMd
import Derived.Deep.RegionLaw
import Derived.Maps.RangeWalk
namespace Go.Proofs.Ytooiomfcemceiaa.A
open Go.RowKit Go.Maps

theorem intsN_at (l : List Nat) (i : Nat) (hi : i < l.length) : (intsN l)[i]? = some (.int .i64 (l.getD i 0 : Nat)) := by
  simp [intsN, List.getD_eq_getElem?_getD, hi]
theorem own_ints {w : World} {base n : Nat} {x : Option Addr} {cap : Nat} {l : List Nat} (h : w.ownsRow base 3 1 (.slice x n cap) n (intsN l)) (hn : n = l.length) {i : Nat} (hi : i < n) : ∃ g, x = some ⟨g, 0, none⟩ ∧ w.cell? ⟨g, i, none⟩ = some (.int .i64 (l.getD i 0 : Nat)) := by
  rcases h.2 with ⟨e, h0⟩ | ⟨g, cap', cur, e, _, hg, _, _, hs, ht⟩
  · omega
  · cases e
    refine ⟨g, rfl, ?_⟩
    have := intsN_at l i (by omega)
    rw [← ht, List.getElem?_take] at this
    split at this
    · rw [cell_of_row _ _ _ _ _ _ hg]; simpa using this
    · cases this

theorem ar_below {w w' : World} {q : Nat} {g : Nat → Int} (d : Ar w q g) (hb : Below w.heap.size w w') : Ar w' q g := heap_below d hb
theorem own_range {w : World} {base n c i : Nat} {x : Option Addr} {cap : Nat} {l : List (List Int)} (h : w.ownsRow base 69 128 (.slice x n cap) n (cellsI l)) (hl : ∀ y ∈ l, y.length = 128) (hn : c = l.length) (hi : i < c) : ∃ g, x = some ⟨g, 0, none⟩ ∧ w.rangeAt g (i * 128) (cI (l.getD i [])) := by
  rcases h.2 with ⟨e, h0⟩ | ⟨g, cap', cur, e, _, hg, _, _, hs, ht⟩
  · exfalso
    subst h0
    have h1 := h.1
    cases l with
    | nil => simp at hn; omega
    | cons y r => have := hl y (by simp); simp [cellsI, cI_len] at h1; rw [h1.1] at this; simp at this
  · cases e
    refine ⟨g, rfl, fun j u hu => ?_⟩
    have := cellsI_at l hl i j (by omega) u hu
    rw [← ht, List.getElem?_take] at this
    split at this
    · rw [cell_of_row _ _ _ _ _ _ hg]; simpa using this
    · cases this
theorem bl_range {w : World} {q : Nat} {t : TypeId} {fr : Nat × Nat} {cs : List Value} (h : w.heap[q]? = some (.cells cs.toArray t fr)) : w.rangeAt q 0 cs := fun j u hu => by
  rw [Nat.zero_add, cell_of_row _ _ j _ _ _ h]; simpa using hu
theorem bl_first {w : World} {q n : Nat} {t : TypeId} {fr : Nat × Nat} {h : Int → Int} (d : w.heap[q]? = some (.cells (cI (bl h n)).toArray t fr)) : w.cell? ⟨q, 0, none⟩ = some (.int .i64 (h ((n : Int) * 128))) := by
  rw [cell_of_row _ _ 0 _ _ _ d]
  simp [cI, bl_at _ _ 0 (show 0 < 128 by omega)]
/-- 128 cells at a pointer. -/
def rowM (w : World) : Value → List Value
  | .pointer (some ⟨b, o, none⟩) => (List.range 128).map fun (j : Nat) => (w.cell? ⟨b, o + j, none⟩).getD undef
  | _ => []
def rowMok (w : World) : Value → Bool
  | .pointer (some ⟨b, o, none⟩) => (List.range 128).all fun (j : Nat) => (w.cell? ⟨b, o + j, none⟩).isSome
  | _ => false
theorem rowM_drew (w : World) (v : Value) : rowM w.drew v = rowM w v := rfl
theorem rowMok_drew (w : World) (v : Value) : rowMok w.drew v = rowMok w v := rfl
theorem rowM_at {w : World} {b o : Nat} {cs : List Value} (h : w.rangeAt b o cs) (hl : cs.length = 128) : rowM w (.pointer (some ⟨b, o, none⟩)) = cs ∧ rowMok w (.pointer (some ⟨b, o, none⟩)) = true := by
  have hc : ∀ j, (hj : j < 128) → w.cell? ⟨b, o + j, none⟩ = some (cs[j]'(by omega)) := fun j hj => h j _ (List.getElem?_eq_getElem (by omega))
  constructor
  · apply List.ext_getElem
    · simp [rowM, hl]
    · intro j h1 h2
      simp only [rowM, List.getElem_map, List.getElem_range]
      rw [hc j (by omega)]; rfl
  · simp only [rowMok, List.all_eq_true, List.mem_range]
    intro j hj
    rw [hc j hj]; rfl
theorem wp_load69s {d : Tmp} {x : Operand} {t : TypeId} {p : String} {af : Array Edge} {g : Option (Nat × Bool)} {a : Act} {w : World} {K : Act → World → Prop} {Q : Exit → Act → World → Prop} (hc : rowMok w (a.eval x) = true) :
    Oper.wp Try.prog { dst := some d, op := Op.load 69 x, type := t, pos := p, after := af, guard := g } a w K Q = K (a.put (some d) (.agg (rowM w (a.eval x)).toArray)) w := by
  obtain ⟨_, hi69⟩ := zero_of_info zero69
  unfold rowMok at hc
  split at hc
  · rename_i b o hx
    have hl : (rowM w (.pointer (some ⟨b, o, none⟩))).length = 128 := by simp [rowM]
    have hr : w.rangeAt b o (rowM w (.pointer (some ⟨b, o, none⟩))) := fun j v hj => by
      have hj2 : j < 128 := by have := (List.getElem?_eq_some_iff.1 hj).1; omega
      have hs := List.all_eq_true.1 hc j (by simpa using hj2)
      simp only [rowM, List.getElem?_map, List.getElem?_range hj2, Option.map_some, Option.some.injEq] at hj
      obtain ⟨u, hu⟩ := Option.isSome_iff_exists.1 hs
      rw [hu] at hj ⊢
      rw [← hj]; rfl
    have hrun := run_loadAt_mid (P := Try.prog) w b o 69 _ _ hr Try.underlying69 rfl (by rw [hl]; exact hi69)
    unfold Oper.wp execOp
    simp only [hx, Sem.run_bind, hrun, Result.andThen_ok, Sem.run_pure]
    rw [Oper.upon_value]
  · cases hc
theorem below_drew1 {B : Nat} {a w : World} (h : Below B a w) : Below B a w.drew := h.drew
theorem news_block {w : World} {B : Nat} {cs : List Value} {t : TypeId} {fr : Nat × Nat} (hb : w.heap[B]? = some (.cells cs.toArray t fr)) : ∀ j u, cs[j]? = some u → w.cell? ((⟨B, 0, none⟩ : Addr).add j) = some u := fun j u hu => by
  have hadd : (⟨B, 0, none⟩ : Addr).add j = ⟨B, j, none⟩ := by unfold Addr.add; split <;> simp_all
  rw [hadd, cell_of_row w B j _ t fr hb]
  simpa using hu
theorem grown_set' {w wr : World} {q : Nat} (h : w.grownBy wr (some q)) (a : Addr) (u : Value) (ha : a.block = q) : w.grownBy (wr.setCell a u) (some q) := grown_set h a u (.inl ha)

attribute [local go_sem ↓] wp_load69s
attribute [local go_sem] rowM_drew rowMok_drew
set_option maxRecDepth 100000 in
set_option maxHeartbeats 6400000 in
theorem rblocks_any (x : Option Addr) (len cap : Nat) (zs : List Rg) (w : World) (hl : len ≤ 60) (hs : SegR w x len zs) (hr : Rt 255 zs len) :
    Calls Try.prog 15 #[.slice x len cap] w fun e w' => e = .returned (.int .i64 ((kept (hv zs len) 8704).length : Nat)) ∧ Below w.heap.size w w' := by
  have hmk : ∀ w, (Instr.makeSlice 67 (.int .i64 256) (.int .i64 256)).run Try.prog w = .ok (.slice (some ⟨w.heap.size, 0, none⟩) 256 256) (w.alloc (.cells (rowB 256 fun _ => false) 4)) := make67 256 (by omega)
  have HMK := hide hmk
  have HR := hide hr
  have HS := hide hs
  have HBD := hide (fun c => hv_bd (l := zs) (k := len) c hr)
  have HEC := hide (fun b hb he => edge_con (b := b) hr hb he)
  clear hr hs hmk
  go_enter Try.func15, Try.ntmps15
  go_wp2_with fail
  refine (edges_any x len cap zs w hl HS.out HR.out).mono ?_
  rintro e w1 ⟨ve, rfl, hown, hb1⟩
  obtain ⟨xe, ce, rfl⟩ := own_form hown
  have hne8 := edges_len zs len 8704
  obtain ⟨ne, hne⟩ : ∃ ne, (edges zs len 8704).length = ne := ⟨_, rfl⟩
  rw [hne] at hown hne8 ⊢
  have HNE := hide hne
  have HEO := hide hown
  have HB1 := hide hb1
  clear hne hown hb1
  have hmk := HMK.out
  go_wp2_with fail
  have hbk : Bk (hv zs len) w1 (w1.alloc (.cells (rowB 256 fun _ => false) 4)) w1.heap.size 0 0 (.slice none 0 0) :=
    ⟨rfl, World.ownsRow_nil _ _ _ _, heap_alloc_last w1 _, (Below.refl _ _).alloc (Nat.le_refl _) _, by simp⟩
  clear hmk HMK
  generalize w1.alloc (.cells (rowB 256 fun _ => false) 4) = W0 at *
  obtain ⟨PB, hPB⟩ : ∃ PB, w1.heap.size = PB := ⟨_, rfl⟩
  have HPB := hide hPB
  rw [hPB] at hbk ⊢
  clear hPB
  go_loopw [4, 6, 7] (fun a v u wr => ∃ n c : Nat, n ≤ 8704 ∧ u = .int .i64 n ∧ a = .int .i64 ((edges zs len n).length : Nat) ∧ Bk (hv zs len) w1 wr PB n c v) (fun _ _ u _ => 8704 - (intOf u).toNat)
  case atStart => exact ⟨0, 0, by omega, rfl, rfl, hbk⟩
  case round =>
    obtain ⟨n, c, hn, rfl, rfl, hbk⟩ := hrel
    by_cases hlt : n < 8704
    · have hbW : Below w1.heap.size w1 wr := HPB.out ▸ hbk.2.2.2.1
      have hsr := hide ((HS.out.below HB1.out).below hbW)
      have heo := own_below HEO.out hbW
      have i1 : (0 : Int) ≤ (n : Int) := by omega
      have i2 : (n : Int) < 8704 := by omega
      have hel := edges_len zs len n
      cases he : edgeB zs len n
      · have hcon := (isC_iff _ _).2 (HEC.out n hlt he)
        obtain ⟨m, hm⟩ : ∃ m : Nat, hv zs len ((n : Int) * 128) = (m : Int) := ⟨(hv zs len ((n : Int) * 128)).toNat, by have := (HBD.out ((n : Int) * 128)).1; omega⟩
        have hm2 : m < 256 := by have := (HBD.out ((n : Int) * 128)).2; omega
        obtain ⟨m0, m1⟩ := mk_cell hbk.2.2.1 hm2
        have HEND := hide (bk_plain hbk hcon hm hm2)
        have HM := hide hm
        have HEN := hide (edges_no he)
        have hat := edges_at_no hlt he
        rw [HNE.out] at hat
        have HAT := hide hat
        clear hbk hcon hm he hat
        obtain ⟨y, hy⟩ : ∃ y, (edges zs len n).length = y := ⟨_, rfl⟩
        have HY := hide hy
        rw [hy] at hel ⊢
        clear hy
        have hm3 : (m : Int) < 256 := by omega
        rcases HAT.out with q | ⟨q1, q2⟩
        · rw [HY.out] at q
          subst q
          go_wp2_with (go_at_call 14; refine (rget_any x len cap _ zs _ (by unfold maxLen; omega) hsr.out).mono ?_; rintro e w2 ⟨rfl, hw2⟩; rw [HM.out, hw2])
          refine ⟨⟨n + 1, c, by omega, by go_num, by rw [HEN.out, HY.out], HEND.out⟩, ?_⟩
          simp [intOf]; omega
        · rw [HY.out] at q1 q2
          obtain ⟨g, rfl, g1⟩ := own_ints heo HNE.out.symm q1
          generalize (edges zs len 8704).getD y 0 = e0 at *
          have q3 : ((y : Int) == (ne : Int)) = false := by simp; omega
          have q4 : ((e0 : Int) != (n : Int)) = true := by simp; omega
          have q5 : (y : Int) < (ne : Int) := by omega
          clear q2 heo
          go_wp2_with (go_at_call 14; refine (rget_any x len cap _ zs _ (by unfold maxLen; omega) hsr.out).mono ?_; rintro e w2 ⟨rfl, hw2⟩; rw [HM.out, hw2])
          refine ⟨⟨n + 1, c, by omega, by go_num, by rw [HEN.out, HY.out], HEND.out⟩, ?_⟩
          simp [intOf]; omega
      · have hat := edges_at_yes hlt he
        have HEN := hide (show (edges zs len (n + 1)).length = (edges zs len n).length + 1 from by rw [edges_yes he, List.length_append]; rfl)
        rw [HNE.out] at hat
        obtain ⟨y, hy⟩ : ∃ y, (edges zs len n).length = y := ⟨_, rfl⟩
        have HY := hide hy
        rw [hy] at hel hat ⊢
        obtain ⟨q1, q2⟩ := hat
        obtain ⟨g, rfl, g1⟩ := own_ints heo HNE.out.symm q1
        rw [q2] at g1
        have q3 : ((y : Int) == (ne : Int)) = false := by simp; omega
        have q5 : (y : Int) < (ne : Int) := by omega
        obtain ⟨hv69, hi69⟩ := zero_of_info zero69
        rw [rowI_zero] at hv69
        have HBK := hide hbk
        have HI69 := hide hi69
        clear hy q2 heo he hbk hi69
        go_wp2_with fail
        have hbk2 := bk_below HBK.out ((Below.refl _ _).alloc (Nat.le_refl _) (.cells (rowK .i64 128 fun _ => 0) 69))
        have har : Ar (wr.alloc (.cells (rowK .i64 128 fun _ => 0) 69)) wr.heap.size (fillG (hv zs len) n 0) := by
          have := heap_alloc_last wr (.cells (rowK .i64 128 fun _ => 0) 69)
          unfold Ar
          rw [rowK_congr (g := fillG (hv zs len) n 0) (h := fun _ => 0) (fun j _ => by unfold fillG; rw [if_neg (by omega)])]
          exact this
        have HQ := hide (show PB < wr.heap.size from HBK.out.2.2.2.2)
        have HOWB := hide (show u6.ownBlock = none ∨ u6.ownBlock ≠ some wr.heap.size from by
          cases ho : u6.ownBlock with
          | none => exact .inl rfl
          | some gg => exact .inr (fun e => by have := (HBK.out.2.1.lt gg ho).2; cases e; omega))
        have HAR := hide har
        have HB2 := hide hbk2
        clear har hbk2 hv69 HBK hsr hbW
        generalize wr.alloc (.cells (rowK .i64 128 fun _ => 0) 69) = W at *
        generalize wr.heap.size = q at *
        go_loopw [9, 10] (fun s u wi => ∃ k : Nat, k ≤ 128 ∧ u = .int .i64 k ∧ s = .bool (samB (hv zs len) n k) ∧ Ar wi q (fillG (hv zs len) n k) ∧ W.grownBy wi (some q)) (fun _ u _ => 128 - (intOf u).toNat)
        case atStart => exact ⟨0, by omega, rfl, rfl, HAR.out, grown_refl _ _⟩
        case round =>
          obtain ⟨k, hk, rfl, rfl, har, hg⟩ := hrel
          by_cases hlt2 : k < 128
          · have HSR := hide ((HS.out.below HB1.out).below (show Below w1.heap.size w1 wr from by rw [HPB.out]; exact HB2.out.2.2.2.1.grown hg (Nat.le_of_lt (Nat.lt_of_lt_of_le (Nat.lt_succ_self _) HB2.out.2.2.2.2)) (fun k e => by cases e; exact Nat.le_of_lt HQ.out)))
            obtain ⟨m0, m1⟩ := ar_cell har hlt2
            have HA := hide (ar_set har hlt2 (hv zs len ((n : Int) * 128 + (k : Int))) (fun i _ => fillG_next (hv zs len) n k i))
            have HG := hide (show W.grownBy (wr.setCell ⟨q, k, none⟩ (.int .i64 (hv zs len ((n : Int) * 128 + (k : Int))))) (some q) from grown_set' hg _ _ rfl)
            have HAR' := hide har
            have HGG := hide hg
            clear har hg HAR
            have i3 : (0 : Int) ≤ (k : Int) := by omega
            have i4 : (k : Int) < 128 := by omega
            generalize hvv : hv zs len ((n : Int) * 128 + (k : Int)) = vv at *
            have HVV := hide hvv
            clear hvv
            go_wp2_with (go_at_call 14; refine (rget_any x len cap _ zs _ (by unfold maxLen; omega) HSR.out).mono ?_; rintro e w2 ⟨rfl, hw2⟩; rw [HVV.out, hw2])
            obtain ⟨x1, _⟩ := ar_cell HA.out hlt2
            obtain ⟨x2, _⟩ := ar_cell HA.out (show 0 < 128 by omega)
            have e1 : fillG (hv zs len) n (k + 1) k = vv := by unfold fillG; rw [if_pos (by omega)]; exact HVV.out
            have e2 : fillG (hv zs len) n (k + 1) 0 = hv zs len ((n : Int) * 128) := by unfold fillG; rw [if_pos (by omega)]; simp
            rw [e1] at x1
            rw [e2] at x2
            have HSN := hide (show samB (hv zs len) n (k + 1) = (samB (hv zs len) n k && decide (vv = hv zs len ((n : Int) * 128))) from by show (_ && decide (hv zs len ((n : Int) * 128 + (k : Int)) = _)) = _; rw [HVV.out])
            clear e1 e2 m0 m1 HAR' HGG HSR
            generalize wr.setCell ⟨q, k, none⟩ (.int .i64 vv) = W2 at *
            generalize hv zs len ((n : Int) * 128) = h0 at *
            cases hsam : samB (hv zs len) n k
            · rw [hsam] at HSN
              go_quiet (fail)
              go_wp2
              go_roundw
              case rel => exact ⟨k + 1, by omega, by go_num, by rw [HSN.out]; rfl, ar_below HA.out (below_drewN (Below.refl _ _) _), grown_below HG.out (below_drewN (Below.refl _ _) _)⟩
              case measure => simp [intOf]; omega
            · rw [hsam] at HSN
              go_quiet (fail)
              go_wp2
              go_roundw
              case rel => exact ⟨k + 1, by omega, by go_num, by rw [HSN.out]; simp; try rfl, ar_below HA.out (below_drewN (Below.refl _ _) _), grown_below HG.out (below_drewN (Below.refl _ _) _)⟩
              case measure => simp [intOf]; omega
          · have e : k = 128 := by omega
            subst e
            have hbk3 := bk_grown HB2.out hg HQ.out HOWB.out
            unfold Ar at har
            rw [fillG_end] at har
            have hsz : (cI (bl (hv zs len) n)).toArray.size = 128 := by simp [cI_len, bl_len]
            rw [samB_isC]
            have HBK := hide hbk3
            have HAR2 := hide har
            have HSZ := hide hsz
            have HLN := hide (grown_refl W none)
            clear hbk3 hg HB2 HAR har hsz
            cases hc : isC (bl (hv zs len) n)
            · have HC := hide hc
              clear hc
              obtain ⟨xo, co, rfl⟩ := own_form HBK.out.2.1
              have hcl : c = (oddk (hv zs len) n).length := HBK.out.1
              have hcn := odd_len (hv zs len) n
              rw [← hcl] at hcn
              have HCL := hide hcl
              clear hcl
              go_wp2_with fail
              go_loopw [11, 12] (fun t u wi => ∃ i : Nat, i ≤ c ∧ u = .int .i64 i ∧ t = .bool (thB (hv zs len) n i) ∧ Below wr.heap.size wr wi) (fun _ u _ => c - (intOf u).toNat)
              case atStart => exact ⟨0, by omega, rfl, by rw [thB_zero], Below.refl _ _⟩
              case round =>
                obtain ⟨i, hi, rfl, rfl, hb⟩ := hrel
                by_cases hlt3 : i < c
                · have hn3 := thB_next (h := hv zs len) (n := n) (i := i) (by rw [← HCL.out]; exact hlt3)
                  have HN3 := hide hn3
                  clear hn3
                  cases hth : thB (hv zs len) n i
                  · rw [hth] at HN3
                    obtain ⟨gg, rfl, hra⟩ := own_range (own_below HBK.out.2.1 hb) (odd_len128 _ _) HCL.out hlt3
                    have hrq := bl_range (heap_below HAR2.out hb)
                    have heq := eq69 (odd_fit HBD.out n i (by rw [← HCL.out]; exact hlt3)) (bl_fit HBD.out n)
                    have hl1 : (cI ((oddk (hv zs len) n).getD i [])).length = 128 := by rw [cI_len]; exact (odd_fit HBD.out n i (by rw [← HCL.out]; exact hlt3)).1
                    have hl2 : (cI (bl (hv zs len) n)).length = 128 := by rw [cI_len, bl_len]
                    obtain ⟨r1, r2⟩ := rowM_at hra hl1
                    obtain ⟨r3, r4⟩ := rowM_at hrq hl2
                    have i3 : (0 : Int) ≤ (i : Int) := by omega
                    have i4 : (i : Int) < (c : Int) := by omega
                    clear hra hrq hl1 hl2
                    generalize cI ((oddk (hv zs len) n).getD i []) = cs1 at *
                    generalize cI (bl (hv zs len) n) = cs2 at *
                    generalize decide ((oddk (hv zs len) n).getD i [] = bl (hv zs len) n) = r at *
                    go_wp2_with fail
                    go_region_law (fail)
                    all_goals
                      go_frame
                      go_wp2
                      go_roundw
                      case rel =>
                        refine ⟨_, _, _, _, _, _, _, _, _, _, _, _, _, _, _, _, _, ?_, rfl⟩
                        exact ⟨i + 1, by omega, by go_num, by rw [HN3.out]; rfl, below_drew1 hb⟩
                      case measure => simp [intOf]; omega
                  · rw [hth] at HN3
                    go_wp2_with fail
                    go_quiet (fail)
                    go_wp2
                    go_roundw
                    case rel => exact ⟨i + 1, by omega, by go_num, by rw [HN3.out]; rfl, below_drewN hb _⟩
                    case measure => simp [intOf]; omega
                · have e : i = c := by omega
                  subst e
                  have hbk4 := bk_below HBK.out hb
                  have har4 := heap_below HAR2.out hb
                  rw [thB_end HCL.out]
                  by_cases hm : bl (hv zs len) n ∈ oddk (hv zs len) n
                  · have HEND := hide (bk_there hbk4 HC.out hm)
                    rw [show decide (bl (hv zs len) n ∈ oddk (hv zs len) n) = true from decide_eq_true hm]
                    clear hm hbk4 har4 HBK HAR2
                    go_wp2
                    refine ⟨⟨n + 1, i, by omega, by go_num, by rw [HEN.out, HY.out]; go_num, HEND.out⟩, ?_⟩
                    simp [intOf]; omega
                  · rw [show decide (bl (hv zs len) n ∈ oddk (hv zs len) n) = false from decide_eq_false hm]
                    have HM := hide hm
                    have HB4 := hide hbk4
                    have HA4 := hide har4
                    have hown4 := hbk4.2.1
                    have hsz4 := hbk4.2.2.2.2
                    obtain ⟨i0, hi', hz0, hz1, hz2⟩ := info_parts info69
                    have hone := cI_one (bl (hv zs len) n)
                    have hlen : (cI (bl (hv zs len) n)).length = 1 * 128 := by rw [cI_len, bl_len]
                    clear hm hbk4 har4 HBK HAR2 hb
                    generalize hcs : cI (bl (hv zs len) n) = cs at *
                    have HCS := hide hcs
                    clear hcs
                    generalize hks : cellsI (oddk (hv zs len) n) = ks at *
                    have HKS := hide hks
                    clear hks
                    go_wp2_with (first
                      | refine wpList_load_row rfl 69 _ rfl q rfl 69 _ (0, 0) _ HA4.out Try.underlying69 rfl (by rw [HSZ.out]; exact HI69.out) ?_
                      | refine wpList_build68 rfl _ _ rfl rfl _ rfl HSZ.out ?_
                      | (at_builtin; refine wpList_append_own _ rfl _ _ 68 rfl (PB + 1) 69 i0 (.agg (Array.replicate 128 (.int .i64 0))) 128 1024 Try.underlying68 hi' hz0 hz1 hz2 (by simp [Value.cells]) (by omega) _ _ _ rfl (hown4.alloc _) ⟨_, 0, none⟩ 1 1 cs rfl hlen (news_block (heap_alloc_last _ _)) hone (by unfold maxLen; omega) (by omega) (by simp; omega) ?_; intro v' w3 hown' hgrow _))
                    have hend := bk_new (v := .slice xo i co) (bk_below HB4.out ((Below.refl _ _).alloc (Nat.le_refl _) (.cells cs.toArray 69))) HC.out HM.out hgrow hown' rfl (by rw [HKS.out, HCS.out])
                    refine ⟨⟨n + 1, _, by omega, by go_num, by rw [HEN.out, HY.out]; go_num, hend⟩, ?_⟩
                    simp [intOf]; omega
            · have HC := hide hc
              clear hc
              obtain ⟨m, hm⟩ : ∃ m : Nat, hv zs len ((n : Int) * 128) = (m : Int) := ⟨(hv zs len ((n : Int) * 128)).toNat, by have := (HBD.out ((n : Int) * 128)).1; omega⟩
              have hm2 : m < 256 := by have := (HBD.out ((n : Int) * 128)).2; omega
              obtain ⟨m0, m1⟩ := mk_cell HBK.out.2.2.1 hm2
              have x0 := bl_first HAR2.out
              rw [hm] at x0
              have HEND := hide (bk_plain HBK.out HC.out hm hm2)
              have hm3 : (m : Int) < 256 := by omega
              clear hm HBK HAR2
              go_wp2
              refine ⟨⟨n + 1, c, by omega, by go_num, by rw [HEN.out, HY.out]; go_num, HEND.out⟩, ?_⟩
              simp [intOf]; omega
    · have e : n = 8704 := by omega
      subst e
      obtain ⟨xo, co, rfl⟩ := own_form hbk.2.1
      have hcn := odd_len (hv zs len) 8704
      have HKC := hide (kept_count HBD.out 8704)
      have hcl := hbk.1
      rw [← hcl] at hcn
      have HCL := hide hcl
      have HM := hide hbk.2.2.1
      have HBB := hide (HB1.out.trans ((show Below w1.heap.size w1 wr from by rw [HPB.out]; exact hbk.2.2.2.1).mono HB1.out.size))
      clear hcl hbk
      generalize hpp : plk (hv zs len) 8704 = pp at *
      have HPP := hide hpp
      clear hpp
      go_wp2_with fail
      go_loopw [13, 14] (fun s u wi => ∃ i : Nat, i ≤ 256 ∧ u = .int .i64 i ∧ s = .int .i64 ((c + cntB pp i : Nat)) ∧ Below wr.heap.size wr wi) (fun _ u _ => 256 - (intOf u).toNat)
      case atStart => exact ⟨0, by omega, rfl, rfl, Below.refl _ _⟩
      case round =>
        obtain ⟨i, hi, rfl, rfl, hwb⟩ := hrel
        have hci := cntB_le pp i
        by_cases hlt2 : i < 256
        · obtain ⟨m0, m1⟩ := mk_cell (heap_below HM.out hwb) hlt2
          have i3 : (0 : Int) ≤ (i : Int) := by omega
          have i4 : (i : Int) < 256 := by omega
          cases hp : pp i
          · rw [hp] at m0
            have HN := hide (show cntB pp (i + 1) = cntB pp i from by show cntB pp i + (if pp i then 1 else 0) = _; rw [hp]; rfl)
            go_wp2
            go_roundw
            case rel => exact ⟨i + 1, by omega, by go_num, by rw [HN.out], hwb⟩
            case measure => simp [intOf]; omega
          · rw [hp] at m0
            have HN := hide (show cntB pp (i + 1) = cntB pp i + 1 from by show cntB pp i + (if pp i then 1 else 0) = _; rw [hp]; rfl)
            go_wp2
            go_roundw
            case rel => exact ⟨i + 1, by omega, by go_num, by rw [HN.out]; go_num, hwb⟩
            case measure => simp [intOf]; omega
        · have e : i = 256 := by omega
          subst e
          go_wp2
          go_ret
          refine ⟨?_, HBB.out.trans (hwb.mono HBB.out.size)⟩
          rw [HKC.out, ← HCL.out]
          rfl
end Go.Proofs.Ytooiomfcemceiaa.A
