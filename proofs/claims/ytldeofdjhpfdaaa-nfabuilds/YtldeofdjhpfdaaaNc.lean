/- Ahead of layer 6: a machine's memory; the document's Step. -/
import Derived.Test.YtldeofdjhpfdaaaG
namespace Go.Proofs.Ytldeofdjhpfdaaa.A
open Go.RowKit

theorem box4 (w : World) (u0 u1 u2 u3 : Value) (t : TypeId) : (w.alloc (.cells #[u0, u1, u2, u3] t)).cell? ⟨w.heap.size, 0, none⟩ = some u0 ∧ (w.alloc (.cells #[u0, u1, u2, u3] t)).cell? ⟨w.heap.size, 1, none⟩ = some u1 ∧ (w.alloc (.cells #[u0, u1, u2, u3] t)).cell? ⟨w.heap.size, 2, none⟩ = some u2 ∧ (w.alloc (.cells #[u0, u1, u2, u3] t)).cell? ⟨w.heap.size, 3, none⟩ = some u3 := by
  refine ⟨?_, ?_, ?_, ?_⟩ <;> simp
/-- Sets at a slice. -/
def Sts (w : World) (a : Option Addr) (ss : List Nat) : Prop := ∀ (i s : Nat), ss[i]? = some s → ∃ b off, a = some ⟨b, off, none⟩ ∧ w.cell? ⟨b, off + i, none⟩ = some (.int .u16 (s : Int)) ∧ s < 65536
theorem sts_below {w w' : World} {a : Option Addr} {ss : List Nat} (hb : Below w.heap.size w w') (h : Sts w a ss) : Sts w' a ss := fun i s hs => by
  obtain ⟨b, off, e, k, l⟩ := h i s hs
  exact ⟨b, off, e, (hb.cell (p := ⟨b, off + i, none⟩) (cell_lt k)).trans k, l⟩
/-- Which states are stepped to from the first k. -/
def stpB (ss : List Nat) (ts : List Int) (c : Int) (o : Nat → Bool) (k j : Nat) : Bool := (List.range k).any fun i => o i && (match ss[i]?, ts[i]? with | some s, some t => inS s c && t == (j : Int) | _, _ => false)
theorem stpB_step {ss : List Nat} {ts : List Int} {c : Int} {o : Nat → Bool} {k : Nat} {s : Nat} {t : Int} (hs : ss[k]? = some s) (ht : ts[k]? = some t) (j : Nat) : stpB ss ts c o (k + 1) j = (stpB ss ts c o k j || (o k && (inS s c && t == (j : Int)))) := by
  unfold stpB; rw [List.range_succ, List.any_append]; simp [hs, ht]
theorem stpB_no {ss : List Nat} {ts : List Int} {c : Int} {o : Nat → Bool} {k : Nat} {s : Nat} {t : Int} (hs : ss[k]? = some s) (ht : ts[k]? = some t) (h : (o k && inS s c) = false) (j : Nat) : stpB ss ts c o k j = stpB ss ts c o (k + 1) j := by
  rw [stpB_step hs ht, ← Bool.and_assoc, h, Bool.false_and, Bool.or_false]
theorem stpB_yes {ss : List Nat} {ts : List Int} {c : Int} {o : Nat → Bool} {k : Nat} {s i : Nat} (hs : ss[k]? = some s) (ht : ts[k]? = some (i : Int)) (h : (o k && inS s c) = true) (j : Nat) : (if j = i then true else stpB ss ts c o k j) = stpB ss ts c o (k + 1) j := by
  rw [stpB_step hs ht, ← Bool.and_assoc, h, Bool.true_and]
  by_cases e : j = i
  · subst e; simp
  · have : ((i : Int) == (j : Int)) = false := by simp; omega
    rw [if_neg e, this, Bool.or_false]
theorem inS_out {s : Nat} {c : Int} (h : ¬ (0 ≤ c ∧ c < 16)) : inS s c = false := by
  unfold inS
  by_cases c0 : 0 ≤ c
  · have : decide (c < 16) = false := by simp; omega
    simp [this]
  · simp [c0]

set_option maxRecDepth 100000 in
set_option maxHeartbeats 3200000 in
theorem step_any (x0 x3 : Value) (a1 a2 : Option Addr) (N c1 c2 F : Nat) (ss : List Nat) (ts : List Int) (c : Int) (o : Nat → Bool) (w : World) (hN : N ≤ 10000) (hs : ss.length = N) (ht : ts.length = N)
    (hS : Sts w a1 ss) (hT : Wd w a2 ts) (hok : ∀ (i s : Nat) (t : Int), ss[i]? = some s → ts[i]? = some t → 0 < s → 0 ≤ t ∧ t < N) (hF : Mk w F N o) :
    Calls Try.prog 21 #[.agg #[x0, .slice a1 N c1, .slice a2 N c2, x3], .slice (some ⟨F, 0, none⟩) N N, .int .i64 c] w fun e w' => Gives w N (stpB ss ts c o N) e w' := by
  have hmk : ∀ w, (Instr.makeSlice 42 (.int .i64 (N : Int)) (.int .i64 (N : Int))).run Try.prog w = .ok (.slice (some ⟨w.heap.size, 0, none⟩) N N) (w.alloc (.cells (rowB N fun _ => false) 4)) := make39 N hN
  have HF := hide hF
  have HFL := hide (mk_lt hF)
  have HS := hide hS
  have HT := hide hT
  have HSL := hide hs
  have HTL := hide ht
  have HOK := hide hok
  clear hF hS hT hs ht hok
  obtain ⟨p0, p1, p2, p3⟩ := box4 w x0 (.slice a1 N c1) (.slice a2 N c2) x3 29
  have HB0 := hide ((Below.refl w.heap.size w).alloc (Nat.le_refl _) (.cells #[x0, .slice a1 N c1, .slice a2 N c2, x3] 29))
  go_enter Try.func21, Try.ntmps21
  go_wp2_with fail
  have hm0 : Mk ((w.alloc (.cells #[x0, .slice a1 N c1, .slice a2 N c2, x3] 29)).alloc (.cells (rowB N fun _ => false) 4)) (w.heap.size + 1) N (stpB ss ts c o 0) := mk_congr (g := fun _ => false) (mk_new _ _ _) (fun j _ => by simp [stpB])
  have hb0 := HB0.out.alloc (by simp) (.cells (rowB N fun _ => false) 4)
  have hp1 : ((w.alloc (.cells #[x0, .slice a1 N c1, .slice a2 N c2, x3] 29)).alloc (.cells (rowB N fun _ => false) 4)).cell? ⟨w.heap.size, 1, none⟩ = some (.slice a1 N c1) := by
    rw [← p1]; exact ((Below.refl (w.heap.size + 1) (w.alloc (.cells #[x0, .slice a1 N c1, .slice a2 N c2, x3] 29))).alloc (by simp) (.cells (rowB N fun _ => false) 4)).cell (p := ⟨w.heap.size, 1, none⟩) (by simp)
  have hp2 : ((w.alloc (.cells #[x0, .slice a1 N c1, .slice a2 N c2, x3] 29)).alloc (.cells (rowB N fun _ => false) 4)).cell? ⟨w.heap.size, 2, none⟩ = some (.slice a2 N c2) := by
    rw [← p2]; exact ((Below.refl (w.heap.size + 1) (w.alloc (.cells #[x0, .slice a1 N c1, .slice a2 N c2, x3] 29))).alloc (by simp) (.cells (rowB N fun _ => false) 4)).cell (p := ⟨w.heap.size, 2, none⟩) (by simp)
  clear hmk p0 p1 p2 p3 HB0
  generalize (w.alloc (.cells #[x0, .slice a1 N c1, .slice a2 N c2, x3] 29)).alloc (.cells (rowB N fun _ => false) 4) = W0 at *
  generalize hB : w.heap.size = B at *
  go_loopw [8] (fun i wr => ∃ k : Nat, k ≤ N ∧ i = .int .i64 k ∧ Mk wr (B + 1) N (stpB ss ts c o k) ∧ Below B w wr ∧ Below (B + 1) W0 wr) (fun i _ => N - (intOf i).toNat)
  case atStart => exact ⟨0, Nat.zero_le _, rfl, hm0, hb0, Below.refl _ _⟩
  case round =>
    obtain ⟨k, hk, rfl, hm, hb, hb2⟩ := hrel
    clear hm0 hb0
    have r1 := (hb2.cell (p := ⟨B, 1, none⟩) (Nat.lt_succ_self _)).trans hp1
    have r2 := (hb2.cell (p := ⟨B, 2, none⟩) (Nat.lt_succ_self _)).trans hp2
    clear hp1 hp2
    by_cases hlt : k < N
    · obtain ⟨f0, _⟩ := mk_cell (mk_below HFL.out hb HF.out) hlt
      obtain ⟨s, hcs⟩ : ∃ s, ss[k]? = some s := ⟨_, List.getElem?_eq_getElem (by rw [HSL.out]; exact hlt)⟩
      obtain ⟨t, hct⟩ : ∃ t, ts[k]? = some t := ⟨_, List.getElem?_eq_getElem (by rw [HTL.out]; exact hlt)⟩
      obtain ⟨b, off, rfl, k0, hs16⟩ := sts_below (hB ▸ hb) HS.out k s hcs
      obtain ⟨b', off', rfl, k1⟩ := wd_below (hB ▸ hb) HT.out k t hct
      have HCS := hide hcs
      have HCT := hide hct
      have i1 : (0 : Int) ≤ (k : Int) := by omega
      have i2 : (k : Int) < (N : Int) := by omega
      clear hcs hct
      cases ho : o k
      · rw [ho] at f0
        have HM := hide (mk_congr hm (fun j _ => stpB_no HCS.out HCT.out (show (o k && inS s c) = false by rw [ho]; rfl) j))
        clear ho hm
        go_wp2
        go_roundw
        case rel => exact ⟨k + 1, by omega, by go_num, HM.out, hb, hb2⟩
        case measure => simp [intOf]; omega
      · rw [ho] at f0
        have HO := hide ho
        clear ho
        by_cases c0 : 0 ≤ c
        · by_cases c1' : c < 16
          · cases hbit : (bits BinOp.and IntKind.u16 ((s : Int) / 2 ^ c.toNat) 1 == 1)
            · have HM := hide (mk_congr hm (fun j _ => stpB_no HCS.out HCT.out (show (o k && inS s c) = false by rw [← bit_at s c c0 c1', ← bits_one s c hs16, hbit, Bool.and_false]) j))
              clear hm
              go_wp2
              go_roundw
              case rel => exact ⟨k + 1, by omega, by go_num, HM.out, hb, hb2⟩
              case measure => simp [intOf]; omega
            · have hin : inS s c = true := by rw [← bit_at s c c0 c1', ← bits_one s c hs16, hbit]
              have hpos : 0 < s := by
                rcases Nat.eq_zero_or_pos s with e | e
                · subst e; simp [inS] at hin
                · exact e
              obtain ⟨t0, t1⟩ := HOK.out k s t HCS.out HCT.out hpos
              obtain ⟨i, rfl⟩ : ∃ i : Nat, t = i := ⟨t.toNat, by omega⟩
              have hi : i < N := by omega
              obtain ⟨m0, m1⟩ := mk_cell hm hi
              have HM := hide (mk_congr (mk_set hm hi true) (fun j _ => stpB_yes HCS.out HCT.out (show (o k && inS s c) = true by rw [HO.out, hin]; rfl) j))
              clear hm hin hpos
              go_wp2
              go_roundw
              case rel => exact ⟨k + 1, by omega, by go_num, HM.out, hb.setCell (by simp) _, hb2.setCell (by simp) _⟩
              case measure => simp [intOf]; omega
          · have HM := hide (mk_congr hm (fun j _ => stpB_no HCS.out HCT.out (show (o k && inS s c) = false by rw [inS_out (fun q => c1' q.2), Bool.and_false]) j))
            have z0 : decide (0 ≤ c) = true := by simp; omega
            have z1 : decide (c < 16) = false := by simp; omega
            clear hm
            go_wp2
            go_roundw
            case rel => exact ⟨k + 1, by omega, by go_num, HM.out, hb, hb2⟩
            case measure => simp [intOf]; omega
        · have HM := hide (mk_congr hm (fun j _ => stpB_no HCS.out HCT.out (show (o k && inS s c) = false by rw [inS_out (fun q => c0 q.1), Bool.and_false]) j))
          have z0 : decide (0 ≤ c) = false := by simp; omega
          clear hm
          go_wp2
          go_roundw
          case rel => exact ⟨k + 1, by omega, by go_num, HM.out, hb, hb2⟩
          case measure => simp [intOf]; omega
    · have e : k = N := by omega
      subst e
      go_wp2
      go_ret
      exact ⟨B + 1, by omega, rfl, hm, by rw [hB]; exact hb⟩

end Go.Proofs.Ytldeofdjhpfdaaa.A
