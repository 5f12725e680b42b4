/- The document's Alike. -/
import Derived.Test.YthkollnlmnbidaaBf
namespace Go.Proofs.Ythkollnlmnbidaa.A
open Go.RowKit
set_option linter.unusedVariables false

theorem info30 : (Try.prog.info? 30).map (fun i => (i.zero, i.size, i.bytes)) = some (some (.slice none 0 0), 1, 24) := by kernel_rfl
theorem made_one' (z : Value) (n : Nat) : madeCells #[z] n = (List.replicate n z).toArray := by
  apply Array.ext_getElem?
  intro i
  by_cases hi : i < n
  · simp [madeCells, hi, Nat.mod_one]
  · rw [Array.getElem?_eq_none (by simp [madeCells]; omega), Array.getElem?_eq_none (by simp; omega)]
theorem rowT_zero (N T : Nat) : rowT N T 0 = (List.replicate N (Value.slice none 0 0)).toArray := by
  apply Array.ext_getElem?
  intro i
  by_cases hi : i < N
  · rw [rowT_at _ _ _ _ hi]; simp [hi]
  · rw [Array.getElem?_eq_none (by simp [rowT]; omega), Array.getElem?_eq_none (by simp; omega)]
theorem makeT (N : Nat) (hN : N ≤ 10000) (T : Nat) (w : World) : (Instr.makeSlice 28 (.int .i64 (N : Int)) (.int .i64 (N : Int))).run Try.prog w = .ok (.slice (some ⟨w.heap.size, 0, none⟩) N N) (w.alloc (.cells (rowT N T 0) 30)) := by
  have := run_make_row' (P := Try.prog) 28 30 (.slice none 0 0) 24 Try.underlying28 info30 rfl .i64 .i64 N (by omega) (by omega) w
  rw [made_one', ← rowT_zero N T] at this
  exact this
/-- The table while its row k is filled. -/
def Af (nx : List (List Int)) (ru : List Int) (n k q a b : Nat) : Bool := if a = k then decide (b < q) && A1 nx ru n k b else A1 nx ru n a b
theorem tm_fill {nx : List (List Int)} {ru : List Int} {n : Nat} {w : World} {T N k q : Nat} (h : Tm w T N (k + 1) (Af nx ru n k q)) (hq : q < N) {v : Bool} (hv : A1 nx ru n k q = v) : Tm (w.setCell ⟨T + 1 + k, q, none⟩ (.bool v)) T N (k + 1) (Af nx ru n k (q + 1)) :=
  tm_congr (tm_set h (Nat.lt_succ_self k) hq v) fun i j _ _ => by
    unfold setA Af
    by_cases e : i = k
    · subst e
      by_cases e2 : j = q
      · subst e2; simp [hv]
      · rw [if_neg (fun q => e2 q.2), if_pos rfl, if_pos rfl]
        have : decide (j < q + 1) = decide (j < q) := by by_cases c : j < q <;> simp [c] <;> omega
        rw [this]
    · rw [if_neg (fun q => e q.1), if_neg e, if_neg e]
theorem tm_grow {w w' : World} {T N : Nat} {A : Nat → Nat → Bool} {o : Obj} {r : Option Nat} (h : Tm w T N N A) (hg : (w.alloc o).grownBy w' r) (hr : ∀ k, r = some k → T + 1 + N ≤ k) : Tm w' T N N A := by
  have old : ∀ k, k < w.heap.size → k < T + 1 + N → w'.heap[k]? = w.heap[k]? := fun k hk hlt => by
    rw [hg.block k (by simp; omega) (fun e => by have := hr k e.symm; omega), Below.heap_alloc _ _ _ hk]
  exact ⟨(old T (Array.getElem?_eq_some_iff.1 h.t).1 (by omega)).trans h.t, fun i hi => (old _ (mk_lt (h.m i hi)) (by omega)).trans (h.m i hi)⟩
theorem mk_grow {w w' : World} {base F n k : Nat} {g : Nat → Bool} {o : Obj} {v : Value} {vs : List Value} (h : Mk w F n g) (ho : w.ownsRow base 30 1 v k vs) (hg : (w.alloc o).grownBy w' v.ownBlock) : Mk w' F n g := by
  have e := hg.block F (by have := mk_lt h; simp; omega) (fun e => own_not ho h (by decide) e.symm)
  rw [Below.heap_alloc _ _ _ (mk_lt h)] at e
  exact e.trans h
/-- Rows of marks at a row of one's own. -/
def Rows1 (w : World) (base n k : Nat) (v : Value) (vs : List Value) (A : Nat → Nat → Bool) : Prop := w.ownsRow base 30 1 v k vs ∧ ∀ (q : Nat) (u : Value), vs[q]? = some u → ∃ F, u = .slice (some ⟨F, 0, none⟩) n n ∧ Mk w F n (A q)
theorem rows1_below {w w' : World} {base n k : Nat} {v : Value} {vs : List Value} {A : Nat → Nat → Bool} (hb : Below w.heap.size w w') (h : Rows1 w base n k v vs A) : Rows1 w' base n k v vs A :=
  ⟨own_move h.1 (fun q hq => hb.block q (own_type h.1 hq).2.1), fun q u hu => by
    obtain ⟨F, e, m⟩ := h.2 q u hu
    exact ⟨F, e, (hb.block F (mk_lt m)).trans m⟩⟩
theorem rows1_app {w w' : World} {base n k F g' cap : Nat} {v : Value} {vs : List Value} {A : Nat → Nat → Bool} {o : Obj} (h : Rows1 w base n k v vs A) (hm : Mk w F n (A k)) (hg : (w.alloc o).grownBy w' v.ownBlock) (ho : w'.ownsRow base 30 1 (.slice (some ⟨g', 0, none⟩) (k + 1) cap) (k + 1) (vs ++ [.slice (some ⟨F, 0, none⟩) n n])) : Rows1 w' base n (k + 1) (.slice (some ⟨g', 0, none⟩) (k + 1) cap) (vs ++ [.slice (some ⟨F, 0, none⟩) n n]) A := by
  have hl : vs.length = k := by have := h.1.1; omega
  refine ⟨ho, fun q u hu => ?_⟩
  by_cases c : q < k
  · rw [List.getElem?_append_left (by omega)] at hu
    obtain ⟨F', e, m⟩ := h.2 q u hu
    exact ⟨F', e, mk_grow m h.1 hg⟩
  · rw [List.getElem?_append_right (by omega)] at hu
    have e1 : q - vs.length = 0 := by have := (List.getElem?_eq_some_iff.1 hu).1; simp at this; omega
    rw [e1] at hu
    have hu' : .slice (some ⟨F, 0, none⟩) n n = u := by simpa using hu
    have eq : q = k := by omega
    subst eq
    exact ⟨F, hu'.symm, mk_grow hm h.1 hg⟩
theorem rule_out {nx : List (List Int)} {ru : List Int} : outc nx ru (-1) [] = -1 := out_dead [] (-1) (by omega)

set_option maxRecDepth 100000 in
set_option maxHeartbeats 6400000 in
theorem alike_any (a0 a1 : Option Addr) (n c0 c1 : Nat) (nx : List (List Int)) (ru : List Int) (w : World) (hx : Mx nx ru n) (hm : Dm w a0 a1 n n nx ru) :
    Calls Try.prog 13 #[.agg #[.slice a0 n c0, .slice a1 n c1]] w fun e w' => ∃ A v vs, IsAlk nx ru n A ∧ e = .returned v ∧ Rows1 w' w.heap.size n n v vs A ∧ Below w.heap.size w w' := by
  obtain ⟨i30, hi30, hz30, hs30, hb30⟩ := info_parts info30
  have hn2 := hx.most
  have hn1 := hx.pos
  obtain ⟨N, hN⟩ : ∃ N, N = n + 1 := ⟨_, rfl⟩
  have HNN := hide hN
  have eN : (n : Int) + 1 = (N : Int) := by omega
  have hmkT : ∀ w, (Instr.makeSlice 28 (.int .i64 (N : Int)) (.int .i64 (N : Int))).run Try.prog w = .ok (.slice (some ⟨w.heap.size, 0, none⟩) N N) (w.alloc (.cells (rowT N w.heap.size 0) 30)) := fun w => makeT N (by omega) w.heap.size w
  have hmkB : ∀ w, (Instr.makeSlice 30 (.int .i64 (N : Int)) (.int .i64 (N : Int))).run Try.prog w = .ok (.slice (some ⟨w.heap.size, 0, none⟩) N N) (w.alloc (.cells (rowB N fun _ => false) 4)) := make39 N (by omega)
  have hmkn : ∀ w, (Instr.makeSlice 30 (.int .i64 (n : Int)) (.int .i64 (n : Int))).run Try.prog w = .ok (.slice (some ⟨w.heap.size, 0, none⟩) n n) (w.alloc (.cells (rowB n fun _ => false) 4)) := make39 n (by omega)
  have HMT := hide hmkT
  have HMB := hide hmkB
  have HMN := hide hmkn
  have HBX := hide (heap_alloc_last w (.cells #[.slice a0 n c0, .slice a1 n c1] 25))
  have hb0 := (Below.refl w.heap.size w).alloc (Nat.le_refl _) (.cells #[.slice a0 n c0, .slice a1 n c1] 25)
  have HB0 := hide hb0
  have HM := hide (dm_below' hb0 hm)
  have HX := hide hx
  have HS := hide (show (w.alloc (.cells #[.slice a0 n c0, .slice a1 n c1] 25)).heap.size = w.heap.size + 1 by simp)
  obtain ⟨p0, p1, -⟩ := d_cells HBX.out
  clear hb0 hm hx hmkT hmkB hmkn hN
  go_enter Try.func13, Try.ntmps13
  go_wp2_with fail
  generalize w.alloc (.cells #[.slice a0 n c0, .slice a1 n c1] 25) = W1 at *
  refine (dead_any a0 a1 n c0 c1 nx ru W1 HX.out HM.out).mono ?_
  rintro e w3 ⟨g, v, hlive, rfl, hown, hb3⟩
  obtain ⟨ad, cd, rfl, hbr⟩ := own_br hown
  have HLV := hide hlive
  have HB3 := hide hb3
  have HBR := hide hbr
  have hmkT := HMT.out
  have HW3 := hide (show ∀ wr, Below w3.heap.size w3 wr → (wr.cell? ⟨w.heap.size, 0, none⟩ = some (.slice a0 n c0) ∧ wr.cell? ⟨w.heap.size, 1, none⟩ = some (.slice a1 n c1)) ∧ Dm wr a0 a1 n n nx ru ∧ Br wr ad n (fun j => !g j) from fun wr hb => by
    have h0 : Below W1.heap.size W1 wr := hb3.trans (hb.mono hb3.size)
    have h1 := (h0.block w.heap.size (by have := HS.out; omega)).trans HBX.out
    obtain ⟨q0, q1, -⟩ := d_cells h1
    exact ⟨⟨q0, q1⟩, dm_below' h0 HM.out, br_below hb hbr⟩)
  have HT3 := hide (heap_alloc_last w3 (.cells (rowT N w3.heap.size 0) 30))
  have HBT := hide ((Below.refl w3.heap.size w3).alloc (Nat.le_refl _) (.cells (rowT N w3.heap.size 0) 30))
  have HST := hide (show (w3.alloc (.cells (rowT N w3.heap.size 0) 30)).heap.size = w3.heap.size + 1 by simp)
  clear hlive hb3 hbr hown p0 p1
  go_wp2_with fail
  clear hmkT
  generalize w3.alloc (.cells (rowT N w3.heap.size 0) 30) = W4 at *
  generalize hT : w3.heap.size = T at *
  go_loopw [6] (fun i wr => ∃ k : Nat, k ≤ N ∧ i = .int .i64 k ∧ Tm wr T N k (A1 nx ru n) ∧ wr.heap.size = T + 1 + k ∧ Below T w3 wr) (fun i _ => N - (intOf i).toNat)
  case atStart => exact ⟨0, Nat.zero_le _, rfl, ⟨HT3.out, fun i hi => by omega⟩, by rw [HST.out], HBT.out⟩
  case round =>
    obtain ⟨k, hk, rfl, htm, hsz, hb⟩ := hrel
    have HTM := hide htm
    have HSZ := hide hsz
    have HB := hide hb
    clear htm hsz hb
    by_cases hkN : k < N
    · have dk : decide ((k : Int) ≤ (n : Int)) = true := by have := HNN.out; simp; omega
      have hmkB := HMB.out
      have i1 : (0 : Int) ≤ (k : Int) := by omega
      have i2 : (k : Int) < (N : Int) := by omega
      have hTlt : T < wr.heap.size := by have := HSZ.out; omega
      have hTA : (wr.alloc (.cells (rowB N fun _ => false) 4)).heap[T]? = some (.cells (rowT N T k) 30 (0, 0)) := (Below.heap_alloc _ _ _ hTlt).trans HTM.out.t
      have q0 : (wr.alloc (.cells (rowB N fun _ => false) 4)).cell? ⟨T, k, none⟩ = some (.slice none 0 0) := by
        rw [cell_of_row _ _ _ _ _ _ hTA, rowT_at _ _ _ _ hkN, if_neg (by omega)]
      have q1 : (wr.alloc (.cells (rowB N fun _ => false) 4)).frozen? ⟨T, k, none⟩ = false := by simp [World.frozen?, hTA]
      have HTA := hide (show Tm ((wr.alloc (.cells (rowB N fun _ => false) 4)).setCell ⟨T, k, none⟩ (.slice (some ⟨wr.heap.size, 0, none⟩) N N)) T N (k + 1) (Af nx ru n k 0) from by
        refine ⟨?_, fun i hi => ?_⟩
        · rw [blk_set hTA k _, HSZ.out, rowT_set _ _ _ hkN]
        · by_cases e : i = k
          · subst e
            refine mk_congr (g := fun _ => false) ?_ (fun b _ => by unfold Af; simp)
            have := mk_new1 wr N
            rw [HSZ.out] at this
            exact mk_other this (by omega) _ _
          · have h1 := HTM.out.m i (by omega)
            exact mk_congr (mk_other (mk_old h1 _) (by omega) _ _) (fun b _ => by unfold Af; rw [if_neg e]))
      have HBA := hide ((HB.out.alloc (show T ≤ wr.heap.size by omega) (.cells (rowB N fun _ => false) 4)).setCell (p := ⟨T, k, none⟩) (Nat.le_refl T) (.slice (some ⟨wr.heap.size, 0, none⟩) N N))
      have HSA := hide (show ((wr.alloc (.cells (rowB N fun _ => false) 4)).setCell ⟨T, k, none⟩ (.slice (some ⟨wr.heap.size, 0, none⟩) N N)).heap.size = T + 1 + (k + 1) by simp; have := HSZ.out; omega)
      clear hTA hTlt
      go_wp2_with fail
      clear q0 q1 hmkB
      generalize ((wr.alloc (.cells (rowB N fun _ => false) 4)).setCell ⟨T, k, none⟩ (.slice (some ⟨wr.heap.size, 0, none⟩) N N)) = WA at *
      go_loopw [7] (fun j wr => ∃ q : Nat, q ≤ N ∧ j = .int .i64 q ∧ Tm wr T N (k + 1) (Af nx ru n k q) ∧ wr.heap.size = T + 1 + (k + 1) ∧ Below T w3 wr) (fun j _ => N - (intOf j).toNat)
      case atStart => exact ⟨0, Nat.zero_le _, rfl, HTA.out, HSA.out, HBA.out⟩
      case round =>
        obtain ⟨q, hq, rfl, htm, hsz, hb⟩ := hrel
        have HTM2 := hide htm
        have HSZ2 := hide hsz
        have HB2 := hide hb
        clear htm hsz hb HTA HSA HBA
        by_cases hqN : q < N
        · have dq : decide ((q : Int) ≤ (n : Int)) = true := by have := HNN.out; simp; omega
          obtain ⟨⟨p0, p1⟩, hdm, -⟩ := HW3.out wr HB2.out
          have t0 := tm_row HTM2.out (Nat.lt_succ_self k) hkN
          obtain ⟨m0, m1⟩ := mk_cell (HTM2.out.m k (Nat.lt_succ_self k)) hqN
          have i3 : (0 : Int) ≤ (q : Int) := by omega
          have i4 : (q : Int) < (N : Int) := by omega
          by_cases hkn : k < n
          · by_cases hqn : q < n
            · obtain ⟨r, hr, -, -, hro⟩ := mx_rule HX.out hkn
              obtain ⟨b2, o2, rfl, k2⟩ := hdm.wd k r hr
              have dkn : decide ((k : Int) < (n : Int)) = true := by simp; omega
              have i5 : (k : Int) < (n : Int) := by omega
              rw [← sI_lt hkn] at hro
              obtain ⟨r', hr', -, -, hro'⟩ := mx_rule HX.out hqn
              obtain ⟨b3, o3, e3, k3⟩ := hdm.wd q r' hr'
              cases e3
              have dqn : decide ((q : Int) < (n : Int)) = true := by simp; omega
              have i6 : (q : Int) < (n : Int) := by omega
              rw [← sI_lt hqn] at hro'
              have HF := hide (tm_fill (v := (r != r')) HTM2.out hqN (by unfold A1; rw [hro, hro']))
              clear hdm hro hro' hr hr'
              go_wp2
              go_roundw
              case rel => exact ⟨q + 1, by omega, by go_num, HF.out, by simp; exact HSZ2.out, HB2.out.setCell (p := ⟨T + 1 + k, q, none⟩) (by show T ≤ T + 1 + k; omega) _⟩
              case measure => simp [intOf]; omega
            · obtain ⟨r, hr, -, -, hro⟩ := mx_rule HX.out hkn
              obtain ⟨b2, o2, rfl, k2⟩ := hdm.wd k r hr
              have dkn : decide ((k : Int) < (n : Int)) = true := by simp; omega
              have i5 : (k : Int) < (n : Int) := by omega
              rw [← sI_lt hkn] at hro
              have dqn : decide ((q : Int) < (n : Int)) = false := by simp; omega
              have hro' : outc nx ru (sI n q) [] = -1 := by unfold sI; rw [if_neg hqn]; exact rule_out
              have HF := hide (tm_fill (v := (r != (-1 : Int))) HTM2.out hqN (by unfold A1; rw [hro, hro']))
              clear hdm hro hro' hr
              go_wp2
              go_roundw
              case rel => exact ⟨q + 1, by omega, by go_num, HF.out, by simp; exact HSZ2.out, HB2.out.setCell (p := ⟨T + 1 + k, q, none⟩) (by show T ≤ T + 1 + k; omega) _⟩
              case measure => simp [intOf]; omega
          · by_cases hqn : q < n
            · have dkn : decide ((k : Int) < (n : Int)) = false := by simp; omega
              have hro : outc nx ru (sI n k) [] = -1 := by unfold sI; rw [if_neg hkn]; exact rule_out
              obtain ⟨r', hr', -, -, hro'⟩ := mx_rule HX.out hqn
              obtain ⟨b3, o3, rfl, k3⟩ := hdm.wd q r' hr'
              have dqn : decide ((q : Int) < (n : Int)) = true := by simp; omega
              have i6 : (q : Int) < (n : Int) := by omega
              rw [← sI_lt hqn] at hro'
              have HF := hide (tm_fill (v := ((-1 : Int) != r')) HTM2.out hqN (by unfold A1; rw [hro, hro']))
              clear hdm hro hro' hr'
              go_wp2
              go_roundw
              case rel => exact ⟨q + 1, by omega, by go_num, HF.out, by simp; exact HSZ2.out, HB2.out.setCell (p := ⟨T + 1 + k, q, none⟩) (by show T ≤ T + 1 + k; omega) _⟩
              case measure => simp [intOf]; omega
            · have dkn : decide ((k : Int) < (n : Int)) = false := by simp; omega
              have hro : outc nx ru (sI n k) [] = -1 := by unfold sI; rw [if_neg hkn]; exact rule_out
              have dqn : decide ((q : Int) < (n : Int)) = false := by simp; omega
              have hro' : outc nx ru (sI n q) [] = -1 := by unfold sI; rw [if_neg hqn]; exact rule_out
              have HF := hide (tm_fill (v := ((-1 : Int) != (-1 : Int))) HTM2.out hqN (by unfold A1; rw [hro, hro']))
              clear hdm hro hro'
              go_wp2
              go_roundw
              case rel => exact ⟨q + 1, by omega, by go_num, HF.out, by simp; exact HSZ2.out, HB2.out.setCell (p := ⟨T + 1 + k, q, none⟩) (by show T ≤ T + 1 + k; omega) _⟩
              case measure => simp [intOf]; omega
        · have eq : q = N := by omega
          have dq : decide ((q : Int) ≤ (n : Int)) = false := by have := HNN.out; simp; omega
          have HTF := hide (show Tm wr T N (k + 1) (A1 nx ru n) from tm_congr HTM2.out fun i j hi hj => by
            unfold Af
            by_cases e : i = k
            · subst e; rw [if_pos rfl, show decide (j < q) = true by simp; omega, Bool.true_and]
            · rw [if_neg e])
          clear eq
          go_wp2
          go_roundw
          case rel => exact ⟨k + 1, by omega, by go_num, HTF.out, HSZ2.out, HB2.out⟩
          case measure => simp [intOf]; omega
    · have ek : k = N := by omega
      have dk : decide ((k : Int) ≤ (n : Int)) = false := by have := HNN.out; simp; omega
      have dk' : decide (k ≤ n) = false := by have := HNN.out; simp; omega
      have HTM2 := hide (show Tm wr T N N (A1 nx ru n) from ek ▸ HTM.out)
      have HSZ2 := hide (show T + 1 + N ≤ wr.heap.size by have := HSZ.out; omega)
      clear ek HTM HSZ
      go_wp2_with fail
      go_loopw [10] (fun m wr => ∃ (b : Bool) (A : Nat → Nat → Bool), m = .bool b ∧ Tm wr T N N A ∧ Ai nx ru n A ∧ (b = false → ∀ i, i ≤ n → ∀ k, k < i → ClsA nx g n A i k 16) ∧ Below T w3 wr ∧ T + 1 + N ≤ wr.heap.size) (fun m wr => 2 * und2 wr T N N + (match m with | .bool true => 1 | _ => 0))
      case atStart => exact ⟨true, _, rfl, HTM2.out, ai_start nx ru n, (fun q => by cases q), HB.out, HSZ2.out⟩
      case round =>
        obtain ⟨b, A, rfl, htm, hai, hcl, hb, hsz⟩ := hrel
        have HTM3 := hide htm
        have HAI := hide hai
        have HCL := hide hcl
        have HB3' := hide hb
        have HSZ3 := hide hsz
        have HU := hide (und2_of htm N (Nat.le_refl _))
        clear htm hai hcl hb hsz HTM2 HSZ2 HB
        cases b
        case false =>
          have HAL := hide (alk_of HX.out HLV.out HAI.out (HCL.out rfl))
          clear HAI HCL HU
          go_wp2_with fail
          go_loopw [14, 15] (fun v i wr => ∃ (k : Nat) (vs : List Value), k ≤ n ∧ i = .int .i64 k ∧ Tm wr T N N A ∧ Rows1 wr (T + 1 + N) n k v vs (fun i k => !A i k) ∧ Below T w3 wr ∧ T + 1 + N ≤ wr.heap.size) (fun _ i _ => n - (intOf i).toNat)
          case atStart => exact ⟨0, [], Nat.zero_le _, rfl, HTM3.out, ⟨World.ownsRow_nil _ _ _ _, fun q u hu => by simp at hu⟩, HB3'.out, HSZ3.out⟩
          case round =>
            obtain ⟨j, vs, hj, rfl, htm, hrw, hb, hsz⟩ := hrel
            obtain ⟨xv, cv, rfl⟩ := own_form hrw.1
            have HTM4 := hide htm
            have HRW := hide hrw
            have HB4 := hide hb
            have HSZ4 := hide hsz
            clear htm hrw hb hsz HTM3 HB3' HSZ3
            by_cases hjn : j < n
            · have dj : decide ((j : Int) < (n : Int)) = true := by simp; omega
              have dj' : decide (j < n) = true := by simp; omega
              have hmkn := HMN.out
              have hm0 := hide (mk_new1 wr n)
              have hbF := hide ((Below.refl wr.heap.size wr).alloc (Nat.le_refl _) (.cells (rowB n fun _ => false) 4))
              have i1 : (0 : Int) ≤ (j : Int) := by omega
              have i2 : (j : Int) < (N : Int) := by have := HNN.out; omega
              obtain ⟨wO, hwO⟩ : ∃ y, y = wr := ⟨_, rfl⟩
              have HRW0 := hide (show Rows1 wO (T + 1 + N) n j (.slice xv j cv) vs (fun i k => !A i k) from hwO ▸ HRW.out)
              have HTM0 := hide (show Tm wO T N N A from hwO ▸ HTM4.out)
              have HB00 := hide (show Below T w3 wO from hwO ▸ HB4.out)
              have HSZ0 := hide (show T + 1 + N ≤ wO.heap.size from hwO ▸ HSZ4.out)
              have hbF' := hide (show Below wO.heap.size wO (wr.alloc (.cells (rowB n fun _ => false) 4)) from hwO ▸ hbF.out)
              have hFe : wr.heap.size = wO.heap.size := by rw [hwO]
              have HFE := hide hFe
              clear HRW HTM4 HB4 HSZ4 hwO hbF hFe
              go_wp2_with fail
              clear hmkn
              have hm0' := hm0.out
              rw [HFE.out] at hm0'
              rw [HFE.out]
              generalize wr.alloc (.cells (rowB n fun _ => false) 4) = wF at *
              clear HFE hm0
              generalize hF : wO.heap.size = F at *
              go_loopw [17] (fun i wr => ∃ q : Nat, q ≤ n ∧ i = .int .i64 q ∧ Mk wr F n (fun b => decide (b < q) && !A j b) ∧ Below F wO wr) (fun i _ => n - (intOf i).toNat)
              case atStart => exact ⟨0, Nat.zero_le _, rfl, mk_congr hm0' (fun b _ => by simp), hbF'.out⟩
              case round =>
                obtain ⟨q, hq, rfl, hmk, hb⟩ := hrel
                have HMK := hide hmk
                have HBQ := hide hb
                clear hmk hb hm0' hbF'
                have HTMQ := hide (tm_below (by rw [hF]; exact HBQ.out) HTM0.out)
                by_cases hqn : q < n
                · have dq : decide ((q : Int) < (n : Int)) = true := by simp; omega
                  have hqN : q < N := by have := HNN.out; omega
                  have hjN : j < N := by have := HNN.out; omega
                  have t0 := tm_row HTMQ.out hjN hjN
                  obtain ⟨s0, s1⟩ := mk_cell (HTMQ.out.m j hjN) hqN
                  obtain ⟨m0, m1⟩ := mk_cell HMK.out hqn
                  have i3 : (0 : Int) ≤ (q : Int) := by omega
                  have i4 : (q : Int) < (n : Int) := by omega
                  have i5 : (q : Int) < (N : Int) := by omega
                  obtain ⟨y, hy⟩ : ∃ y, A j q = y := ⟨_, rfl⟩
                  have HS := hide (mk_congr (mk_set HMK.out hqn (!y)) (h := fun b => decide (b < q + 1) && !A j b) (fun b _ => by
                    by_cases e : b = q
                    · subst e; simp [hy]
                    · rw [if_neg e]
                      have : decide (b < q + 1) = decide (b < q) := by by_cases c : b < q <;> simp [c] <;> omega
                      rw [this]))
                  rw [hy] at s0
                  clear hy s1
                  go_wp2
                  go_roundw
                  case rel => exact ⟨q + 1, by omega, by go_num, HS.out, HBQ.out.setCell (p := ⟨F, q, none⟩) (Nat.le_refl F) _⟩
                  case measure => simp [intOf]; omega
                · have HMF := hide (show Mk wr F n (fun b => !A j b) from mk_congr HMK.out (fun b hb => by rw [show decide (b < q) = true by simp; omega, Bool.true_and]))
                  have dq : decide ((q : Int) < (n : Int)) = false := by simp; omega
                  have HRQ := hide (rows1_below (by rw [hF]; exact HBQ.out) HRW0.out)
                  have HSQ := hide (show T + 1 + N ≤ wr.heap.size by have h1 := HBQ.out.size; have h2 := HSZ0.out; omega)
                  have HBT := hide (show Below T w3 wr from HB00.out.trans (HBQ.out.mono (by have := HSZ0.out; omega)))
                  have HSZA := hide (show T + 1 + N ≤ (wr.alloc (.cells #[.slice (some ⟨F, 0, none⟩) n n] 30)).heap.size by have := HSQ.out; simp; omega)
                  clear HMK HBQ
                  go_wp2_with (first
                    | (at_builtin; refine wpList_append_lies _ rfl _ _ 28 rfl (T + 1 + N) 30 i30 (.slice none 0 0) 1 24 Try.underlying28 hi30 hz30 hs30 hb30 rfl (by decide) _ j vs rfl (HRQ.out.1.alloc _) ⟨_, 0, none⟩ 1 1 [.slice (some ⟨F, 0, none⟩) n n] rfl rfl (one_new _ _ _) (fun u hu => by simp only [List.mem_singleton] at hu; subst hu; rfl) (by decide) (by unfold maxLen; omega) (by omega) HSZA.out _ rfl ?_; intro g' cap' w5 hown5 hg5 hat5 hlt5))
                  have hr5 := rows1_app HRQ.out HMF.out hg5 hown5
                  have ht5 := tm_grow HTMQ.out hg5 (fun q hq => (own_type HRQ.out.1 hq).1)
                  have hb5 := (HBT.out.alloc (show T ≤ wr.heap.size by have := HSQ.out; omega) (.cells #[.slice (some ⟨F, 0, none⟩) n n] 30)).grown hg5 (by have := HSZA.out; omega) (fun kk hkk => by have := (own_type HRQ.out.1 hkk).1; omega)
                  have hs5 := hg5.size
                  go_roundw
                  case rel => exact ⟨j + 1, _, by omega, by go_num, ht5, hr5, hb5, by have := HSZA.out; omega⟩
                  case measure => simp [intOf]; omega
            · have ej : j = n := by omega
              subst ej
              go_wp2
              go_ret
              exact ⟨_, _, vs, HAL.out, rfl, ⟨own_low HRW.out.1 (by have h1 := HS.out; have h2 := HB3.out.size; omega), HRW.out.2⟩, (HB0.out.trans (HB3.out.mono (by have := HS.out; omega))).trans (HB4.out.mono (by have h1 := HS.out; have h2 := HB3.out.size; omega))⟩
        case true =>
        clear HCL
        go_wp2_with fail
        go_loopw [10, 11] (fun m i wr => ∃ (b : Bool) (B : Nat → Nat → Bool) (a : Nat), a ≤ N ∧ m = .bool b ∧ i = .int .i64 a ∧ Tm wr T N N B ∧ Pa nx ru n g A B b a 0 0 ∧ Below T w3 wr ∧ T + 1 + N ≤ wr.heap.size) (fun _ i _ => N - (intOf i).toNat)
        case atStart => exact ⟨false, A, 0, Nat.zero_le _, rfl, rfl, HTM3.out, pa_start HAI.out, HB3'.out, HSZ3.out⟩
        case round =>
          obtain ⟨b, B, a, ha, rfl, rfl, htm, hpa, hb, hsz⟩ := hrel
          have HTM4 := hide htm
          have HPA4 := hide hpa
          have HB4 := hide hb
          have HSZ4 := hide hsz
          clear htm hpa hb hsz HTM3 HB3' HSZ3
          by_cases haN : a < N
          · have da : decide ((a : Int) ≤ (n : Int)) = true := by have := HNN.out; simp; omega
            have da' : decide (a ≤ n) = true := by have := HNN.out; simp; omega
            have j1 : (0 : Int) ≤ (a : Int) := by omega
            have j2 : (a : Int) < (N : Int) := by omega
            go_wp2_with fail
            go_loopw [10, 12] (fun m k wr => ∃ (b : Bool) (B : Nat → Nat → Bool) (x : Nat), x ≤ a ∧ m = .bool b ∧ k = .int .i64 x ∧ Tm wr T N N B ∧ Pa nx ru n g A B b a x 0 ∧ Below T w3 wr ∧ T + 1 + N ≤ wr.heap.size) (fun _ k _ => a - (intOf k).toNat)
            case atStart => exact ⟨b, B, 0, Nat.zero_le _, rfl, rfl, HTM4.out, HPA4.out, HB4.out, HSZ4.out⟩
            case round =>
              obtain ⟨b5, B5, x, hxa, rfl, rfl, htm, hpa, hb, hsz⟩ := hrel
              have HTM5 := hide htm
              have HPA5 := hide hpa
              have HB5 := hide hb
              have HSZ5 := hide hsz
              clear htm hpa hb hsz HTM4 HPA4 HB4 HSZ4
              by_cases hxl : x < a
              · have dx : decide ((x : Int) < (a : Int)) = true := by simp; omega
                have dx' : decide (x < a) = true := by simp; omega
                have j3 : (0 : Int) ≤ (x : Int) := by omega
                have j4 : (x : Int) < (N : Int) := by omega
                go_wp2_with fail
                go_loopw [10, 13] (fun m c wr => ∃ (b : Bool) (B : Nat → Nat → Bool) (y : Nat), y ≤ 16 ∧ m = .bool b ∧ c = .int .i64 y ∧ Tm wr T N N B ∧ Pa nx ru n g A B b a x y ∧ Below T w3 wr ∧ T + 1 + N ≤ wr.heap.size) (fun _ c _ => 16 - (intOf c).toNat)
                case atStart => exact ⟨b5, B5, 0, Nat.zero_le _, rfl, rfl, HTM5.out, HPA5.out, HB5.out, HSZ5.out⟩
                case round =>
                  obtain ⟨b6, B6, y, hy, rfl, rfl, htm, hpa, hb, hsz⟩ := hrel
                  have HTM6 := hide htm
                  have HPA6 := hide hpa
                  have HB6 := hide hb
                  have HSZ6 := hide hsz
                  clear htm hpa hb hsz HTM5 HPA5 HB5 HSZ5
                  have t0 := tm_row HTM6.out haN haN
                  have t1 := tm_row HTM6.out (show x < N by omega) (show x < N by omega)
                  obtain ⟨m0, m1⟩ := mk_cell (HTM6.out.m a haN) (show x < N by omega)
                  by_cases hyl : y < 16
                  · have dy : decide ((y : Int) < 16) = true := by simp; omega
                    cases hBax : B6 a x
                    · rw [hBax] at m0
                      have HBAX := hide hBax
                      obtain ⟨ti, hti⟩ : ∃ ti, toF nx g n a y = ti := ⟨_, rfl⟩
                      obtain ⟨tk, htk⟩ : ∃ tk, toF nx g n x y = tk := ⟨_, rfl⟩
                      have HTIE := hide hti
                      have HTKE := hide htk
                      have htiN : ti < N := by have := toF_le (g := g) (c := y) HX.out (show a ≤ n by have := HNN.out; omega); have := HNN.out; omega
                      have htkN : tk < N := by have := toF_le (g := g) (c := y) HX.out (show x ≤ n by have := HNN.out; omega); have := HNN.out; omega
                      have HTI := hide (fun (w' : World) (hb : Below T w3 w') => to_any a0 a1 ad n c0 c1 cd nx ru g a y w' HX.out (HW3.out w' hb).2.1 (HW3.out w' hb).2.2 (by have := HNN.out; omega) hyl)
                      have HTK := hide (fun (w' : World) (hb : Below T w3 w') => to_any a0 a1 ad n c0 c1 cd nx ru g x y w' HX.out (HW3.out w' hb).2.1 (HW3.out w' hb).2.2 (by have := HNN.out; omega) hyl)
                      rw [hti] at HTI
                      rw [htk] at HTK
                      clear hBax hti htk
                      go_upto_region 29 with fail
                      go_cut [106] from 92 to 106 (fun s wx => s = .bool (B6 ti tk) ∧ Below wr.heap.size wr wx)
                      case first =>
                        have hTle : T ≤ wr.heap.size := by have := HSZ6.out; omega
                        have HSF := hide (fun (w' : World) (hb : Below wr.heap.size wr w') => And.intro (HW3.out w' (HB6.out.trans (hb.mono hTle))).1 (And.intro (tm_row (tm_below hb HTM6.out) htiN htiN) (mk_cell ((tm_below hb HTM6.out).m ti htiN) htkN).1))
                        have hk7 := HSF.out wr (Below.refl _ _)
                        obtain ⟨⟨s0, s1⟩, s2, s3⟩ := hk7
                        have HTLE := hide hTle
                        have g1 : (0 : Int) ≤ (ti : Int) := by omega
                        have g2 : (ti : Int) < (N : Int) := by omega
                        have g3 : (0 : Int) ≤ (tk : Int) := by omega
                        have g4 : (tk : Int) < (N : Int) := by omega
                        clear m0 m1 t0 t1 hTle
                        go_region_held3 (fun w' => (w'.cell? ⟨w.heap.size, 0, none⟩ = some (.slice a0 n c0) ∧ w'.cell? ⟨w.heap.size, 1, none⟩ = some (.slice a1 n c1)) ∧ w'.cell? ⟨T, ti, none⟩ = some (.slice (some ⟨T + 1 + ti, 0, none⟩) N N) ∧ w'.cell? ⟨T + 1 + ti, tk, none⟩ = some (.bool (B6 ti tk))) (first | assumption | go_keep) ((first
                          | (go_at_call 25; refine (HTK.out w5 (HB6.out.trans (HBE.out.mono HTLE.out))).mono ?_; rintro e w6 ⟨rfl, hb6⟩; have HBF := hide (HBE.out.trans (hb6.mono HBE.out.size)); have k9 := HSF.out w6 HBF.out)
                          | (go_at_call 25; refine (HTI.out wr.drew (HB6.out.trans ((below_drew1 wr).mono HTLE.out))).mono ?_; rintro e w5 ⟨rfl, hb5⟩; have HBE := hide ((below_drew1 wr).trans hb5); have k8 := HSF.out w5 HBE.out)))
                        all_goals
                          go_wp2_with fail
                          go_meet
                          exact ⟨rfl, HBF.out⟩
                      case rest =>
                      obtain ⟨wZ, rfl⟩ : ∃ z, z = wc := ⟨_, rfl⟩
                      obtain ⟨rfl, hbc⟩ := hcut
                      have HTM7 := hide (tm_below hbc HTM6.out)
                      have HB7 := hide (HB6.out.trans (hbc.mono (by have := HSZ6.out; omega)))
                      have HSZ7 := hide (show T + 1 + N ≤ wZ.heap.size by have := hbc.size; have := HSZ6.out; omega)
                      clear m0 m1 t0 t1 hbc HTM6 HB6 HSZ6 HTI HTK
                      cases hv : B6 ti tk
                      · have HPN := hide (pa_skip HPA6.out (by rw [HTIE.out, HTKE.out]; exact hv))
                        clear hv
                        go_wp2
                        go_roundw
                        case rel => exact ⟨b6, B6, y + 1, by omega, rfl, by go_num, HTM7.out, HPN.out, HB7.out, HSZ7.out⟩
                        case measure => simp [intOf]; omega
                      · have HPN := hide (pa_set HX.out HLV.out (by have := HNN.out; omega) hxl HPA6.out HBAX.out (by rw [HTIE.out, HTKE.out]; exact hv) (y + 1))
                        have hxN : x < N := by omega
                        have t0 := tm_row HTM7.out haN haN
                        obtain ⟨m0, m1⟩ := mk_cell (HTM7.out.m a haN) hxN
                        have HTM8 := hide (tm_set HTM7.out haN hxN true)
                        have HB8 := hide (HB7.out.setCell (p := ⟨T + 1 + a, x, none⟩) (show T ≤ T + 1 + a by omega) (.bool true))
                        have HSZ8 := hide (show T + 1 + N ≤ (wZ.setCell ⟨T + 1 + a, x, none⟩ (.bool true)).heap.size by simp; exact HSZ7.out)
                        clear hv
                        go_upto_region 31 with fail
                        generalize wZ.setCell ⟨T + 1 + a, x, none⟩ (.bool true) = wY at *
                        clear t0 m0 m1 HTM7 HB7 HSZ7
                        have t0 := tm_row HTM8.out hxN hxN
                        obtain ⟨m0, m1⟩ := mk_cell (HTM8.out.m x hxN) haN
                        have HTM9 := hide (tm_set HTM8.out hxN haN true)
                        have HB9 := hide (HB8.out.setCell (p := ⟨T + 1 + x, a, none⟩) (show T ≤ T + 1 + x by omega) (.bool true))
                        have HSZ9 := hide (show T + 1 + N ≤ (wY.setCell ⟨T + 1 + x, a, none⟩ (.bool true)).heap.size by simp; exact HSZ8.out)
                        go_wp2
                        go_roundw
                        case rel => exact ⟨true, _, y + 1, by omega, rfl, by go_num, HTM9.out, HPN.out, HB9.out, HSZ9.out⟩
                        case measure => simp [intOf]; omega
                    · rw [hBax] at m0
                      have HPN := hide (pa_k HPA6.out (.inl hBax))
                      clear hBax
                      go_wp2
                      go_roundw
                      case rel => exact ⟨b6, B6, x + 1, by omega, rfl, by go_num, HTM6.out, HPN.out, HB6.out, HSZ6.out⟩
                      case measure => simp [intOf]; omega
                  · have HPN := hide (pa_k HPA6.out (.inr (show y = 16 by omega)))
                    have dy : decide ((y : Int) < 16) = false := by simp; omega
                    go_wp2
                    go_roundw
                    case rel => exact ⟨b6, B6, x + 1, by omega, rfl, by go_num, HTM6.out, HPN.out, HB6.out, HSZ6.out⟩
                    case measure => simp [intOf]; omega
              · have ex : x = a := by omega
                have HPN := hide (pa_i (i := a) (ex ▸ HPA5.out))
                have dx : decide ((x : Int) < (a : Int)) = false := by simp; omega
                clear ex
                go_wp2
                go_roundw
                case rel => exact ⟨b5, B5, a + 1, by omega, rfl, by go_num, HTM5.out, HPN.out, HB5.out, HSZ5.out⟩
                case measure => simp [intOf]; omega
          · have ea : a = n + 1 := by have := HNN.out; omega
            have da : decide ((a : Int) ≤ (n : Int)) = false := by have := HNN.out; simp; omega
            have HPE := hide (show Pa nx ru n g A B b (n + 1) 0 0 from ea ▸ HPA4.out)
            have HU4 := hide (und2_of HTM4.out N (Nat.le_refl _))
            clear ea
            go_wp2
            go_roundw
            case rel => exact ⟨b, B, rfl, HTM4.out, HPE.out.inv, (fun q => pa_end (q ▸ HPE.out)), HB4.out, HSZ4.out⟩
            case measure =>
              rw [HU.out, HU4.out, HNN.out]
              cases b
              · have := pa_same HPE.out
                simp; omega
              · have := pa_less HPE.out
                simp; omega
end Go.Proofs.Ythkollnlmnbidaa.A
