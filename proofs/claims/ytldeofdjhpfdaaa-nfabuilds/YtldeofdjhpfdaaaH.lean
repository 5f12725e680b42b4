/- The document's Ends: kinds with parts, first those one behind the other. -/
import Derived.Test.YtldeofdjhpfdaaaG
namespace Go.Proofs.Ytldeofdjhpfdaaa.A
open Go.RowKit

/-- What Ends does for an expression. -/
def EndsOf (word : List Int) (n : Nat) (t : Ex n) : Prop := ∀ (v : Value) (a : Option Addr) (L N cap F : Nat) (o : Nat → Bool) (w : World), word.length = L → (L : Int) + 1 = (N : Int) → L ≤ 1000 → Rx w n t v → shapesE n t = true → Wd w a word → Mk w F N o →
    Calls Try.prog 41 #[v, .slice a L cap, .slice (some ⟨F, 0, none⟩) N N] w fun e w' => Gives w N (endsE word n t o) e w'
theorem box_then (w : World) (o1 o2 : Obj) (i : Nat) : ((w.alloc o1).alloc o2).cell? ⟨w.heap.size, i, none⟩ = (w.alloc o1).cell? ⟨w.heap.size, i, none⟩ :=
  ((Below.refl (w.heap.size + 1) (w.alloc o1)).alloc (by simp) o2).cell (p := ⟨w.heap.size, i, none⟩) (by simp)

set_option maxRecDepth 100000 in
set_option maxHeartbeats 3200000 in
theorem ends_k2 (word : List Int) (n : Nat) (ih : ∀ x : Ex n, EndsOf word n x) (ss : Int) (y a : Option Addr) (len ycap : Nat) (l : List (Ex n)) (L N cap F : Nat) (o : Nat → Bool) (w : World) (hw : word.length = L) (hN : (L : Int) + 1 = (N : Int)) (hL : L ≤ 1000)
    (hF : Mk w F N o) (hW : Wd w a word) (hlen : len ≤ maxLen) (hl : l.length = len) (hkids : Kids w n y len l) (hsh : ∀ x ∈ l, shapesE n x = true) :
    Calls Try.prog 41 #[.agg #[.int .u8 2, .int .u16 ss, .slice y len ycap], .slice a L cap, .slice (some ⟨F, 0, none⟩) N N] w fun e w' => Gives w N (l.foldl (fun o x => endsE word n x o) o) e w' := by
  have hmk : ∀ w, (Instr.makeSlice 42 (.int .i64 (N : Int)) (.int .i64 (N : Int))).run Try.prog w = .ok (.slice (some ⟨w.heap.size, 0, none⟩) N N) (w.alloc (.cells (rowB N fun _ => false) 4)) := make39 N (by omega)
  unfold maxLen at hlen
  have HF := hide hF
  have HFL := hide (mk_lt hF)
  have HW := hide hW
  have HWL := hide hw
  have HK := hide hkids
  have HS := hide hsh
  have HLL := hide hl
  clear hF hW hw hkids hsh hl
  obtain ⟨p0, p1, p2⟩ := box3 w (.int .u8 2) (.int .u16 ss) (.slice y len ycap) 51
  have HB0 := hide ((Below.refl w.heap.size w).alloc (Nat.le_refl _) (.cells #[.int .u8 2, .int .u16 ss, .slice y len ycap] 51))
  go_enter Try.func41, Try.ntmps41
  go_wp2_with fail
  have hm0 : Mk ((w.alloc (.cells #[.int .u8 2, .int .u16 ss, .slice y len ycap] 51)).alloc (.cells (rowB N fun _ => false) 4)) (w.heap.size + 1) N (fun j => decide (j < 0) && o j) := mk_congr (g := fun _ => false) (mk_new _ _ _) (by simp)
  have hb0 := HB0.out.alloc (by simp) (.cells (rowB N fun _ => false) 4)
  have hp2 := (box_then w (.cells #[.int .u8 2, .int .u16 ss, .slice y len ycap] 51) (.cells (rowB N fun _ => false) 4) 2).trans p2
  clear hmk p0 p1 p2 HB0
  generalize (w.alloc (.cells #[.int .u8 2, .int .u16 ss, .slice y len ycap] 51)).alloc (.cells (rowB N fun _ => false) 4) = W0 at *
  generalize hB : w.heap.size = B at *
  go_loopw [10] (fun i wr => ∃ k : Nat, k ≤ N ∧ i = .int .i64 k ∧ Mk wr (B + 1) N (fun j => decide (j < k) && o j) ∧ Below B w wr ∧ Below (B + 1) W0 wr) (fun i _ => N - (intOf i).toNat)
  case atStart => exact ⟨0, Nat.zero_le _, rfl, hm0, hb0, Below.refl _ _⟩
  case round =>
    obtain ⟨k, hk, rfl, hm, hb, hb2⟩ := hrel
    clear hm0 hb0
    by_cases hlt : k < N
    · obtain ⟨m0, m1⟩ := mk_cell hm hlt
      obtain ⟨f0, _⟩ := mk_cell (mk_below HFL.out hb HF.out) hlt
      have i1 : (0 : Int) ≤ (k : Int) := by omega
      have i2 : (k : Int) < (N : Int) := by omega
      have HM := hide hm
      clear hm
      go_wp2
      go_roundw
      case rel => exact ⟨k + 1, by omega, by go_num, mk_congr (mk_set HM.out hlt (o k)) (fun j _ => copy_set o k j), hb.setCell (by simp) _, hb2.setCell (by simp) _⟩
      case measure => simp [intOf]; omega
    · have e : k = N := by omega
      subst e
      have hm1 : Mk wr (B + 1) k o := mk_congr hm (fun j hj => by simp [hj])
      clear hm
      go_wp2_with fail
      have hp3 := (hb2.cell (p := ⟨B, 2, none⟩) (Nat.lt_succ_self _)).trans hp2
      clear hp2 hb2
      go_loopw [7, 11] (fun u i wr' => ∃ (j C : Nat), j ≤ len ∧ i = .int .i64 j ∧ u = .slice (some ⟨C, 0, none⟩) k k ∧ B + 1 ≤ C ∧ Mk wr' C k ((l.take j).foldl (fun o x => endsE word n x o) o) ∧ Below B w wr' ∧ Below (B + 1) wr wr') (fun _ i _ => len - (intOf i).toNat)
      case atStart => exact ⟨0, B + 1, Nat.zero_le _, rfl, rfl, Nat.le_refl _, hm1, hb, Below.refl _ _⟩
      case round =>
        obtain ⟨j, C, hj, rfl, rfl, hC, hm, hb', hb2⟩ := hrel
        clear hm1 hb
        have r2 := (hb2.cell (p := ⟨B, 2, none⟩) (Nat.lt_succ_self _)).trans hp3
        clear hp3
        by_cases hlt2 : j < len
        · obtain ⟨x, b, off, c0, c1, c2, rfl, hx, k0, k1, k2, k3⟩ := HK.out wr (hB ▸ hb') j hlt2
          have HX := hide (HS.out x (List.mem_of_getElem? hx))
          have HT := hide (show (l.take (j + 1)).foldl (fun o x => endsE word n x o) o = endsE word n x ((l.take j).foldl (fun o x => endsE word n x o) o) from by rw [take_at hx, List.foldl_append]; rfl)
          have HK3 := hide k3
          have HM := hide hm
          have HB1 := hide hb'
          have HB2 := hide hb2
          have HWd := hide (wd_below (hB ▸ hb') HW.out)
          have i3 : (0 : Int) ≤ (j : Int) := by omega
          have i4 : (j : Int) < (len : Int) := by omega
          have HSZ := hide (show B + 1 ≤ wr.heap.size by have := mk_lt hm; omega)
          clear hx k3 hm hb' hb2
          go_wp2_with fail
          refine (ih x _ a L k cap C _ wr HWL.out hN hL HK3.out HX.out HWd.out HM.out).mono ?_
          rintro e w2 ⟨C2, hC2, rfl, hm2, hb3⟩
          have HM2 := hide hm2
          have HB3 := hide (HB1.out.trans (hb3.mono (by have := HSZ.out; omega)))
          have HB4 := hide (HB2.out.trans (hb3.mono HSZ.out))
          have hC3 : B + 1 ≤ C2 := by have := HSZ.out; omega
          clear hm2 hb3
          go_wp2
          go_roundw
          case rel => exact ⟨j + 1, C2, by omega, by go_num, rfl, hC3, by rw [HT.out]; exact HM2.out, HB3.out, HB4.out⟩
          case measure => simp [intOf]; omega
        · have e : j = len := by omega
          subst e
          have HM := hide (show Mk wr C k (l.foldl (fun o x => endsE word n x o) o) from by rw [List.take_of_length_le (by rw [HLL.out]; exact Nat.le_refl _)] at hm; exact hm)
          clear hm
          go_wp2
          go_ret
          exact ⟨C, by omega, rfl, HM.out, by rw [hB]; exact hb'⟩
end Go.Proofs.Ytldeofdjhpfdaaa.A
