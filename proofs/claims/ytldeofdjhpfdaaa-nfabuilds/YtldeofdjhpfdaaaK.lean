/- The document's Ends, whole. -/
import Derived.Test.YtldeofdjhpfdaaaJ
namespace Go.Proofs.Ytldeofdjhpfdaaa.A
open Go.RowKit

theorem gives_congr {w : World} {N : Nat} {g h : Nat → Bool} {e : Ending} {w' : World} (d : Gives w N g e w') (q : ∀ j, j < N → g j = h j) : Gives w N h e w' := by
  obtain ⟨B, h1, h2, h3, h4⟩ := d
  exact ⟨B, h1, h2, mk_congr h3 q, h4⟩
theorem ends_any (word : List Int) : ∀ (n : Nat) (t : Ex n), EndsOf word n t
  | 0, _ => fun _ _ _ _ _ _ _ _ _ _ _ h => h.elim
  | n + 1, t => by
    intro v a L N cap F o w hw hN hL h hsh hW hF
    obtain ⟨y, len, ycap, rfl, hk, hs, hl, h6, hkids⟩ := rx_open h
    have hsh2 : (okE (kd t) (st t) (ks t).length && (ks t).all (fun x => shapesE n x)) = true := hsh
    rw [Bool.and_eq_true, List.all_eq_true] at hsh2
    obtain ⟨hok, hall⟩ := hsh2
    have hkk : kd t = 0 ∨ kd t = 1 ∨ kd t = 2 ∨ kd t = 3 ∨ kd t = 4 ∨ kd t = 5 ∨ 5 < kd t := by omega
    have one : kd t = 4 ∨ kd t = 5 → len = 1 := fun q => by
      rw [h6] at hok
      unfold okE at hok
      simp only [Bool.or_eq_true, Bool.and_eq_true, decide_eq_true_eq] at hok
      omega
    rcases hkk with e | e | e | e | e | e | e
    · rw [e]
      refine (ends_k0 _ _ a L N cap F o w hN hL hF).mono fun e' w' hg => gives_congr hg (fun j hj => ?_)
      unfold endsE; rw [if_pos e]
    · rw [e]
      refine (ends_k1 (st t) _ a word L N cap F o w hN hL hw hs hF hW).mono fun e' w' hg => gives_congr hg (fun j hj => ?_)
      unfold endsE chB; rw [if_neg (by omega), if_pos e, show decide (j ≤ L) = true from decide_eq_true (by omega), Bool.true_and]; cases word[j - 1]? <;> rfl
    · rw [e]
      refine (ends_k2 word n (fun x => ends_any word n x) _ y a len ycap (ks t) L N cap F o w hw hN hL hF hW hl h6 hkids hall).mono fun e' w' hg => gives_congr hg (fun j hj => ?_)
      conv => rhs; unfold endsE
      rw [if_neg (by omega), if_neg (by omega), if_pos e]
    · rw [e]
      refine (ends_k3 word n (fun x => ends_any word n x) _ y a len ycap (ks t) L N cap F o w hw hN hL hF hW hl h6 hkids hall).mono fun e' w' hg => gives_congr hg (fun j hj => ?_)
      conv => rhs; unfold endsE
      rw [if_neg (by omega), if_neg (by omega), if_neg (by omega), if_pos e]; rfl
    · obtain rfl := one (.inl e)
      obtain ⟨x, hx⟩ := List.length_eq_one_iff.1 h6
      rw [hx] at hkids hall
      rw [e]
      refine (ends_k4 word n x (ends_any word n x) _ y a ycap L N cap F o w hw hN hL hF hW hkids (hall x (by simp))).mono fun e' w' hg => gives_congr hg (fun j hj => ?_)
      conv => rhs; unfold endsE
      rw [if_neg (by omega), if_neg (by omega), if_neg (by omega), if_neg (by omega), if_pos e, hx, show word.length + 1 = N by omega]; rfl
    · obtain rfl := one (.inr e)
      obtain ⟨x, hx⟩ := List.length_eq_one_iff.1 h6
      rw [hx] at hkids hall
      rw [e]
      refine (ends_k5 word n x (ends_any word n x) _ y a ycap L N cap F o w hw hN hL hF hW hkids (hall x (by simp))).mono fun e' w' hg => gives_congr hg (fun j hj => ?_)
      conv => rhs; unfold endsE
      rw [if_neg (by omega), if_neg (by omega), if_neg (by omega), if_neg (by omega), if_neg (by omega), if_pos e, hx]; rfl
    · exfalso
      rw [h6] at hok
      unfold okE at hok
      simp only [Bool.or_eq_true, Bool.and_eq_true, decide_eq_true_eq] at hok
      omega
theorem mk_newg (w : World) (o1 : Obj) (N : Nat) (g : Nat → Bool) : Mk ((w.alloc o1).alloc (.cells (rowB N g) 4)) (w.heap.size + 1) N g := by
  have := heap_alloc_last (w.alloc o1) (.cells (rowB N g) 4)
  rw [show (w.alloc o1).heap.size = w.heap.size + 1 by simp] at this
  exact this
set_option maxRecDepth 100000 in
set_option maxHeartbeats 1600000 in
/-- Has. -/
theorem has_any (word : List Int) (n : Nat) (t : Ex n) (v : Value) (a : Option Addr) (L cap : Nat) (w : World) (hw : word.length = L) (hL : L ≤ 1000) (h : Rx w n t v) (hsh : shapesE n t = true) (hW : Wd w a word) :
    Calls Try.prog 23 #[v, .slice a L cap] w fun e w' => e = .returned (.bool (hasE n t word)) ∧ Below w.heap.size w w' := by
  obtain ⟨N, hN⟩ : ∃ N : Nat, (L : Int) + 1 = (N : Int) := ⟨L + 1, by omega⟩
  have hmk : ∀ w, (Instr.makeSlice 42 (.int .i64 (N : Int)) (.int .i64 (N : Int))).run Try.prog w = .ok (.slice (some ⟨w.heap.size, 0, none⟩) N N) (w.alloc (.cells (rowB N fun _ => false) 4)) := make39 N (by omega)
  have m0 := rowB_at (n := N) (fun _ => false) (j := 0) (by omega)
  have i0 : (0 : Int) < (N : Int) := by omega
  have HX := hide h
  have HS := hide hsh
  have HW := hide hW
  have HWL := hide hw
  clear h hsh hW hw
  cases n with
  | zero => exact HX.out.elim
  | succ n =>
  obtain ⟨y, len, ycap, rfl, -, -, -, -, -⟩ := rx_open HX.out
  have HB0 := hide (((Below.refl w.heap.size w).alloc (Nat.le_refl _) (.cells #[.int .u8 (kd t : Nat), .int .u16 (st t : Nat), .slice y len ycap] 51)).alloc (by simp) (.cells (rowB N fun i => if i = 0 then true else false) 4))
  have HM := hide (mk_newg w (.cells #[.int .u8 (kd t : Nat), .int .u16 (st t : Nat), .slice y len ycap] 51) N (fun i => if i = 0 then true else false))
  have HST := hide (rowB_set (n := N) (fun _ => false) (j := 0) true (by omega))
  have i1 : (0 : Int) ≤ (L : Int) := by omega
  have i2 : (L : Int) < (N : Int) := by omega
  go_enter Try.func23, Try.ntmps23
  go_wp2_with fail
  rw [HST.out]
  have HB := HB0
  clear HB0 hmk HST
  refine (ends_any word (n + 1) t _ a L N cap (w.heap.size + 1) _ _ HWL.out hN hL (rx_below HB.out _ _ _ HX.out) HS.out (wd_below HB.out HW.out) HM.out).mono ?_
  rintro e w2 ⟨C, hC, rfl, hm2, hb2⟩
  obtain ⟨r0, -⟩ := mk_cell hm2 (j := L) (by omega)
  have HB2 := hide (HB.out.trans (hb2.mono HB.out.size))
  have HR := hide (show endsE word (n + 1) t (fun i => if i = 0 then true else false) L = hasE (n + 1) t word from by
    unfold hasE
    rw [HWL.out]
    exact ends_looks word N (n + 1) t _ _ (fun j _ => by by_cases q : j = 0 <;> simp [q]) L (by omega))
  clear hm2 hb2 HM HB
  go_wp2
  go_ret
  exact ⟨ret_bool HR.out, HB2.out⟩
end Go.Proofs.Ytldeofdjhpfdaaa.A
