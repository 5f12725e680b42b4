/- The program's hasEmpty, Empty. -/
import Derived.Test.YtgjjmcgmdlfdaaaDoorS
namespace Go.Proofs.YtgjjmcgmdlfdaaaDoor.A
open Go.RowKit

/-- What a function tells of an expression. -/
def Asks (F : FuncId) (n : Nat) (f : Ex n → Bool) : Prop := ∀ (x : Ex n) (v : Value) (w : World), Rx w n x v → shapesE n x = true → Calls Tryd.prog F #[v] w fun e w' => e = .returned (.bool (f x)) ∧ Below w.heap.size w w'

def idxB {α : Type} (f : α → Bool) : List α → Bool := fun l => l.any f
set_option maxHeartbeats 1600000 in
theorem index_any (F : FuncId) (hF : F = 46 ∨ F = 63) (n : Nat) (f : Ex n → Bool) (ih : Asks F n f) (a : Option Addr) (len cap : Nat) (l : List (Ex n)) (w : World) (hl : len ≤ maxLen) (h6 : l.length = len) (hkids : Kids w n a len l) (hsh : ∀ x ∈ l, shapesE n x = true) :
    Calls Tryd.prog 71 #[.slice a len cap, .func (.func F) #[] #[]] w fun e w' => ∃ z : Int, e = .returned (.int .i64 z) ∧ decide (0 ≤ z) = l.any f ∧ Below w.heap.size w w' := by
  unfold maxLen at hl
  have HK := hide hkids
  have HL := hide h6
  have HS := hide hsh
  have HI := hide ih
  unfold Asks at HI
  clear hkids h6 hsh ih
  rcases hF with rfl | rfl
  all_goals
    go_enter Tryd.func71, Tryd.ntmps71
    go_wp2_with fail
    go_loopw [5, 8] (fun _ u wr => ∃ i : Nat, i ≤ len ∧ u = .int .i64 i ∧ (l.take i).any f = false ∧ Below w.heap.size w wr) (fun _ u _ => len - (intOf u).toNat)
    case atStart => exact ⟨0, Nat.zero_le _, rfl, rfl, Below.refl _ _⟩
    case round =>
      obtain ⟨i, hi, rfl, hd, hb⟩ := hrel
      have HD := hide hd
      have HBW := hide hb
      clear hd
      by_cases hlt : i < len
      · obtain ⟨x, b, off, c0, c1, c2, rfl, hx, k0, k1, k2, k3⟩ := HK.out wr hb i hlt
        have HSX := hide (HS.out x (List.mem_of_getElem? hx))
        have HN := hide (show (l.take (i + 1)).any f = f x from by rw [take_at hx, List.any_append, HD.out]; simp)
        have HIN := hide (show f x = true → l.any f = true from fun g => List.any_eq_true.2 ⟨x, List.mem_of_getElem? hx, g⟩)
        have HK3 := hide k3
        have i3 : (0 : Int) ≤ (i : Int) := by omega
        have i4 : (i : Int) < (len : Int) := by omega
        clear hx k3 hb
        go_wp2_with fail
        refine (HI.out x _ wr HK3.out HSX.out).mono ?_
        rintro e w2 ⟨rfl, hb2⟩
        have HB2 := hide (HBW.out.trans (hb2.mono HBW.out.size))
        clear hb2
        cases hf : f x
        · have HF := hide hf
          clear hf
          go_wp2
          go_roundw
          case rel => exact ⟨i + 1, by omega, by go_num, by rw [HN.out, HF.out], HB2.out⟩
          case measure => simp [intOf]; omega
        · have HF := hide hf
          clear hf
          go_wp2
          go_ret
          exact ⟨(i : Int), rfl, by rw [HIN.out HF.out]; simp, HB2.out⟩
      · have e : i = len := by omega
        subst e
        have HT := hide (show l.take i = l from List.take_of_length_le (by have := HL.out; omega))
        clear hb
        go_wp2
        go_ret
        exact ⟨-1, rfl, by rw [← HT.out, HD.out]; rfl, HBW.out⟩
set_option maxHeartbeats 800000 in
theorem contains_any (F : FuncId) (hF : F = 46 ∨ F = 63) (n : Nat) (f : Ex n → Bool) (ih : Asks F n f) (a : Option Addr) (len cap : Nat) (l : List (Ex n)) (w : World) (hl : len ≤ maxLen) (h6 : l.length = len) (hkids : Kids w n a len l) (hsh : ∀ x ∈ l, shapesE n x = true) :
    Calls Tryd.prog 62 #[.slice a len cap, .func (.func F) #[] #[]] w fun e w' => e = .returned (.bool (l.any f)) ∧ Below w.heap.size w w' := by
  have HC := hide (index_any F hF n f ih a len cap l w hl h6 hkids hsh)
  clear hkids h6 hsh ih
  go_enter Tryd.func62, Tryd.ntmps62
  go_wp2_with fail
  refine HC.out.mono ?_
  rintro e w2 ⟨z, rfl, hz, hb2⟩
  have HB := hide hb2
  clear hb2 HC
  cases hg : l.any f
  · have hz' : decide (0 ≤ z) = false := hz.trans hg
    have HG := hide hg
    clear hg hz
    go_wp2
    go_ret
    exact ⟨by rw [HG.out]; rfl, HB.out⟩
  · have hz' : decide (0 ≤ z) = true := hz.trans hg
    have HG := hide hg
    clear hg hz
    go_wp2
    go_ret
    exact ⟨by rw [HG.out]; rfl, HB.out⟩
set_option maxHeartbeats 800000 in
theorem not_asks (n : Nat) (f : Ex n → Bool) (ih : Asks 46 n f) : Asks 63 n (fun x => !f x) := by
  intro x v w h hsh
  obtain ⟨c0, c1, c2, rfl⟩ := rx_form h
  have HB0 := hide ((Below.refl w.heap.size w).alloc (Nat.le_refl _) (.cells #[c0, c1, c2] 40))
  have HC := hide (ih x _ _ (rx_below HB0.out n x _ h) hsh)
  clear ih h
  go_enter Tryd.func63, Tryd.ntmps63
  go_wp2_with fail
  refine HC.out.mono ?_
  rintro e w1 ⟨rfl, hb1⟩
  have HB1 := hide (HB0.out.trans (hb1.mono HB0.out.size))
  clear hb1 HC
  go_wp2
  go_ret
  exact ⟨rfl, HB1.out⟩
theorem all_not {α : Type} (f : α → Bool) : ∀ l : List α, (!(l.any (fun x => !f x))) = l.all f
  | [] => rfl
  | x :: r => by rw [List.any_cons, List.all_cons, ← all_not f r]; cases f x <;> simp
set_option maxHeartbeats 1600000 in
/-- hasEmpty. -/
theorem empty_asks : ∀ (n : Nat), Asks 46 n (fun x => emptyE n x) := by
  intro n
  induction n with
  | zero => intro t v w h; exact h.elim
  | succ n ih =>
    intro t v w h hsh
    obtain ⟨a, len, cap, rfl, hk, hs, hl, h6, hkids⟩ := rx_open h
    obtain ⟨hok, hall⟩ : okE (kd t) (st t) (ks t).length = true ∧ ∀ x ∈ ks t, shapesE n x = true := by
      have e : (okE (kd t) (st t) (ks t).length && (ks t).all (fun x => shapesE n x)) = true := hsh
      rw [Bool.and_eq_true, List.all_eq_true] at e
      exact e
    have HE := hide (show emptyE (n + 1) t = if kd t = 0 then true else if kd t = 1 then false else if kd t = 2 then (ks t).all (fun x => emptyE n x) else if kd t = 3 then (ks t).any (fun x => emptyE n x) else if kd t = 4 ∨ kd t = 5 then (ks t).head?.isSome else false from rfl)
    rw [h6] at hok
    have HML := hide hl
    unfold maxLen at hl
    generalize kd t = kk at *
    generalize st t = ss at *
    generalize ks t = l at *
    have HB0 := hide ((Below.refl w.heap.size w).alloc (Nat.le_refl _) (.cells #[.int .u8 kk, .int .u16 ss, .slice a len cap] 40))
    have HK := hide hkids
    have HS := hide hall
    have HL := hide h6
    have HI := hide ih
    have hkk : kk = 0 ∨ kk = 1 ∨ kk = 2 ∨ kk = 3 ∨ (kk = 4 ∨ kk = 5) ∧ len = 1 := by
      unfold okE at hok
      simp only [Bool.or_eq_true, Bool.and_eq_true, decide_eq_true_eq] at hok
      omega
    have HKB := hide (fun W (hb : Below w.heap.size w W) => (fun V hV => hkids V (hb.trans (hV.mono hb.size)) : Kids W n a len l))
    clear h hkids hsh hok hall h6 ih
    rcases hkk with e | e | e | e | ⟨e, e1⟩
    · have y1 : ((kk : Int) == 1) = false := by simp; omega
      have y2 : ((kk : Int) == 2) = false := by simp; omega
      have y3 : ((kk : Int) == 3) = false := by simp; omega
      have HR := hide (show emptyE (n + 1) t = true from by rw [HE.out, if_pos e])
      clear e
      go_enter Tryd.func46, Tryd.ntmps46
      go_wp2
      go_ret
      exact ⟨by show _ = Ending.returned (.bool (emptyE (n + 1) t)); rw [HR.out]; rfl, HB0.out⟩
    · have y1 : ((kk : Int) == 1) = true := by simp; omega
      have HR := hide (show emptyE (n + 1) t = false from by rw [HE.out, if_neg (by omega), if_pos e])
      clear e
      go_enter Tryd.func46, Tryd.ntmps46
      go_wp2
      go_ret
      exact ⟨by show _ = Ending.returned (.bool (emptyE (n + 1) t)); rw [HR.out]; rfl, HB0.out⟩
    · have y1 : ((kk : Int) == 1) = false := by simp; omega
      have y2 : ((kk : Int) == 2) = true := by simp; omega
      have HR := hide (show emptyE (n + 1) t = !(l.any (fun x => !emptyE n x)) from by rw [HE.out, if_neg (by omega), if_neg (by omega), if_pos e, all_not])
      clear e
      go_enter Tryd.func46, Tryd.ntmps46
      go_wp2_with fail
      refine (contains_any 63 (.inr rfl) n _ (not_asks n _ HI.out) a len cap l _ HML.out HL.out (HKB.out _ HB0.out) HS.out).mono ?_
      rintro e w1 ⟨rfl, hb1⟩
      have HB1 := hide (HB0.out.trans (hb1.mono HB0.out.size))
      clear hb1
      go_wp2
      go_ret
      exact ⟨by show _ = Ending.returned (.bool (emptyE (n + 1) t)); rw [HR.out]; rfl, HB1.out⟩
    · have y1 : ((kk : Int) == 1) = false := by simp; omega
      have y2 : ((kk : Int) == 2) = false := by simp; omega
      have y3 : ((kk : Int) == 3) = true := by simp; omega
      have HR := hide (show emptyE (n + 1) t = l.any (fun x => emptyE n x) from by rw [HE.out, if_neg (by omega), if_neg (by omega), if_neg (by omega), if_pos e])
      clear e
      go_enter Tryd.func46, Tryd.ntmps46
      go_wp2_with fail
      refine (contains_any 46 (.inl rfl) n _ HI.out a len cap l _ HML.out HL.out (HKB.out _ HB0.out) HS.out).mono ?_
      rintro e w1 ⟨rfl, hb1⟩
      have HB1 := hide (HB0.out.trans (hb1.mono HB0.out.size))
      clear hb1
      go_wp2
      go_ret
      exact ⟨by show _ = Ending.returned (.bool (emptyE (n + 1) t)); rw [HR.out]; rfl, HB1.out⟩
    · have y1 : ((kk : Int) == 1) = false := by simp; omega
      have y2 : ((kk : Int) == 2) = false := by simp; omega
      have y3 : ((kk : Int) == 3) = false := by simp; omega
      have HR := hide (show emptyE (n + 1) t = true from by
        rw [HE.out, if_neg (by omega), if_neg (by omega), if_neg (by omega), if_neg (by omega), if_pos e]
        cases l with
        | nil => have := HL.out; simp at this; omega
        | cons x r => rfl)
      clear e e1
      go_enter Tryd.func46, Tryd.ntmps46
      go_wp2
      go_ret
      exact ⟨by show _ = Ending.returned (.bool (emptyE (n + 1) t)); rw [HR.out]; rfl, HB0.out⟩
theorem right_shapes {n : Nat} {t : Ex n} (h : rightE n t = true) : shapesE n t = true := by
  unfold rightE at h
  simp only [Bool.and_eq_true] at h
  exact h.2.2
set_option maxHeartbeats 800000 in
/-- Empty. -/
theorem empty_any (n : Nat) (t : Ex n) (v : Value) (w : World) (h : Rx w n t v) :
    Calls Tryd.prog 31 #[v] w fun e w' => e = .returned (.bool (rightE n t && emptyE n t)) ∧ Below w.heap.size w w' := by
  obtain ⟨c0, c1, c2, rfl⟩ := rx_form h
  obtain ⟨p0, p1, p2⟩ := box3 w c0 c1 c2 40
  have HX := hide h
  have HB0 := hide ((Below.refl w.heap.size w).alloc (Nat.le_refl _) (.cells #[c0, c1, c2] 40))
  clear h
  go_enter Tryd.func31, Tryd.ntmps31
  go_wp2_with fail
  refine (right_any n t _ _ (rx_below HB0.out n t _ HX.out)).mono ?_
  rintro e w1 ⟨rfl, hb1⟩
  have r0 := (hb1.cell (p := ⟨w.heap.size, 0, none⟩) (cell_lt p0)).trans p0
  have r1 := (hb1.cell (p := ⟨w.heap.size, 1, none⟩) (cell_lt p1)).trans p1
  have r2 := (hb1.cell (p := ⟨w.heap.size, 2, none⟩) (cell_lt p2)).trans p2
  have HB1 := hide (HB0.out.trans (hb1.mono HB0.out.size))
  clear hb1 p0 p1 p2
  cases hr : rightE n t with
  | false =>
    have HR := hide hr
    clear hr
    go_wp2
    go_ret
    exact ⟨by rw [HR.out]; rfl, HB1.out⟩
  | true =>
    have HR := hide hr
    clear hr
    go_wp2_with fail
    refine (empty_asks n t _ _ (rx_below HB1.out n t _ HX.out) (right_shapes HR.out)).mono ?_
    rintro e w2 ⟨rfl, hb2⟩
    have HB2 := hide (HB1.out.trans (hb2.mono HB1.out.size))
    clear hb2
    go_wp2
    go_ret
    exact ⟨by rw [HR.out]; rfl, HB2.out⟩
end Go.Proofs.YtgjjmcgmdlfdaaaDoor.A
