/- Contracts of what finds a code. -/
import Derived.Test.YtooiomfcemceiaaA
namespace Go.Proofs.Ytooiomfcemceiaa.A
open Go.RowKit

theorem ret_pair {a b : Int} {c d : Bool} (h : (a, c) = (b, d)) : Ending.returned (.tuple #[.int .i64 a, .bool c]) = .returned (.tuple #[.int .i64 b, .bool d]) := by
  obtain ⟨rfl, rfl⟩ := Prod.mk.inj h; rfl

set_option maxHeartbeats 800000 in
theorem rfind_any (x : Option Addr) (len cap : Nat) (c : Int) (zs : List Rg) (w : World) (hl : len ≤ maxLen) (hs : SegR w x len zs) :
    Calls Try.prog 26 #[.slice x len cap, .int .i32 c] w fun e w' => e = .returned (.tuple #[.int .i64 (fnd zs c len).1, .bool (fnd zs c len).2]) ∧ w' = w := by
  unfold maxLen at hl
  go_enter Try.func26, Try.ntmps26
  go_wp2
  go_loop [6] (fun i => ∃ k : Nat, k ≤ len ∧ i = .int .i64 k ∧ fnd zs c k = (0, false)) (fun i => len - (intOf i).toNat)
  case atStart => exact ⟨0, Nat.zero_le _, rfl, rfl⟩
  case round =>
    obtain ⟨k, hk, rfl, hf⟩ := hrel
    by_cases hlt : k < len
    · obtain ⟨b, off, rfl, hc⟩ := hs.leads (by omega)
      obtain ⟨c0, c1, c2⟩ := hc k hlt
      have HN := hide (@fnd_miss zs c k hf)
      have HO := hide (@fnd_hit zs c k len (by rw [hf]) hlt)
      clear hc hs hf
      generalize (at' zs k).f = f at *
      generalize (at' zs k).t = t at *
      generalize (at' zs k).v = v at *
      by_cases q1 : f ≤ c
      · by_cases q2 : c ≤ t
        · go_wp2
          go_ret2
          exact ⟨ret_pair (HO.out q1 q2).symm, rfl⟩
        · go_wp2
          go_round
          case rel => exact ⟨k + 1, by omega, by go_num, HN.out (by omega)⟩
          case measure => simp [intOf]; omega
      · go_wp2
        go_round
        case rel => exact ⟨k + 1, by omega, by go_num, HN.out (by omega)⟩
        case measure => simp [intOf]; omega
    · have e : k = len := by omega
      subst e
      have E := hide hf
      clear hf
      go_wp2
      go_ret2
      exact ⟨ret_pair E.out.symm, rfl⟩

set_option maxHeartbeats 800000 in
theorem search_any (x : Option Addr) (len cap p q : Nat) (c : Int) (zs : List Rg) (w : World) (hl : len ≤ 5000) (hs : SegR w x len zs) (hp0 : p < w.heap.size) (hq0 : q < w.heap.size)
    (hp : w.cell? ⟨p, 0, none⟩ = some (.slice x len cap)) (hq : w.cell? ⟨q, 0, none⟩ = some (.int .i32 c)) (hmono : ∀ i j, i ≤ j → j < len → (at' zs i).t ≤ (at' zs j).t) :
    Calls Try.prog 28 #[.int .i64 len, .func (.func 29) #[] #[.pointer (some ⟨p, 0, none⟩), .pointer (some ⟨q, 0, none⟩)]] w fun e w' =>
      ∃ r : Nat, e = .returned (.int .i64 r) ∧ r ≤ len ∧ (∀ i, i < r → (at' zs i).t < c) ∧ (r < len → c ≤ (at' zs r).t) ∧ Below w.heap.size w w' := by
  go_enter Try.func28, Try.ntmps28
  go_wp2
  go_loopw [5, 6, 7] (fun u v _ wr => ∃ i j : Nat, i ≤ j ∧ j ≤ len ∧ u = .int .i64 i ∧ v = .int .i64 j ∧ (∀ a, a < i → (at' zs a).t < c) ∧ (j < len → c ≤ (at' zs j).t) ∧ Below w.heap.size w wr) (fun u v _ _ => (intOf v).toNat - (intOf u).toNat)
  case atStart => exact ⟨0, len, Nat.zero_le _, Nat.le_refl _, rfl, rfl, fun a h => by omega, fun h => by omega, Below.refl _ _⟩
  case round =>
    obtain ⟨i, j, hij, hj, rfl, rfl, hlo, hhi, hbel⟩ := hrel
    by_cases hlt : i < j
    · obtain ⟨b, off, rfl, hc⟩ := hs.leads (by omega)
      have hp' := (hbel.cell (p := ⟨p, 0, none⟩) hp0).trans hp
      have hq' := (hbel.cell (p := ⟨q, 0, none⟩) hq0).trans hq
      obtain ⟨h, hh⟩ : ∃ h : Nat, (i + j) / 2 = h := ⟨_, rfl⟩
      have hh1 : ((i : Int) + (j : Int)) / 2 = (h : Int) := by omega
      have hi1 : i ≤ h := by omega
      have hj1 : h < j := by omega
      obtain ⟨_, c1, _⟩ := seg_below hbel (hc h (by omega))
      have H1 := hide hh1
      have M1 := hide (fun a (ha : a < h + 1) => hmono a h (by omega) (by omega))
      clear hh hh1 hc hs hmono
      have L1 := hide hlo
      have L2 := hide hhi
      clear hlo hhi
      generalize ht : (at' zs h).t = t at *
      have T1 := hide ht
      clear ht
      by_cases hct : c ≤ t
      · have hd : decide (c ≤ t) = true := by simpa using hct
        go_wp2_with fail
        rw [H1.out]
        refine (clo_any b off len cap h p q t c _ (by omega) hp' hq' c1).mono ?_
        rintro e w1 ⟨rfl, hb1⟩
        have hb2 := hbel.trans (hb1.mono hbel.size)
        clear hb1 hbel hp' hq' c1
        rw [hd]
        go_wp2
        go_roundw
        case rel => exact ⟨i, h, hi1, by omega, rfl, rfl, L1.out, fun _ => by rw [T1.out]; exact hct, hb2⟩
        case measure => simp [intOf]; omega
      · have hd : decide (c ≤ t) = false := by simpa using hct
        go_wp2_with fail
        rw [H1.out]
        refine (clo_any b off len cap h p q t c _ (by omega) hp' hq' c1).mono ?_
        rintro e w1 ⟨rfl, hb1⟩
        have hb2 := hbel.trans (hb1.mono hbel.size)
        clear hb1 hbel hp' hq' c1
        rw [hd]
        go_wp2
        go_roundw
        case rel => exact ⟨h + 1, j, by omega, by omega, by go_num, rfl, fun a ha => by have := M1.out a ha; omega, L2.out, hb2⟩
        case measure => simp [intOf]; omega
    · have e : i = j := by omega
      subst e
      go_wp2
      go_ret
      exact ⟨i, rfl, hj, hlo, hhi, hbel⟩

theorem found_at {m : Int} {l : List Rg} {len r : Nat} {c : Int} (h : Rt m l len) (hr : r < len) (h1 : c ≤ (at' l r).t) (h2 : (at' l r).f ≤ c) : fnd l c len = ((at' l r).v, true) :=
  found_fnd h (.inl ⟨rfl, r, hr, h2, h1, rfl⟩)
theorem found_no {m : Int} {l : List Rg} {len r : Nat} {c : Int} (h : Rt m l len) (h0 : ∀ i, i < r → (at' l i).t < c) (h1 : r < len → c < (at' l r).f) : fnd l c len = (0, false) := by
  refine found_fnd h (.inr ⟨rfl, rfl, ?_⟩)
  rintro u ⟨i, hi, a, b, _⟩
  by_cases e : i < r
  · have := h0 i e; omega
  · have h3 := h1 (by omega)
    by_cases e2 : i = r
    · subst e2; omega
    · have := h.2 r i (by omega) hi
      have := (h.1 r (by omega)).2.1
      omega

set_option maxHeartbeats 800000 in
theorem find_no (x : Option Addr) (len cap : Nat) (c : Int) (zs : List Rg) (w : World) (hl : len ≤ maxLen) (hs : SegR w x len zs) (hr : rightB 9223372036854775807 zs len = false) :
    Calls Try.prog 17 #[.slice x len cap, .int .i32 c] w fun e w' => e = .returned (.tuple #[.int .i64 0, .bool false]) ∧ Below w.heap.size w w' := by
  have R := hide hr
  clear hr
  go_enter Try.func17, Try.ntmps17
  go_wp2_with fail
  have hb0 : Below w.heap.size w ((w.alloc (.cells #[.slice x len cap] 22)).alloc (.cells #[.int .i32 c] 21)) := ((Below.refl w.heap.size w).alloc (Nat.le_refl _) _).alloc (by simp) _
  refine (right_any x len cap _ zs _ hl (hs.below hb0)).mono ?_
  rintro e w1 ⟨rfl, hb1⟩
  have hb2 := hb0.trans (hb1.mono hb0.size)
  rw [R.out]
  clear hb0 hb1
  go_wp2
  go_ret2
  exact ⟨rfl, hb2⟩

set_option maxHeartbeats 800000 in
theorem find_yes (x : Option Addr) (len cap : Nat) (c : Int) (zs : List Rg) (w : World) (hl : len ≤ 5000) (hs : SegR w x len zs) (hr : Rt 9223372036854775807 zs len) :
    Calls Try.prog 17 #[.slice x len cap, .int .i32 c] w fun e w' => e = .returned (.tuple #[.int .i64 (fnd zs c len).1, .bool (fnd zs c len).2]) ∧ Below w.heap.size w w' := by
  have R := hide (right_same hr hl)
  have hmf : ∀ (fn : Fn) (first cap : Array Value) (w : World), (Instr.makeFunc fn first cap).run Try.prog w = .ok (.func fn first cap) w := fun _ _ _ _ => rfl
  have hmono : ∀ i j, i ≤ j → j < len → (at' zs i).t ≤ (at' zs j).t := fun i j hij hj => by
    by_cases e : i = j
    · rw [e]; omega
    · have := hr.2 i j (by omega) hj
      have := (hr.1 j hj).2.1
      omega
  have MO := hide hmono
  clear hmono
  have HR := hide hr
  clear hr
  go_enter Try.func17, Try.ntmps17
  go_wp2_with fail
  have hb0 : Below w.heap.size w ((w.alloc (.cells #[.slice x len cap] 22)).alloc (.cells #[.int .i32 c] 21)) := ((Below.refl w.heap.size w).alloc (Nat.le_refl _) _).alloc (by simp) _
  refine (right_any x len cap _ zs _ (by unfold maxLen; omega) (hs.below hb0)).mono ?_
  rintro e w1 ⟨rfl, hb1⟩
  have hb2 := hb0.trans (hb1.mono hb0.size)
  rw [R.out]
  have hp : w1.cell? ⟨w.heap.size, 0, none⟩ = some (.slice x len cap) := (hb1.cell (p := ⟨w.heap.size, 0, none⟩) (by simp; omega)).trans (by simp)
  have hq : w1.cell? ⟨w.heap.size + 1, 0, none⟩ = some (.int .i32 c) := (hb1.cell (p := ⟨w.heap.size + 1, 0, none⟩) (by simp)).trans (by simp)
  have hz : w.heap.size + 2 ≤ w1.heap.size := by have := hb1.size; simp at this; omega
  clear hb0 hb1
  have hs1 := hs.below hb2
  clear hs
  go_wp2_with fail
  refine (search_any x len cap _ _ c zs _ hl hs1 (by omega) (by omega) hp hq MO.out).mono ?_
  rintro e w2 ⟨r, rfl, hr, hlo, hhi, hb3⟩
  have hp2 := (hb3.cell (p := ⟨w.heap.size, 0, none⟩) (by show w.heap.size < _; omega)).trans hp
  have hq2 := (hb3.cell (p := ⟨w.heap.size + 1, 0, none⟩) (by show w.heap.size + 1 < _; omega)).trans hq
  have hb4 := hb2.trans (hb3.mono hb2.size)
  have hs2 := hs1.below hb3
  clear hb2 hb3 hs1 hp hq hz
  by_cases e1 : r = len
  · subst e1
    have q1 : (r == r) = true := by simp
    have q2 : ((r : Int) == (r : Int)) = true := by simp
    have F := hide (found_no (r := r) HR.out hlo (fun h => by omega))
    clear hlo hhi
    go_wp2
    go_quiet (fail)
    go_wp2
    go_ret2
    exact ⟨ret_pair F.out.symm, below_drewN hb4 _⟩
  · have q1 : (r == len) = false := by simpa using e1
    have q2 : ((r : Int) == (len : Int)) = false := by simp; omega
    obtain ⟨b, off, rfl, hc⟩ := hs2.leads (by omega)
    obtain ⟨c0, c1, c2⟩ := hc r (by omega)
    by_cases e2 : (at' zs r).f ≤ c
    · have F := hide (found_at (r := r) HR.out (by omega) (hhi (by omega)) e2)
      have q3 : decide (c < (at' zs r).f) = false := by simpa using e2
      clear hlo hhi hc hs2
      generalize (at' zs r).f = f at *
      generalize (at' zs r).t = t at *
      generalize (at' zs r).v = v at *
      go_wp2
      go_quiet (fail)
      go_wp2
      go_ret2
      exact ⟨ret_pair F.out.symm, below_drewN hb4 _⟩
    · have F := hide (found_no (r := r) HR.out hlo (fun h => by omega))
      have q3 : decide (c < (at' zs r).f) = true := by simpa using e2
      clear hlo hhi hc hs2
      generalize (at' zs r).f = f at *
      generalize (at' zs r).t = t at *
      generalize (at' zs r).v = v at *
      go_wp2
      go_quiet (fail)
      go_wp2
      go_ret2
      exact ⟨ret_pair F.out.symm, below_drewN hb4 _⟩
end Go.Proofs.Ytooiomfcemceiaa.A
