/- The document's Great, Nodes, Shapes. -/
import Derived.Test.YtldeofdjhpfdaaaA
namespace Go.Proofs.Ytldeofdjhpfdaaa.A
open Go.RowKit

/-- Is it more than is looked at? -/
def greatE : (n : Nat) → Ex n → Nat → Bool
  | 0, _, _ => true
  | n + 1, t, m => decide (120 < (ks t).length) || (decide (m = 0) || (ks t).any (fun x => greatE n x (m - 1)))

set_option maxHeartbeats 1600000 in
theorem rgreat_any : ∀ (n : Nat) (t : Ex n) (v : Value) (m : Nat) (w : World), m ≤ 100 → Rx w n t v →
    Calls Try.prog 24 #[v, .int .i64 m] w fun e w' => e = .returned (.bool (greatE n t m)) ∧ Below w.heap.size w w' := by
  intro n
  induction n with
  | zero => intro t v m w _ h; exact h.elim
  | succ n ih =>
    intro t v m w hm h
    obtain ⟨a, len, cap, rfl, hk, hs, hl, h6, hkids⟩ := rx_open h
    unfold maxLen at hl
    have HE := hide (show greatE (n + 1) t m = (decide (120 < (ks t).length) || (decide (m = 0) || (ks t).any (fun x => greatE n x (m - 1)))) from rfl)
    rw [h6] at HE
    generalize kd t = kk at *
    generalize st t = ss at *
    generalize ks t = l at *
    have HB0 := hide ((Below.refl w.heap.size w).alloc (Nat.le_refl _) (.cells #[.int .u8 kk, .int .u16 ss, .slice a len cap] 51))
    have HP := hide (box3 w (.int .u8 kk) (.int .u16 ss) (.slice a len cap) 51)
    have HK := hide hkids
    clear h hkids
    by_cases h120 : 120 < len
    · go_enter Try.func24, Try.ntmps24
      go_wp2
      go_ret
      exact ⟨ret_bool (by rw [HE.out]; simp [h120]), HB0.out⟩
    · by_cases hm0 : m = 0
      · subst hm0
        go_enter Try.func24, Try.ntmps24
        go_wp2
        go_ret
        exact ⟨ret_bool (by rw [HE.out]; simp), HB0.out⟩
      · have hne : ((m : Int) == 0) = false := by simp; omega
        obtain ⟨m1, hm1⟩ : ∃ m1, m - 1 = m1 := ⟨_, rfl⟩
        have hsub : (m : Int) - 1 = (m1 : Int) := by omega
        have HE2 := hide (show greatE (n + 1) t m = l.any (fun x => greatE n x m1) from by rw [HE.out, hm1]; simp [h120, hm0])
        have HM1 := hide (show m1 ≤ 100 by omega)
        clear HE hm1 hm0
        go_enter Try.func24, Try.ntmps24
        go_wp2_with fail
        obtain ⟨p0, p1, p2⟩ := HP.out
        clear HP
        generalize w.alloc (.cells #[.int .u8 kk, .int .u16 ss, .slice a len cap] 51) = W at *
        obtain ⟨q, hq⟩ : ∃ q, w.heap.size = q := ⟨_, rfl⟩
        rw [hq] at p0 p1 p2 HB0 ⊢
        have HQ := hide hq
        clear hq
        go_loopw [5] (fun u wr => ∃ (i : Nat), i ≤ len ∧ u = .int .i64 i ∧ (l.take i).any (fun x => greatE n x m1) = false ∧ Below W.heap.size W wr) (fun u _ => len - (intOf u).toNat)
        case atStart => exact ⟨0, Nat.zero_le _, rfl, rfl, Below.refl _ _⟩
        case round =>
          obtain ⟨i, hi, rfl, hd, hb⟩ := hrel
          have r2 := (hb.cell (p := ⟨q, 2, none⟩) (cell_lt p2)).trans p2
          have HD := hide hd
          clear hd
          by_cases hlt : i < len
          · obtain ⟨x, b, off, c0, c1, c2, rfl, hx, k0, k1, k2, k3⟩ := HK.out wr (by rw [HQ.out]; exact HB0.out.trans (hb.mono (HQ.out ▸ HB0.out.size))) i hlt
            have HN := hide (show (l.take (i + 1)).any (fun x => greatE n x m1) = ((l.take i).any (fun x => greatE n x m1) || greatE n x m1) from by rw [take_at hx, List.any_append]; simp)
            have HIN := hide (show greatE n x m1 = true → l.any (fun x => greatE n x m1) = true from fun g => List.any_eq_true.2 ⟨x, List.mem_of_getElem? hx, g⟩)
            have HK3 := hide k3
            have HBW := hide hb
            have i3 : (0 : Int) ≤ (i : Int) := by omega
            have i4 : (i : Int) < (len : Int) := by omega
            clear hx k3 hb
            generalize hg : greatE n x m1 = g at *
            have HG := hide hg
            clear hg
            go_wp2_with fail
            refine (ih x _ m1 wr HM1.out HK3.out).mono ?_
            rintro e w2 ⟨rfl, hb2⟩
            rw [HG.out]
            have HB2 := hide (HBW.out.trans (hb2.mono HBW.out.size))
            clear hb2
            cases g
            · go_wp2
              go_roundw
              case rel => exact ⟨i + 1, by omega, by go_num, by rw [HN.out, HD.out]; rfl, HB2.out⟩
              case measure => simp [intOf]; omega
            · have HB3 := hide (HB0.out.trans (HB2.out.mono (HQ.out ▸ HB0.out.size)))
              go_wp2
              go_ret
              exact ⟨ret_bool (by rw [HE2.out, HIN.out (by simp)]), by rw [HQ.out]; exact HB3.out⟩
          · have e : i = len := by omega
            subst e
            have HB2 := hide (HB0.out.trans (hb.mono (HQ.out ▸ HB0.out.size)))
            have HT := hide (show l.take i = l from List.take_of_length_le (by omega))
            go_wp2
            go_ret
            exact ⟨ret_bool (by rw [HE2.out, ← HD.out, HT.out]), by rw [HQ.out]; exact HB2.out⟩

/-- How many nodes, as far as 101. -/
def nodesE : (n : Nat) → Ex n → Nat
  | 0, _ => 0
  | n + 1, t => (ks t).foldl (fun a x => if a < 101 then a + nodesE n x else a) 1
theorem fold_nodes {α : Type} (f : α → Nat) (B : Nat) (h : ∀ x, f x ≤ B) : ∀ (l : List α) (a : Nat), a ≤ B + 100 → l.foldl (fun a x => if a < 101 then a + f x else a) a ≤ B + 100
  | [], _, ha => ha
  | x :: r, a, ha => fold_nodes f B h r _ (by have := h x; show (if a < 101 then a + f x else a) ≤ B + 100; split <;> omega)
theorem nodes_le : ∀ (n : Nat) (t : Ex n), nodesE n t ≤ 100 * n
  | 0, _ => Nat.le_refl _
  | n + 1, t => by
    have := fold_nodes (fun x => nodesE n x) (100 * n) (fun x => nodes_le n x) (ks t) 1 (by omega)
    show (ks t).foldl _ 1 ≤ _
    omega
theorem fold_full {α : Type} (f : α → Nat) : ∀ (l : List α) (a : Nat), ¬ a < 101 → l.foldl (fun a x => if a < 101 then a + f x else a) a = a
  | [], _, _ => rfl
  | x :: r, a, ha => by
    show r.foldl _ (if a < 101 then a + f x else a) = a
    rw [if_neg ha]; exact fold_full f r a ha

set_option maxHeartbeats 1600000 in
theorem rnodes_any : ∀ (n : Nat) (t : Ex n) (v : Value) (w : World), n ≤ 1000 → Rx w n t v →
    Calls Try.prog 32 #[v] w fun e w' => e = .returned (.int .i64 (nodesE n t : Nat)) ∧ Below w.heap.size w w' := by
  intro n
  induction n with
  | zero => intro t v w _ h; exact h.elim
  | succ n ih =>
    intro t v w hn h
    obtain ⟨a, len, cap, rfl, hk, hs, hl, h6, hkids⟩ := rx_open h
    unfold maxLen at hl
    have HE := hide (show nodesE (n + 1) t = (ks t).foldl (fun a x => if a < 101 then a + nodesE n x else a) 1 from rfl)
    have HL := hide (fun (l : List (Ex n)) => fold_nodes (fun x => nodesE n x) (100 * n) (fun x => nodes_le n x) l 1 (by omega))
    generalize kd t = kk at *
    generalize st t = ss at *
    generalize ks t = l at *
    have HB0 := hide ((Below.refl w.heap.size w).alloc (Nat.le_refl _) (.cells #[.int .u8 kk, .int .u16 ss, .slice a len cap] 51))
    have HP := hide (box3 w (.int .u8 kk) (.int .u16 ss) (.slice a len cap) 51)
    have HK := hide hkids
    clear h hkids
    go_enter Try.func32, Try.ntmps32
    go_wp2_with fail
    obtain ⟨p0, p1, p2⟩ := HP.out
    clear HP
    generalize w.alloc (.cells #[.int .u8 kk, .int .u16 ss, .slice a len cap] 51) = W at *
    obtain ⟨q, hq⟩ : ∃ q, w.heap.size = q := ⟨_, rfl⟩
    rw [hq] at p0 p1 p2 HB0 ⊢
    have HQ := hide hq
    clear hq
    go_loopw [3, 4] (fun s u wr => ∃ (i d : Nat), i ≤ len ∧ u = .int .i64 i ∧ s = .int .i64 d ∧ d = (l.take i).foldl (fun a x => if a < 101 then a + nodesE n x else a) 1 ∧ Below W.heap.size W wr) (fun _ u _ => len - (intOf u).toNat)
    case atStart => exact ⟨0, 1, Nat.zero_le _, rfl, rfl, rfl, Below.refl _ _⟩
    case round =>
      obtain ⟨i, d, hi, rfl, rfl, hd, hb⟩ := hrel
      have r2 := (hb.cell (p := ⟨q, 2, none⟩) (cell_lt p2)).trans p2
      have hle : d ≤ 100 * n + 100 := by rw [hd]; exact HL.out _
      have HD := hide hd
      clear hd
      have HB2 := hide (HB0.out.trans (hb.mono (HQ.out ▸ HB0.out.size)))
      by_cases hlt : i < len
      · by_cases h101 : d < 101
        · obtain ⟨x, b, off, c0, c1, c2, rfl, hx, k0, k1, k2, k3⟩ := HK.out wr (by rw [HQ.out]; exact HB2.out) i hlt
          have hdx := nodes_le n x
          have HN := hide (show (l.take (i + 1)).foldl (fun a x => if a < 101 then a + nodesE n x else a) 1 = d + nodesE n x from by rw [take_at hx, List.foldl_append, ← HD.out]; show (if d < 101 then d + nodesE n x else d) = _; rw [if_pos h101])
          have HK3 := hide k3
          have HBW := hide hb
          have i3 : (0 : Int) ≤ (i : Int) := by omega
          have i4 : (i : Int) < (len : Int) := by omega
          clear hx k3 hb
          generalize hdx0 : nodesE n x = dx at *
          have HDX := hide hdx0
          clear hdx0
          go_wp2_with fail
          refine (ih x _ wr (by omega) HK3.out).mono ?_
          rintro e w2 ⟨rfl, hb2⟩
          rw [HDX.out]
          have HB3 := hide (HBW.out.trans (hb2.mono HBW.out.size))
          clear hb2
          go_wp2
          go_roundw
          case rel => exact ⟨i + 1, d + dx, by omega, by go_num, by go_num, by rw [HN.out], HB3.out⟩
          case measure => simp [intOf]; omega
        · have HF := hide (show l.foldl (fun a x => if a < 101 then a + nodesE n x else a) 1 = d from by
            rw [← List.take_append_drop i l, List.foldl_append, ← HD.out]; exact fold_full _ _ _ h101)
          go_wp2
          go_ret
          exact ⟨by rw [HE.out, HF.out]; rfl, by rw [HQ.out]; exact HB2.out⟩
      · have e : i = len := by omega
        subst e
        have HT := hide (show l.take i = l from List.take_of_length_le (by omega))
        go_wp2
        go_ret
        exact ⟨by rw [HE.out]; rw [HT.out] at HD; rw [← HD.out]; rfl, by rw [HQ.out]; exact HB2.out⟩
end Go.Proofs.Ytldeofdjhpfdaaa.A
