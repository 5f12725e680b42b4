/- Expressions in memory. -/
import Derived.Test.YtbbfjjjnifomgaaGreatDoorRows
import Derived.WalkKit
import Derived.ProofKit
import Derived.Outline
import Derived.BigQuiet
import Derived.Deep.QuietTactic
import Derived.Below
namespace Go.Proofs.YtbbfjjjnifomgaaGreatDoor.A
open Go.RowKit

theorem hide {p : Prop} (h : p) : Hid p := h
theorem below_drewN {B : Nat} {a w : World} (h : Below B a w) (n : Nat) : Below B a (w.drewN n) := ⟨h.os, h.tape, h.output, h.size, h.block⟩
theorem ret_bool {a b : Bool} (h : a = b) : Ending.returned (.bool a) = .returned (.bool b) := by rw [h]
theorem cell_lt {w : World} {a : Addr} {v : Value} (h : w.cell? a = some v) : a.block < w.heap.size := by
  rcases Nat.lt_or_ge a.block w.heap.size with h' | h'
  · exact h'
  · simp [World.cell?, Array.getElem?_eq_none h'] at h

/-- Expressions of at most so many levels: the kind, the set, the parts. -/
def Ex : Nat → Type | 0 => Unit | n + 1 => Nat × Nat × List (Ex n)
def kd {n : Nat} (t : Ex (n + 1)) : Nat := t.1
def st {n : Nat} (t : Ex (n + 1)) : Nat := t.2.1
def ks {n : Nat} (t : Ex (n + 1)) : List (Ex n) := t.2.2
/-- A value is an expression, by its memory. -/
def Rx (w : World) : (n : Nat) → Ex n → Value → Prop
  | 0, _, _ => False
  | n + 1, t, v => ∃ a len cap, v = .agg #[.int .u8 (kd t : Nat), .int .u16 (st t : Nat), .slice a len cap] ∧ kd t < 256 ∧ st t < 65536 ∧ len ≤ cap ∧ cap ≤ maxLen ∧ (ks t).length = len ∧
      (len = 0 ∨ ∃ b off, a = some ⟨b, off, none⟩ ∧ ∀ (i : Nat) (x : Ex n), (ks t)[i]? = some x → ∃ c0 c1 c2, w.cell? ⟨b, off + i * 3, none⟩ = some c0 ∧ w.cell? ⟨b, off + i * 3 + 1, none⟩ = some c1 ∧ w.cell? ⟨b, off + i * 3 + 2, none⟩ = some c2 ∧ Rx w n x (.agg #[c0, c1, c2]))
theorem rx_below {w w' : World} (hb : Below w.heap.size w w') : ∀ (n : Nat) (t : Ex n) (v : Value), Rx w n t v → Rx w' n t v
  | 0, _, _, h => h
  | n + 1, t, v, ⟨a, len, cap, h1, h2, h3, h4, h5, h6, h7⟩ => by
    refine ⟨a, len, cap, h1, h2, h3, h4, h5, h6, ?_⟩
    rcases h7 with h7 | ⟨b, off, e, h7⟩
    · exact .inl h7
    · refine .inr ⟨b, off, e, fun i x hx => ?_⟩
      obtain ⟨c0, c1, c2, p0, p1, p2, p3⟩ := h7 i x hx
      exact ⟨c0, c1, c2, (hb.cell (p := ⟨b, off + i * 3, none⟩) (cell_lt p0)).trans p0, (hb.cell (p := ⟨b, off + i * 3 + 1, none⟩) (cell_lt p1)).trans p1, (hb.cell (p := ⟨b, off + i * 3 + 2, none⟩) (cell_lt p2)).trans p2, rx_below hb n x _ p3⟩
theorem box3 (w : World) (u0 u1 u2 : Value) (t : TypeId) : (w.alloc (.cells #[u0, u1, u2] t)).cell? ⟨w.heap.size, 0, none⟩ = some u0 ∧ (w.alloc (.cells #[u0, u1, u2] t)).cell? ⟨w.heap.size, 1, none⟩ = some u1 ∧ (w.alloc (.cells #[u0, u1, u2] t)).cell? ⟨w.heap.size, 2, none⟩ = some u2 := by
  refine ⟨?_, ?_, ?_⟩ <;> simp
/-- What an expression's rounds read of its parts, in every world behind. -/
def Kids (w : World) (n : Nat) (a : Option Addr) (len : Nat) (l : List (Ex n)) : Prop :=
  ∀ W, Below w.heap.size w W → ∀ i, i < len → ∃ x b off c0 c1 c2, a = some ⟨b, off, none⟩ ∧ l[i]? = some x ∧ W.cell? ⟨b, off + i * 3, none⟩ = some c0 ∧ W.cell? ⟨b, off + i * 3 + 1, none⟩ = some c1 ∧ W.cell? ⟨b, off + i * 3 + 2, none⟩ = some c2 ∧ Rx W n x (.agg #[c0, c1, c2])
theorem rx_open {w : World} {n : Nat} {t : Ex (n + 1)} {v : Value} (h : Rx w (n + 1) t v) : ∃ a len cap, v = .agg #[.int .u8 (kd t : Nat), .int .u16 (st t : Nat), .slice a len cap] ∧ kd t < 256 ∧ st t < 65536 ∧ len ≤ maxLen ∧ (ks t).length = len ∧ Kids w n a len (ks t) := by
  obtain ⟨a, len, cap, h1, h2, h3, h4, h5, h6, h7⟩ := h
  refine ⟨a, len, cap, h1, h2, h3, Nat.le_trans h4 h5, h6, fun W hb i hi => ?_⟩
  rcases h7 with h7 | ⟨b, off, e, h7⟩
  · omega
  · have hx : (ks t)[i]? = some (ks t)[i] := by simp
    obtain ⟨c0, c1, c2, p0, p1, p2, p3⟩ := h7 i _ hx
    exact ⟨_, b, off, c0, c1, c2, e, hx, (hb.cell (p := ⟨b, off + i * 3, none⟩) (cell_lt p0)).trans p0, (hb.cell (p := ⟨b, off + i * 3 + 1, none⟩) (cell_lt p1)).trans p1, (hb.cell (p := ⟨b, off + i * 3 + 2, none⟩) (cell_lt p2)).trans p2, rx_below hb n _ _ p3⟩
theorem take_at {α : Type} {l : List α} {i : Nat} {x : α} (h : l[i]? = some x) : l.take (i + 1) = l.take i ++ [x] := by
  obtain ⟨hi, e⟩ := List.getElem?_eq_some_iff.1 h
  rw [List.take_succ_eq_append_getElem hi, e]

/-- How deep, as far as a bound. -/
def deepE : (n : Nat) → Ex n → Nat → Nat
  | 0, _, _ => 0
  | _ + 1, _, 0 => 1
  | n + 1, t, m + 1 => ((ks t).foldl (fun a x => max a (deepE n x m)) 0) + 1
end Go.Proofs.YtbbfjjjnifomgaaGreatDoor.A



/- The document's Great, Nodes, Shapes. -/
namespace Go.Proofs.YtbbfjjjnifomgaaGreatDoor.A
open Go.RowKit

/-- Is it more than is looked at? -/
def greatE : (n : Nat) → Ex n → Nat → Bool
  | 0, _, _ => true
  | n + 1, t, m => decide (120 < (ks t).length) || (decide (m = 0) || (ks t).any (fun x => greatE n x (m - 1)))

set_option maxHeartbeats 1600000 in
theorem rgreat_any : ∀ (n : Nat) (t : Ex n) (v : Value) (m : Nat) (w : World), m ≤ 100 → Rx w n t v →
    Calls Tryz.prog 31 #[v, .int .i64 m] w fun e w' => e = .returned (.bool (greatE n t m)) ∧ Below w.heap.size w w' := by
  intro n
  induction n with
  | zero => intro t v m w _ h; exact h.elim
  | succ n ih =>
    intro t v m w hm h
    obtain ⟨a, len, cap, rfl, hk, hs, hl, h6, hkids⟩ := rx_open h
    unfold maxLen at hl
    have HE := hide (show greatE (n + 1) t m = (decide (120 < (ks t).length) || (decide (m = 0) || (ks t).any (fun x => greatE n x (m - 1)))) from rfl)
    rw [h6] at HE
    generalize kd t = kk at *
    generalize st t = ss at *
    generalize ks t = l at *
    have HB0 := hide ((Below.refl w.heap.size w).alloc (Nat.le_refl _) (.cells #[.int .u8 kk, .int .u16 ss, .slice a len cap] 55))
    have HP := hide (box3 w (.int .u8 kk) (.int .u16 ss) (.slice a len cap) 55)
    have HK := hide hkids
    clear h hkids
    by_cases h120 : 120 < len
    · go_enter Tryz.func31, Tryz.ntmps31
      go_wp2
      go_ret
      exact ⟨ret_bool (by rw [HE.out]; simp [h120]), HB0.out⟩
    · by_cases hm0 : m = 0
      · subst hm0
        go_enter Tryz.func31, Tryz.ntmps31
        go_wp2
        go_ret
        exact ⟨ret_bool (by rw [HE.out]; simp), HB0.out⟩
      · have hne : ((m : Int) == 0) = false := by simp; omega
        obtain ⟨m1, hm1⟩ : ∃ m1, m - 1 = m1 := ⟨_, rfl⟩
        have hsub : (m : Int) - 1 = (m1 : Int) := by omega
        have HE2 := hide (show greatE (n + 1) t m = l.any (fun x => greatE n x m1) from by rw [HE.out, hm1]; simp [h120, hm0])
        have HM1 := hide (show m1 ≤ 100 by omega)
        clear HE hm1 hm0
        go_enter Tryz.func31, Tryz.ntmps31
        go_wp2_with fail
        obtain ⟨p0, p1, p2⟩ := HP.out
        clear HP
        generalize w.alloc (.cells #[.int .u8 kk, .int .u16 ss, .slice a len cap] 55) = W at *
        obtain ⟨q, hq⟩ : ∃ q, w.heap.size = q := ⟨_, rfl⟩
        rw [hq] at p0 p1 p2 HB0 ⊢
        have HQ := hide hq
        clear hq
        go_loopw [5] (fun u wr => ∃ (i : Nat), i ≤ len ∧ u = .int .i64 i ∧ (l.take i).any (fun x => greatE n x m1) = false ∧ Below W.heap.size W wr) (fun u _ => len - (intOf u).toNat)
        case atStart => exact ⟨0, Nat.zero_le _, rfl, rfl, Below.refl _ _⟩
        case round =>
          obtain ⟨i, hi, rfl, hd, hb⟩ := hrel
          have r2 := (hb.cell (p := ⟨q, 2, none⟩) (cell_lt p2)).trans p2
          have HD := hide hd
          clear hd
          by_cases hlt : i < len
          · obtain ⟨x, b, off, c0, c1, c2, rfl, hx, k0, k1, k2, k3⟩ := HK.out wr (by rw [HQ.out]; exact HB0.out.trans (hb.mono (HQ.out ▸ HB0.out.size))) i hlt
            have HN := hide (show (l.take (i + 1)).any (fun x => greatE n x m1) = ((l.take i).any (fun x => greatE n x m1) || greatE n x m1) from by rw [take_at hx, List.any_append]; simp)
            have HIN := hide (show greatE n x m1 = true → l.any (fun x => greatE n x m1) = true from fun g => List.any_eq_true.2 ⟨x, List.mem_of_getElem? hx, g⟩)
            have HK3 := hide k3
            have HBW := hide hb
            have i3 : (0 : Int) ≤ (i : Int) := by omega
            have i4 : (i : Int) < (len : Int) := by omega
            clear hx k3 hb
            generalize hg : greatE n x m1 = g at *
            have HG := hide hg
            clear hg
            go_wp2_with fail
            refine (ih x _ m1 wr HM1.out HK3.out).mono ?_
            rintro e w2 ⟨rfl, hb2⟩
            rw [HG.out]
            have HB2 := hide (HBW.out.trans (hb2.mono HBW.out.size))
            clear hb2
            cases g
            · go_wp2
              go_roundw
              case rel => exact ⟨i + 1, by omega, by go_num, by rw [HN.out, HD.out]; rfl, HB2.out⟩
              case measure => simp [intOf]; omega
            · have HB3 := hide (HB0.out.trans (HB2.out.mono (HQ.out ▸ HB0.out.size)))
              go_wp2
              go_ret
              exact ⟨ret_bool (by rw [HE2.out, HIN.out (by simp)]), by rw [HQ.out]; exact HB3.out⟩
          · have e : i = len := by omega
            subst e
            have HB2 := hide (HB0.out.trans (hb.mono (HQ.out ▸ HB0.out.size)))
            have HT := hide (show l.take i = l from List.take_of_length_le (by omega))
            go_wp2
            go_ret
            exact ⟨ret_bool (by rw [HE2.out, ← HD.out, HT.out]), by rw [HQ.out]; exact HB2.out⟩

/-- How many nodes, as far as 101. -/
def nodesE : (n : Nat) → Ex n → Nat
  | 0, _ => 0
  | n + 1, t => (ks t).foldl (fun a x => if a < 101 then a + nodesE n x else a) 1
theorem fold_nodes {α : Type} (f : α → Nat) (B : Nat) (h : ∀ x, f x ≤ B) : ∀ (l : List α) (a : Nat), a ≤ B + 100 → l.foldl (fun a x => if a < 101 then a + f x else a) a ≤ B + 100
  | [], _, ha => ha
  | x :: r, a, ha => fold_nodes f B h r _ (by have := h x; show (if a < 101 then a + f x else a) ≤ B + 100; split <;> omega)
theorem nodes_le : ∀ (n : Nat) (t : Ex n), nodesE n t ≤ 100 * n
  | 0, _ => Nat.le_refl _
  | n + 1, t => by
    have := fold_nodes (fun x => nodesE n x) (100 * n) (fun x => nodes_le n x) (ks t) 1 (by omega)
    show (ks t).foldl _ 1 ≤ _
    omega
theorem fold_full {α : Type} (f : α → Nat) : ∀ (l : List α) (a : Nat), ¬ a < 101 → l.foldl (fun a x => if a < 101 then a + f x else a) a = a
  | [], _, _ => rfl
  | x :: r, a, ha => by
    show r.foldl _ (if a < 101 then a + f x else a) = a
    rw [if_neg ha]; exact fold_full f r a ha

set_option maxHeartbeats 1600000 in
theorem rnodes_any : ∀ (n : Nat) (t : Ex n) (v : Value) (w : World), n ≤ 1000 → Rx w n t v →
    Calls Tryz.prog 39 #[v] w fun e w' => e = .returned (.int .i64 (nodesE n t : Nat)) ∧ Below w.heap.size w w' := by
  intro n
  induction n with
  | zero => intro t v w _ h; exact h.elim
  | succ n ih =>
    intro t v w hn h
    obtain ⟨a, len, cap, rfl, hk, hs, hl, h6, hkids⟩ := rx_open h
    unfold maxLen at hl
    have HE := hide (show nodesE (n + 1) t = (ks t).foldl (fun a x => if a < 101 then a + nodesE n x else a) 1 from rfl)
    have HL := hide (fun (l : List (Ex n)) => fold_nodes (fun x => nodesE n x) (100 * n) (fun x => nodes_le n x) l 1 (by omega))
    generalize kd t = kk at *
    generalize st t = ss at *
    generalize ks t = l at *
    have HB0 := hide ((Below.refl w.heap.size w).alloc (Nat.le_refl _) (.cells #[.int .u8 kk, .int .u16 ss, .slice a len cap] 55))
    have HP := hide (box3 w (.int .u8 kk) (.int .u16 ss) (.slice a len cap) 55)
    have HK := hide hkids
    clear h hkids
    go_enter Tryz.func39, Tryz.ntmps39
    go_wp2_with fail
    obtain ⟨p0, p1, p2⟩ := HP.out
    clear HP
    generalize w.alloc (.cells #[.int .u8 kk, .int .u16 ss, .slice a len cap] 55) = W at *
    obtain ⟨q, hq⟩ : ∃ q, w.heap.size = q := ⟨_, rfl⟩
    rw [hq] at p0 p1 p2 HB0 ⊢
    have HQ := hide hq
    clear hq
    go_loopw [3, 4] (fun s u wr => ∃ (i d : Nat), i ≤ len ∧ u = .int .i64 i ∧ s = .int .i64 d ∧ d = (l.take i).foldl (fun a x => if a < 101 then a + nodesE n x else a) 1 ∧ Below W.heap.size W wr) (fun _ u _ => len - (intOf u).toNat)
    case atStart => exact ⟨0, 1, Nat.zero_le _, rfl, rfl, rfl, Below.refl _ _⟩
    case round =>
      obtain ⟨i, d, hi, rfl, rfl, hd, hb⟩ := hrel
      have r2 := (hb.cell (p := ⟨q, 2, none⟩) (cell_lt p2)).trans p2
      have hle : d ≤ 100 * n + 100 := by rw [hd]; exact HL.out _
      have HD := hide hd
      clear hd
      have HB2 := hide (HB0.out.trans (hb.mono (HQ.out ▸ HB0.out.size)))
      by_cases hlt : i < len
      · by_cases h101 : d < 101
        · obtain ⟨x, b, off, c0, c1, c2, rfl, hx, k0, k1, k2, k3⟩ := HK.out wr (by rw [HQ.out]; exact HB2.out) i hlt
          have hdx := nodes_le n x
          have HN := hide (show (l.take (i + 1)).foldl (fun a x => if a < 101 then a + nodesE n x else a) 1 = d + nodesE n x from by rw [take_at hx, List.foldl_append, ← HD.out]; show (if d < 101 then d + nodesE n x else d) = _; rw [if_pos h101])
          have HK3 := hide k3
          have HBW := hide hb
          have i3 : (0 : Int) ≤ (i : Int) := by omega
          have i4 : (i : Int) < (len : Int) := by omega
          clear hx k3 hb
          generalize hdx0 : nodesE n x = dx at *
          have HDX := hide hdx0
          clear hdx0
          go_wp2_with fail
          refine (ih x _ wr (by omega) HK3.out).mono ?_
          rintro e w2 ⟨rfl, hb2⟩
          rw [HDX.out]
          have HB3 := hide (HBW.out.trans (hb2.mono HBW.out.size))
          clear hb2
          go_wp2
          go_roundw
          case rel => exact ⟨i + 1, d + dx, by omega, by go_num, by go_num, by rw [HN.out], HB3.out⟩
          case measure => simp [intOf]; omega
        · have HF := hide (show l.foldl (fun a x => if a < 101 then a + nodesE n x else a) 1 = d from by
            rw [← List.take_append_drop i l, List.foldl_append, ← HD.out]; exact fold_full _ _ _ h101)
          go_wp2
          go_ret
          exact ⟨by rw [HE.out, HF.out]; rfl, by rw [HQ.out]; exact HB2.out⟩
      · have e : i = len := by omega
        subst e
        have HT := hide (show l.take i = l from List.take_of_length_le (by omega))
        go_wp2
        go_ret
        exact ⟨by rw [HE.out]; rw [HT.out] at HD; rw [← HD.out]; rfl, by rw [HQ.out]; exact HB2.out⟩
end Go.Proofs.YtbbfjjjnifomgaaGreatDoor.A


