/- Expressions in memory. -/
import Derived.Test.YtldeofdjhpfdaaaRows
import Derived.WalkKit
import Derived.ProofKit
import Derived.Outline
import Derived.BigQuiet
import Derived.Deep.QuietTactic
import Derived.Below
namespace Go.Proofs.Ytldeofdjhpfdaaa.A
open Go.RowKit

theorem hide {p : Prop} (h : p) : Hid p := h
theorem below_drewN {B : Nat} {a w : World} (h : Below B a w) (n : Nat) : Below B a (w.drewN n) := ⟨h.os, h.tape, h.output, h.size, h.block⟩
theorem ret_int {k : IntKind} {a b : Int} (h : a = b) : Ending.returned (.int k a) = .returned (.int k b) := by rw [h]
theorem ret_bool {a b : Bool} (h : a = b) : Ending.returned (.bool a) = .returned (.bool b) := by rw [h]
theorem cell_lt {w : World} {a : Addr} {v : Value} (h : w.cell? a = some v) : a.block < w.heap.size := by
  rcases Nat.lt_or_ge a.block w.heap.size with h' | h'
  · exact h'
  · simp [World.cell?, Array.getElem?_eq_none h'] at h

/-- Expressions of at most so many levels: the kind, the set, the parts. -/
def Ex : Nat → Type | 0 => Unit | n + 1 => Nat × Nat × List (Ex n)
def kd {n : Nat} (t : Ex (n + 1)) : Nat := t.1
def st {n : Nat} (t : Ex (n + 1)) : Nat := t.2.1
def ks {n : Nat} (t : Ex (n + 1)) : List (Ex n) := t.2.2
/-- A value is an expression, by its memory. -/
def Rx (w : World) : (n : Nat) → Ex n → Value → Prop
  | 0, _, _ => False
  | n + 1, t, v => ∃ a len cap, v = .agg #[.int .u8 (kd t : Nat), .int .u16 (st t : Nat), .slice a len cap] ∧ kd t < 256 ∧ st t < 65536 ∧ len ≤ cap ∧ cap ≤ maxLen ∧ (ks t).length = len ∧
      (len = 0 ∨ ∃ b off, a = some ⟨b, off, none⟩ ∧ ∀ (i : Nat) (x : Ex n), (ks t)[i]? = some x → ∃ c0 c1 c2, w.cell? ⟨b, off + i * 3, none⟩ = some c0 ∧ w.cell? ⟨b, off + i * 3 + 1, none⟩ = some c1 ∧ w.cell? ⟨b, off + i * 3 + 2, none⟩ = some c2 ∧ Rx w n x (.agg #[c0, c1, c2]))
theorem rx_below {w w' : World} (hb : Below w.heap.size w w') : ∀ (n : Nat) (t : Ex n) (v : Value), Rx w n t v → Rx w' n t v
  | 0, _, _, h => h
  | n + 1, t, v, ⟨a, len, cap, h1, h2, h3, h4, h5, h6, h7⟩ => by
    refine ⟨a, len, cap, h1, h2, h3, h4, h5, h6, ?_⟩
    rcases h7 with h7 | ⟨b, off, e, h7⟩
    · exact .inl h7
    · refine .inr ⟨b, off, e, fun i x hx => ?_⟩
      obtain ⟨c0, c1, c2, p0, p1, p2, p3⟩ := h7 i x hx
      exact ⟨c0, c1, c2, (hb.cell (p := ⟨b, off + i * 3, none⟩) (cell_lt p0)).trans p0, (hb.cell (p := ⟨b, off + i * 3 + 1, none⟩) (cell_lt p1)).trans p1, (hb.cell (p := ⟨b, off + i * 3 + 2, none⟩) (cell_lt p2)).trans p2, rx_below hb n x _ p3⟩
theorem box3 (w : World) (u0 u1 u2 : Value) (t : TypeId) : (w.alloc (.cells #[u0, u1, u2] t)).cell? ⟨w.heap.size, 0, none⟩ = some u0 ∧ (w.alloc (.cells #[u0, u1, u2] t)).cell? ⟨w.heap.size, 1, none⟩ = some u1 ∧ (w.alloc (.cells #[u0, u1, u2] t)).cell? ⟨w.heap.size, 2, none⟩ = some u2 := by
  refine ⟨?_, ?_, ?_⟩ <;> simp
/-- What an expression's rounds read of its parts, in every world behind. -/
def Kids (w : World) (n : Nat) (a : Option Addr) (len : Nat) (l : List (Ex n)) : Prop :=
  ∀ W, Below w.heap.size w W → ∀ i, i < len → ∃ x b off c0 c1 c2, a = some ⟨b, off, none⟩ ∧ l[i]? = some x ∧ W.cell? ⟨b, off + i * 3, none⟩ = some c0 ∧ W.cell? ⟨b, off + i * 3 + 1, none⟩ = some c1 ∧ W.cell? ⟨b, off + i * 3 + 2, none⟩ = some c2 ∧ Rx W n x (.agg #[c0, c1, c2])
theorem rx_open {w : World} {n : Nat} {t : Ex (n + 1)} {v : Value} (h : Rx w (n + 1) t v) : ∃ a len cap, v = .agg #[.int .u8 (kd t : Nat), .int .u16 (st t : Nat), .slice a len cap] ∧ kd t < 256 ∧ st t < 65536 ∧ len ≤ maxLen ∧ (ks t).length = len ∧ Kids w n a len (ks t) := by
  obtain ⟨a, len, cap, h1, h2, h3, h4, h5, h6, h7⟩ := h
  refine ⟨a, len, cap, h1, h2, h3, Nat.le_trans h4 h5, h6, fun W hb i hi => ?_⟩
  rcases h7 with h7 | ⟨b, off, e, h7⟩
  · omega
  · have hx : (ks t)[i]? = some (ks t)[i] := by simp
    obtain ⟨c0, c1, c2, p0, p1, p2, p3⟩ := h7 i _ hx
    exact ⟨_, b, off, c0, c1, c2, e, hx, (hb.cell (p := ⟨b, off + i * 3, none⟩) (cell_lt p0)).trans p0, (hb.cell (p := ⟨b, off + i * 3 + 1, none⟩) (cell_lt p1)).trans p1, (hb.cell (p := ⟨b, off + i * 3 + 2, none⟩) (cell_lt p2)).trans p2, rx_below hb n _ _ p3⟩
theorem take_at {α : Type} {l : List α} {i : Nat} {x : α} (h : l[i]? = some x) : l.take (i + 1) = l.take i ++ [x] := by
  obtain ⟨hi, e⟩ := List.getElem?_eq_some_iff.1 h
  rw [List.take_succ_eq_append_getElem hi, e]

/-- How deep, as far as a bound. -/
def deepE : (n : Nat) → Ex n → Nat → Nat
  | 0, _, _ => 0
  | _ + 1, _, 0 => 1
  | n + 1, t, m + 1 => ((ks t).foldl (fun a x => max a (deepE n x m)) 0) + 1
theorem fold_max {α : Type} (f : α → Nat) (B : Nat) (h : ∀ x, f x ≤ B) : ∀ (l : List α) (a : Nat), a ≤ B → l.foldl (fun a x => max a (f x)) a ≤ B
  | [], _, ha => ha
  | x :: r, _, ha => fold_max f B h r _ (Nat.max_le.2 ⟨ha, h x⟩)
theorem deep_le : ∀ (n : Nat) (t : Ex n) (m : Nat), deepE n t m ≤ m + 1
  | 0, _, _ => Nat.zero_le _
  | _ + 1, _, 0 => Nat.le_refl _
  | n + 1, t, m + 1 => by
    show (ks t).foldl _ 0 + 1 ≤ _
    have := fold_max (fun x => deepE n x m) (m + 1) (fun x => deep_le n x m) (ks t) 0 (by omega)
    omega

set_option maxHeartbeats 1600000 in
theorem rdeep_any : ∀ (n : Nat) (t : Ex n) (v : Value) (m : Nat) (w : World), m ≤ 100 → Rx w n t v →
    Calls Try.prog 45 #[v, .int .i64 m] w fun e w' => e = .returned (.int .i64 (deepE n t m : Nat)) ∧ Below w.heap.size w w' := by
  intro n
  induction n with
  | zero => intro t v m w _ h; exact h.elim
  | succ n ih =>
    intro t v m w hm h
    obtain ⟨a, len, cap, rfl, hk, hs, hl, h6, hkids⟩ := rx_open h
    unfold maxLen at hl
    generalize kd t = kk at *
    generalize st t = ss at *
    have HB0 := hide ((Below.refl w.heap.size w).alloc (Nat.le_refl _) (.cells #[.int .u8 kk, .int .u16 ss, .slice a len cap] 51))
    have HP := hide (box3 w (.int .u8 kk) (.int .u16 ss) (.slice a len cap) 51)
    have HK := hide hkids
    clear h hkids
    cases m with
    | zero =>
      go_enter Try.func45, Try.ntmps45
      go_wp2
      go_ret
      exact ⟨rfl, HB0.out⟩
    | succ m =>
      obtain ⟨M, hM⟩ : ∃ M, m + 1 = M := ⟨_, rfl⟩
      have hne : ((M : Int) == 0) = false := by simp; omega
      have hsub : (M : Int) - 1 = (m : Int) := by omega
      have hM2 : M ≤ 100 := by omega
      have HE := hide (show deepE (n + 1) t (m + 1) = ((ks t).foldl (fun a x => max a (deepE n x m)) 0) + 1 from rfl)
      have HL := hide (fun (l : List (Ex n)) => fold_max (fun x => deepE n x m) (m + 1) (fun x => deep_le n x m) l 0 (by omega))
      generalize ks t = l at *
      rw [hM] at HE HL ⊢
      have HM := hide hM
      clear hM hm
      go_enter Try.func45, Try.ntmps45
      go_wp2_with fail
      obtain ⟨p0, p1, p2⟩ := HP.out
      clear HP
      generalize w.alloc (.cells #[.int .u8 kk, .int .u16 ss, .slice a len cap] 51) = W at *
      obtain ⟨q, hq⟩ : ∃ q, w.heap.size = q := ⟨_, rfl⟩
      rw [hq] at p0 p1 p2 HB0 ⊢
      have HQ := hide hq
      clear hq
      go_loopw [5, 6] (fun s u wr => ∃ (i : Nat) (d : Nat), i ≤ len ∧ u = .int .i64 i ∧ s = .int .i64 d ∧ d = (l.take i).foldl (fun a x => max a (deepE n x m)) 0 ∧ Below W.heap.size W wr) (fun _ u _ => len - (intOf u).toNat)
      case atStart => exact ⟨0, 0, Nat.zero_le _, rfl, rfl, rfl, Below.refl _ _⟩
      case round =>
        obtain ⟨i, d, hi, rfl, rfl, hd, hb⟩ := hrel
        have r2 := (hb.cell (p := ⟨q, 2, none⟩) (cell_lt p2)).trans p2
        have hle : d ≤ M := by rw [hd]; exact HL.out _
        have HD := hide hd
        clear hd
        by_cases hlt : i < len
        · obtain ⟨x, b, off, c0, c1, c2, rfl, hx, k0, k1, k2, k3⟩ := HK.out wr (by rw [HQ.out]; exact HB0.out.trans (hb.mono (HQ.out ▸ HB0.out.size))) i hlt
          have htk := take_at hx
          have hdx : deepE n x m ≤ M := by rw [← HM.out]; exact deep_le n x m
          have HN := hide (show (l.take (i + 1)).foldl (fun a x => max a (deepE n x m)) 0 = max d (deepE n x m) from by rw [htk, List.foldl_append, ← HD.out]; rfl)
          have HK3 := hide k3
          have HBW := hide hb
          have i3 : (0 : Int) ≤ (i : Int) := by omega
          have i4 : (i : Int) < (len : Int) := by omega
          clear htk hx k3 hb
          generalize hdx0 : deepE n x m = dx at *
          have HDX := hide hdx0
          clear hdx0
          go_wp2_with fail
          refine (ih x _ m wr (by have := HM.out; omega) HK3.out).mono ?_
          rintro e w2 ⟨rfl, hb2⟩
          rw [HDX.out]
          have HB2 := hide (HBW.out.trans (hb2.mono HBW.out.size))
          clear hb2
          by_cases hgt : d < dx
          · have hgt' : (d : Int) < (dx : Int) := by omega
            go_wp2
            go_roundw
            case rel => exact ⟨i + 1, dx, by omega, by go_num, rfl, by rw [HN.out]; omega, HB2.out⟩
            case measure => simp [intOf]; omega
          · have hgt' : ¬ (d : Int) < (dx : Int) := by omega
            go_wp2
            go_roundw
            case rel => exact ⟨i + 1, d, by omega, by go_num, rfl, by rw [HN.out]; omega, HB2.out⟩
            case measure => simp [intOf]; omega
        · have e : i = len := by omega
          subst e
          have HB2 := hide (HB0.out.trans (hb.mono (HQ.out ▸ HB0.out.size)))
          have HT := hide (show l.take i = l from List.take_of_length_le (by omega))
          go_wp2
          go_ret
          refine ⟨?_, by rw [HQ.out]; exact HB2.out⟩
          rw [HE.out, ← (show (l.take i).foldl (fun a x => max a (deepE n x m)) 0 = l.foldl (fun a x => max a (deepE n x m)) 0 from by rw [HT.out]), ← HD.out]
          exact ret_int (by omega)
end Go.Proofs.Ytldeofdjhpfdaaa.A
