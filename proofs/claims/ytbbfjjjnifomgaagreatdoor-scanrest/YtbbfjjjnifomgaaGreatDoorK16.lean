/- The program's Build: expressions that may not be. -/
import Derived.WalkKit
import Derived.ProofKit
import Derived.Outline
import Derived.BigQuiet
import Derived.Deep.QuietTactic
import Derived.Below
import Derived.Deep.RegionHeld3
import Derived.OpenShut
import Derived.Deep.Slices
import Derived.Deep.Strs
import Derived.Deep.OwnRows
import Derived.Deep.WholeRow
import Derived.Deep.AppendSrc
import Derived.Deep.Heap
import Derived.Laws.AppendOwnNone
import Derived.Deep.AppendLies
import Derived.Deep.RegionLaw
import Derived.Test.YtbbfjjjnifomgaaGreatDoorK1
import Derived.Test.YtbbfjjjnifomgaaGreatDoorK2
import Derived.Test.YtbbfjjjnifomgaaGreatDoorK3
import Derived.Test.YtbbfjjjnifomgaaGreatDoorK5
import Derived.Test.YtbbfjjjnifomgaaGreatDoorK6
import Derived.Test.YtbbfjjjnifomgaaGreatDoorK7
import Derived.Test.YtbbfjjjnifomgaaGreatDoorK8
import Derived.Test.YtbbfjjjnifomgaaGreatDoorK9
import Derived.Test.YtbbfjjjnifomgaaGreatDoorK10
import Derived.Test.YtbbfjjjnifomgaaGreatDoorK11
import Derived.Test.YtbbfjjjnifomgaaGreatDoorK12
import Derived.Test.YtbbfjjjnifomgaaGreatDoorK13
import Derived.Test.YtbbfjjjnifomgaaGreatDoorK14
import Derived.Test.YtbbfjjjnifomgaaGreatDoorK15
namespace Go.Proofs.YtbbfjjjnifomgaaGreatDoor.A
open Go.RowKit

set_option maxHeartbeats 800000 in
theorem wrong_any (n : Nat) (x : Ex n) (v : Value) (w : World) (h : Rx w n x v) : Calls Tryz.prog 121 #[v] w fun e w' => e = .returned (.bool (!rightE n x)) ∧ Below w.heap.size w w' := by
  obtain ⟨c0, c1, c2, rfl⟩ := rx_form h
  have HB0 := hide ((Below.refl w.heap.size w).alloc (Nat.le_refl _) (.cells #[c0, c1, c2] 55))
  have HC := hide (right_any n x _ _ (rx_below HB0.out n x _ h))
  clear h
  go_enter Tryz.func121, Tryz.ntmps121
  go_wp2_with fail
  refine HC.out.mono ?_
  rintro e w1 ⟨rfl, hb1⟩
  have HB1 := hide (HB0.out.trans (hb1.mono HB0.out.size))
  clear hb1 HC
  go_wp2
  go_ret
  exact ⟨rfl, HB1.out⟩
set_option maxHeartbeats 1600000 in
theorem indexR_any (n : Nat) (a : Option Addr) (len cap : Nat) (l : List (Ex n)) (w : World) (hl : len ≤ maxLen) (h6 : l.length = len) (hkids : Kids w n a len l) :
    Calls Tryz.prog 132 #[.slice a len cap, .func (.func 121) #[] #[]] w fun e w' => ∃ z : Int, e = .returned (.int .i64 z) ∧ decide (0 ≤ z) = l.any (fun x => !rightE n x) ∧ Below w.heap.size w w' := by
  unfold maxLen at hl
  have HK := hide hkids
  have HL := hide h6
  clear hkids h6
  go_enter Tryz.func132, Tryz.ntmps132
  go_wp2_with fail
  go_loopw [5, 8] (fun _ u wr => ∃ i : Nat, i ≤ len ∧ u = .int .i64 i ∧ (l.take i).any (fun x => !rightE n x) = false ∧ Below w.heap.size w wr) (fun _ u _ => len - (intOf u).toNat)
  case atStart => exact ⟨0, Nat.zero_le _, rfl, rfl, Below.refl _ _⟩
  case round =>
    obtain ⟨i, hi, rfl, hd, hb⟩ := hrel
    have HD := hide hd
    have HBW := hide hb
    clear hd
    by_cases hlt : i < len
    · obtain ⟨x, b, off, c0, c1, c2, rfl, hx, k0, k1, k2, k3⟩ := HK.out wr hb i hlt
      have HN := hide (show (l.take (i + 1)).any (fun x => !rightE n x) = !rightE n x from by rw [take_at hx, List.any_append, HD.out]; simp)
      have HIN := hide (show (!rightE n x) = true → l.any (fun x => !rightE n x) = true from fun g => List.any_eq_true.2 ⟨x, List.mem_of_getElem? hx, g⟩)
      have HK3 := hide k3
      have i3 : (0 : Int) ≤ (i : Int) := by omega
      have i4 : (i : Int) < (len : Int) := by omega
      clear hx k3 hb
      go_wp2_with fail
      refine (wrong_any n x _ wr HK3.out).mono ?_
      rintro e w2 ⟨rfl, hb2⟩
      have HB2 := hide (HBW.out.trans (hb2.mono HBW.out.size))
      clear hb2
      cases hf : (!rightE n x)
      · have HF := hide hf
        clear hf
        go_wp2
        go_roundw
        case rel => exact ⟨i + 1, by omega, by go_num, by rw [HN.out, HF.out], HB2.out⟩
        case measure => simp [intOf]; omega
      · have HF := hide hf
        clear hf
        go_wp2
        go_ret
        exact ⟨(i : Int), rfl, by rw [HIN.out HF.out]; simp, HB2.out⟩
    · have e : i = len := by omega
      subst e
      have HT := hide (show l.take i = l from List.take_of_length_le (by have := HL.out; omega))
      clear hb
      go_wp2
      go_ret
      exact ⟨-1, rfl, by rw [← HT.out, HD.out]; rfl, HBW.out⟩
set_option maxHeartbeats 800000 in
theorem containsR_any (n : Nat) (a : Option Addr) (len cap : Nat) (l : List (Ex n)) (w : World) (hl : len ≤ maxLen) (h6 : l.length = len) (hkids : Kids w n a len l) :
    Calls Tryz.prog 107 #[.slice a len cap, .func (.func 121) #[] #[]] w fun e w' => e = .returned (.bool (l.any (fun x => !rightE n x))) ∧ Below w.heap.size w w' := by
  have HC := hide (indexR_any n a len cap l w hl h6 hkids)
  clear hkids h6
  go_enter Tryz.func107, Tryz.ntmps107
  go_wp2_with fail
  refine HC.out.mono ?_
  rintro e w2 ⟨z, rfl, hz, hb2⟩
  have HB := hide hb2
  clear hb2 HC
  cases hg : l.any (fun x => !rightE n x)
  · have hz' : decide (0 ≤ z) = false := hz.trans hg
    have HG := hide hg
    clear hg hz
    go_wp2
    go_ret
    exact ⟨by rw [HG.out]; rfl, HB.out⟩
  · have hz' : decide (0 ≤ z) = true := hz.trans hg
    have HG := hide hg
    clear hg hz
    go_wp2
    go_ret
    exact ⟨by rw [HG.out]; rfl, HB.out⟩
/-- May there be a machine of expressions? -/
def mayB {n : Nat} (l : List (Ex n)) : Bool := decide (1 ≤ l.length) && (decide (l.length ≤ 16) && l.all (fun x => rightE n x))
theorem kids_below {w w' : World} {n : Nat} {a : Option Addr} {len : Nat} {l : List (Ex n)} (hb : Below w.heap.size w w') (h : Kids w n a len l) : Kids w' n a len l := fun V hV => h V (hb.trans (hV.mono hb.size))
theorem nil4 (w : World) : ((w.alloc (.cells #[.slice none 0 0, .slice none 0 0, .slice none 0 0, .slice none 0 0] 97)).heap[w.heap.size]? = some (.cells #[.slice none 0 0, .slice none 0 0, .slice none 0 0, .slice none 0 0] 97 (0, 0))) := heap_alloc_last w _
theorem blk29 {w : World} {g : Nat} {x y z u : Value} (h : w.heap[g]? = some (.cells #[x, y, z, u] 97 (0, 0))) : (w.cell? ⟨g, 0, none⟩ = some x ∧ w.cell? ⟨g, 1, none⟩ = some y ∧ w.cell? ⟨g, 2, none⟩ = some z ∧ w.cell? ⟨g, 3, none⟩ = some u) ∧ ∀ i, w.frozen? ⟨g, i, none⟩ = false := by
  refine ⟨⟨?_, ?_, ?_, ?_⟩, fun i => ?_⟩
  · rw [cell_of_row _ _ _ _ _ _ h]; rfl
  · rw [cell_of_row _ _ _ _ _ _ h]; rfl
  · rw [cell_of_row _ _ _ _ _ _ h]; rfl
  · rw [cell_of_row _ _ _ _ _ _ h]; rfl
  · simp [World.frozen?, h]
theorem set4 {w : World} {g : Nat} {t : TypeId} {x y z u : Value} {c0 c1 c2 c3 : Value} (h : w.heap[g]? = some (.cells #[c0, c1, c2, c3] t (0, 0))) : ((((w.setCell ⟨g, 0, none⟩ x).setCell ⟨g, 1, none⟩ y).setCell ⟨g, 2, none⟩ z).setCell ⟨g, 3, none⟩ u).heap[g]? = some (.cells #[x, y, z, u] t (0, 0)) := blk_set (blk_set (blk_set (blk_set h 0 x) 1 y) 2 z) 3 u
theorem below_set4 {B : Nat} {w w' : World} {g : Nat} {x y z u : Value} (h : Below B w w') (hg : B ≤ g) : Below B w ((((w'.setCell ⟨g, 0, none⟩ x).setCell ⟨g, 1, none⟩ y).setCell ⟨g, 2, none⟩ z).setCell ⟨g, 3, none⟩ u) := (((h.setCell (p := ⟨g, 0, none⟩) hg x).setCell (p := ⟨g, 1, none⟩) hg y).setCell (p := ⟨g, 2, none⟩) hg z).setCell (p := ⟨g, 3, none⟩) hg u

end Go.Proofs.YtbbfjjjnifomgaaGreatDoor.A

/- The program's Build: the machine of expressions. -/
namespace Go.Proofs.YtbbfjjjnifomgaaGreatDoor.A
open Go.RowKit

/-- The steps of the first expressions. -/
def FB {n : Nat} (l : List (Ex n)) (k i j : Nat) : Prop := ∃ p ∈ (layE 1 l).take k, (i = 0 ∧ j = p.1) ∨ Fr n p.2 p.1 i j
def SB {n : Nat} (l : List (Ex n)) (k i u j : Nat) : Prop := ∃ p ∈ (layE 1 l).take k, Sp n p.2 p.1 i u j
/-- The rules of the first expressions. -/
def RsI {n : Nat} (l : List (Ex n)) (k : Nat) (rs : List Int) : Prop := ∀ (i : Nat) (r : Int), rs[i]? = some r → (∃ (m : Nat) (p : Nat × Ex n), m < k ∧ (layE 1 l)[m]? = some p ∧ i = en p ∧ r = (m : Int)) ∨ ((∀ (m : Nat) (p : Nat × Ex n), m < k → (layE 1 l)[m]? = some p → i ≠ en p) ∧ r = -1)
section
variable {n : Nat} {l : List (Ex n)} {k : Nat} {x : Ex n}
theorem fb_rng (hf : ∀ x ∈ l, full n x) (hk : k ≤ l.length) (i j : Nat) (h : FB l k i j) : i < posE 1 l k ∧ j < posE 1 l k := by
  obtain ⟨p, hp, h⟩ := h
  obtain ⟨a1, a2, a3, a4⟩ := take_rng hf hk hp
  rcases h with ⟨rfl, rfl⟩ | h
  · omega
  · have := fr_rng n p.2 p.1 i j a3 h; omega
theorem sb_rng (hf : ∀ x ∈ l, full n x) (hk : k ≤ l.length) (i u j : Nat) (h : SB l k i u j) : i < posE 1 l k := by
  obtain ⟨p, hp, h⟩ := h
  obtain ⟨a1, a2, a3, a4⟩ := take_rng hf hk hp
  have := sp_rng n p.2 p.1 i u j a3 h; omega
theorem fb_next (hx : l[k]? = some x) (i j : Nat) : ((FB l k i j ∨ Fr n x (posE 1 l k) i j) ∨ (i = 0 ∧ j = posE 1 l k)) ↔ FB l (k + 1) i j := by
  unfold FB
  rw [take_at (lay_at l 1 k x hx)]
  constructor
  · rintro ((⟨p, hp, h⟩ | h) | h)
    · exact ⟨p, by simp [hp], h⟩
    · exact ⟨(posE 1 l k, x), by simp, .inr h⟩
    · exact ⟨(posE 1 l k, x), by simp, .inl h⟩
  · rintro ⟨p, hp, h⟩
    rcases List.mem_append.1 hp with hp | hp
    · exact .inl (.inl ⟨p, hp, h⟩)
    · rw [List.mem_singleton] at hp; subst hp
      rcases h with h | h
      · exact .inr h
      · exact .inl (.inr h)
theorem sb_next (hx : l[k]? = some x) (i u j : Nat) : (SB l k i u j ∨ Sp n x (posE 1 l k) i u j) ↔ SB l (k + 1) i u j := by
  unfold SB
  rw [take_at (lay_at l 1 k x hx)]
  constructor
  · rintro (⟨p, hp, h⟩ | h)
    · exact ⟨p, by simp [hp], h⟩
    · exact ⟨(posE 1 l k, x), by simp, h⟩
  · rintro ⟨p, hp, h⟩
    rcases List.mem_append.1 hp with hp | hp
    · exact .inl ⟨p, hp, h⟩
    · rw [List.mem_singleton] at hp; subst hp; exact .inr h
/-- No step leaves the first state for one that isn't ahead. -/
theorem fb_first (hf : ∀ x ∈ l, full n x) (hx : l[k]? = some x) (hfx : full n x) (j : Nat) (h : FB l k 0 j ∨ Fr n x (posE 1 l k) 0 j) : j < posE 1 l k := by
  have hk : k ≤ l.length := by have := (List.getElem?_eq_some_iff.1 hx).1; omega
  rcases h with h | h
  · exact (fb_rng hf hk 0 j h).2
  · have := fr_rng n x _ 0 j hfx h
    unfold posE at this; omega
theorem rs_zero : RsI l 0 [-1] := fun i r h => .inr ⟨fun m p hm => absurd hm (by omega), by
  match i with
  | 0 => simpa using h.symm
  | i + 1 => simp at h⟩
theorem rs_next {rs : List Int} (hf : ∀ x ∈ l, full n x) (hl : rs.length = posE 1 l k) (h : RsI l k rs) (hx : l[k]? = some x) : RsI l (k + 1) ((rs ++ List.replicate (2 * realN n x) (-1)).set (posE 1 l k + 2 * realN n x - 1) (k : Int)) := by
  have hk : k < l.length := (List.getElem?_eq_some_iff.1 hx).1
  have hfx := hf x (List.mem_of_getElem? hx)
  have hr := real_pos hfx
  have lk := lay_at l 1 k x hx
  have hen : en (posE 1 l k, x) = posE 1 l k + 2 * realN n x - 1 := rfl
  have old : ∀ (m : Nat) (p : Nat × Ex n), m < k → (layE 1 l)[m]? = some p → en p < posE 1 l k := fun m p hm hp => by
    have hml : m < l.length := by omega
    have e := lay_at l 1 m _ (List.getElem?_eq_getElem hml)
    rw [hp] at e
    obtain rfl : p = (posE 1 l m, l[m]) := Option.some.inj e
    have h1 := pos_next (s := 1) (List.getElem?_eq_getElem hml)
    have h2 := pos_mono (l := l) (s := 1) k (m + 1) (by omega) (by omega)
    have h3 := real_pos (hf _ (List.getElem_mem hml))
    show posE 1 l m + 2 * realN n l[m] - 1 < posE 1 l k
    omega
  intro i r hi
  by_cases e : i = posE 1 l k + 2 * realN n x - 1
  · rw [e, List.getElem?_set_self (by simp; omega)] at hi
    cases hi
    exact .inl ⟨k, _, by omega, lk, by rw [hen]; exact e, rfl⟩
  · rw [List.getElem?_set_ne (Ne.symm e)] at hi
    by_cases c : i < rs.length
    · rw [List.getElem?_append_left c] at hi
      rcases h i r hi with ⟨m, p, hm, hp, h1, h2⟩ | ⟨h1, h2⟩
      · exact .inl ⟨m, p, by omega, hp, h1, h2⟩
      · refine .inr ⟨fun m p hm hp => ?_, h2⟩
        by_cases q : m = k
        · subst q; rw [lk] at hp; cases hp; rw [hen]; exact e
        · exact h1 m p (by omega) hp
    · rw [List.getElem?_append_right (by omega)] at hi
      have hr' : r = -1 := by
        have := List.mem_of_getElem? hi
        exact List.eq_of_mem_replicate this
      refine .inr ⟨fun m p hm hp => ?_, hr'⟩
      by_cases q : m = k
      · subst q; rw [lk] at hp; cases hp; rw [hen]; exact e
      · have := old m p (by omega) hp; omega
theorem fb_all (i j : Nat) : FB l l.length i j ↔ FrA l i j := by
  unfold FB FrA; rw [List.take_of_length_le (by rw [lay_len]; omega)]
theorem sb_all (i u j : Nat) : SB l l.length i u j ↔ SpA l i u j := by
  unfold SB SpA; rw [List.take_of_length_le (by rw [lay_len]; omega)]
end
/-- A row of sets that one owns, as it is read. -/
theorem own_sts {w : World} {base : Nat} {v : Value} {l : List Nat} (h : w.ownsRow base 53 1 v l.length (l.map fun (s : Nat) => Value.int .u16 (s : Int))) (hs : ∀ s ∈ l, s < 65536) : ∃ a cap, v = .slice a l.length cap ∧ Sts w a l := by
  obtain ⟨_, ⟨rfl, h0⟩ | ⟨g, cap, cur, rfl, hb, hg, r⟩⟩ := id h
  · exact ⟨none, 0, by rw [h0], fun i s hi => by have := (List.getElem?_eq_some_iff.1 hi).1; omega⟩
  · refine ⟨_, cap, rfl, fun i s hi => ⟨g, 0, rfl, ?_, hs s (List.mem_of_getElem? hi)⟩⟩
    rw [Nat.zero_add, h.cellAt i (by have := (List.getElem?_eq_some_iff.1 hi).1; omega), List.getElem?_map, hi]; rfl
theorem own_fs {w : World} {base : Nat} {v : Value} {vf : List Value} {ff : List (List Int)} (h : w.ownsRow base 23 1 v vf.length vf) (hl : vf.length = ff.length) (hr : ∀ (i : Nat) (v : Value) (l : List Int), vf[i]? = some v → ff[i]? = some l → w.ownsRow base 3 1 v l.length (l.map (Value.int .i64))) : ∃ a cap, v = .slice a ff.length cap ∧ Fs w a ff := by
  obtain ⟨_, ⟨rfl, h0⟩ | ⟨g, cap, cur, rfl, hb, hg, r⟩⟩ := id h
  · exact ⟨none, 0, by rw [← hl, h0], fun i s hi => by have := (List.getElem?_eq_some_iff.1 hi).1; omega⟩
  · refine ⟨_, cap, by rw [hl], fun i l hi => ?_⟩
    have hlt := (List.getElem?_eq_some_iff.1 hi).1
    have hv : vf[i]? = some vf[i] := List.getElem?_eq_getElem (by omega)
    obtain ⟨a', c', e, hw⟩ := own_slice (hr i _ l hv hi)
    refine ⟨g, 0, a', c', rfl, ?_, hw⟩
    rw [Nat.zero_add, h.cellAt i (by omega), hv, e]
end Go.Proofs.YtbbfjjjnifomgaaGreatDoor.A

/- The program's Build: the machine of expressions, walked. -/
namespace Go.Proofs.YtbbfjjjnifomgaaGreatDoor.A
open Go.RowKit

theorem sp_small {w : World} : ∀ (n : Nat) (t : Ex n) (v : Value) (b i s j : Nat), Rx w n t v → Sp n t b i s j → s < 65536
  | 0, _, _, _, _, _, _, h, _ => h.elim
  | n + 1, t, v, b, i, s, j, ⟨a, len, cap, h1, h2, h3, h4, h5, h6, h7⟩, hs => by
    rcases hs with ⟨_, _, rfl, _⟩ | ⟨p, hp, hs⟩
    · exact h3
    · obtain ⟨_, _, hm⟩ := lay_rng _ _ _ hp
      obtain ⟨k, hk, e⟩ := List.getElem_of_mem hm
      rcases h7 with h7 | ⟨b', off, _, h7⟩
      · omega
      · obtain ⟨c0, c1, c2, _, _, _, r⟩ := h7 k p.2 (by rw [List.getElem?_eq_getElem hk, e])
        exact sp_small n p.2 _ _ i s j r hs
theorem sum_le {n : Nat} : ∀ (l : List (Ex n)), (∀ x ∈ l, realN n x ≤ 100) → (l.map (fun x => realN n x)).sum ≤ 100 * l.length
  | [], _ => by simp
  | x :: r, h => by
    have h1 := h x (by simp)
    have h2 := sum_le r (fun y hy => h y (by simp [hy]))
    rw [List.map_cons, List.sum_cons, List.length_cons]
    omega
theorem bm_zero (w : World) (base : Nat) (hb : base ≤ w.heap.size) : Bm (w.alloc (.cells #[.slice none 0 0, .slice none 0 0, .slice none 0 0, .slice none 0 0] 178)) base w.heap.size (fun _ _ => False) (fun _ _ _ => False) 0 [] :=
  ⟨[], [], [], ⟨_, _, _, _, [], heap_alloc_last w _, hb, World.ownsRow_nil _ _ _ _, World.ownsRow_nil _ _ _ _, World.ownsRow_nil _ _ _ _, World.ownsRow_nil _ _ _ _, rfl, fun i v l h => by simp at h, by simp [List.pairwise_cons, ap_nil]⟩, ⟨rfl, rfl, rfl, fun i l h => by simp at h, fun i l h => by simp at h, fun i s t h => by simp at h⟩, rfl⟩
theorem far29 {w : World} {base g : Nat} {cs : Array Value} (h : w.heap[g]? = some (.cells cs 97 (0, 0))) : Far w base g := .inr ⟨cs, 97, _, h, by decide, by decide, by decide, by decide⟩
theorem kb29 {base : Nat} {w w' : World} {g : Nat} {cs : Array Value} (hk : Kb base w w') (h : w.heap[g]? = some (.cells cs 97 (0, 0))) : w'.heap[g]? = some (.cells cs 97 (0, 0)) := (hk.block g (Array.getElem?_eq_some_iff.1 h).1 (far29 h)).trans h
theorem bv_move {w w' : World} {base q : Nat} {v0 v1 v2 v3 : Value} {vf : List Value} {ff : List (List Int)} {ss : List Nat} {ts rs : List Int} {g : Nat} {cs : Array Value} {fr : Nat × Nat} (h : Bv w base q v0 v1 v2 v3 vf ff ss ts rs) (hg : w.heap[g]? = some (.cells cs 97 fr)) (hk : ∀ k, k < w.heap.size → k ≠ g → w'.heap[k]? = w.heap[k]?) : Bv w' base q v0 v1 v2 v3 vf ff ss ts rs := by
  have mv : ∀ {e : TypeId} {v : Value} {n : Nat} {xs : List Value}, w.ownsRow base e 1 v n xs → e ≠ 97 → w'.ownsRow base e 1 v n xs := fun hv he => own_move hv (fun k hk' => hk k (own_type hv hk').2.1 (fun e => own_not hv hg he (by rw [hk', e])))
  have hq : q < w.heap.size := (Array.getElem?_eq_some_iff.1 h.blk).1
  exact ⟨(hk q hq (fun e => by subst e; have := h.blk; rw [hg] at this; cases this)).trans h.blk, h.low, mv h.o0 (by decide), mv h.o1 (by decide), mv h.o2 (by decide), mv h.o3 (by decide), h.len, fun i v l a b => mv (h.rows i v l a b) (by decide), h.ap⟩
/-- A builder's rows, as a machine that is read. -/
theorem bv_nm {w : World} {base q : Nat} {v0 v1 v2 v3 : Value} {vf : List Value} {ff : List (List Int)} {ss : List Nat} {ts rs : List Int} (h : Bv w base q v0 v1 v2 v3 vf ff ss ts rs) (hs : ∀ s ∈ ss, s < 65536) (hlen : ∀ (i : Nat) (l : List Int), ff[i]? = some l → l.length ≤ maxLen) :
    ∃ a0 a1 a2 a3 c0 c1 c2 c3, v0 = .slice a0 ff.length c0 ∧ v1 = .slice a1 ss.length c1 ∧ v2 = .slice a2 ts.length c2 ∧ v3 = .slice a3 rs.length c3 ∧ Nm w a0 a1 a2 a3 ff ss ts rs := by
  obtain ⟨a0, c0, e0, h0⟩ := own_fs h.o0 h.len h.rows
  obtain ⟨a1, c1, e1, h1⟩ := own_sts h.o1 hs
  obtain ⟨a2, c2, e2, h2⟩ := own_slice h.o2
  obtain ⟨a3, c3, e3, h3⟩ := own_slice h.o3
  exact ⟨a0, a1, a2, a3, c0, c1, c2, c3, e0, e1, e2, e3, hlen, h0, h1, h2, h3⟩

set_option maxRecDepth 100000 in
set_option maxHeartbeats 6400000 in
theorem build_yes (n : Nat) (a : Option Addr) (len cap : Nat) (l : List (Ex n)) (w : World) (hl : len ≤ maxLen) (h6 : l.length = len) (hkids : Kids w n a len l) (hyes : mayB l = true) :
    Calls Tryz.prog 97 #[.slice a len cap] w fun e w' => ∃ a0 a1 a2 a3 N c0 c1 c2 c3 fs ss ts rs, e = .returned (.tuple #[.agg #[.slice a0 N c0, .slice a1 N c1, .slice a2 N c2, .slice a3 N c3], .int .i64 0]) ∧ Nm w' a0 a1 a2 a3 fs ss ts rs ∧ Is (FrA l) (SpA l) N fs ss ts ∧ RsI l len rs ∧ rs.length = N ∧ N = posE 1 l len ∧ N ≤ 3300 ∧ Below w.heap.size w w' := by
  obtain ⟨hl1, hl2, hall⟩ : 1 ≤ len ∧ len ≤ 16 ∧ ∀ x ∈ l, rightE n x = true := by
    unfold mayB at hyes
    simp only [Bool.and_eq_true, decide_eq_true_eq, List.all_eq_true] at hyes
    exact ⟨by omega, by omega, hyes.2.2⟩
  have hful : ∀ x ∈ l, full n x := fun x hx => by
    obtain ⟨i, hi, e⟩ := List.getElem_of_mem hx
    obtain ⟨x', b, off, c0, c1, c2, _, hx', _, _, _, hr⟩ := hkids w (Below.refl _ _) i (by omega)
    rw [List.getElem?_eq_getElem hi, e] at hx'
    cases hx'
    exact rx_full n x _ hr
  have hri : ∀ x ∈ l, realN n x ≤ 100 ∧ shapesE n x = true := fun x hx => by
    obtain ⟨r1, _, r3⟩ := (right_iff (hful x hx)).1 (hall x hx)
    exact ⟨by omega, r3⟩
  have hsum := sum_le l (fun x hx => (hri x hx).1)
  have hpall := pos_all l 1
  rw [h6] at hpall hsum
  have hpm : ∀ k, k ≤ len → posE 1 l k ≤ 3300 := fun k hk => by
    have := pos_mono (l := l) (s := 1) l.length k (by omega) (Nat.le_refl _)
    rw [h6] at this
    omega
  have hany : l.any (fun x => !rightE n x) = false := by
    rw [List.any_eq_false]
    intro x hx
    simp [hall x hx]
  have HSM := hide (show ∀ i u j, SB l len i u j → u < 65536 from fun i u j ⟨p, hp, h⟩ => by
    obtain ⟨_, _, hm⟩ := lay_rng _ _ _ (List.mem_of_mem_take hp)
    obtain ⟨k, hk, e⟩ := List.getElem_of_mem hm
    obtain ⟨x', b, off, c0, c1, c2, _, hx', _, _, _, hr⟩ := hkids w (Below.refl _ _) k (by omega)
    rw [List.getElem?_eq_getElem hk, e] at hx'
    cases hx'
    exact sp_small n p.2 _ _ i u j hr h)
  have hb0 := ((Below.refl w.heap.size w).alloc (Nat.le_refl _) (.cells #[.slice none 0 0, .slice none 0 0, .slice none 0 0, .slice none 0 0] 97))
  have HB0 := hide hb0
  have HN4 := hide (nil4 w)
  have HC := hide (containsR_any n a len cap l _ hl h6 (kids_below hb0 hkids))
  have HK := hide hkids
  have HL6 := hide h6
  have HFUL := hide hful
  have HRI := hide hri
  have HPM := hide hpm
  have HANY := hide hany
  have d1 : decide ((len : Int) < 1) = false := by simp; omega
  have d2 : decide ((16 : Int) < (len : Int)) = false := by simp; omega
  clear hb0 hkids h6 hful hri hpm hany hall hyes hsum hpall
  unfold maxLen at hl
  go_enter Tryz.func97, Tryz.ntmps97
  go_wp2_with fail
  generalize w.alloc (.cells #[.slice none 0 0, .slice none 0 0, .slice none 0 0, .slice none 0 0] 97) = W at *
  generalize hQ : w.heap.size = P at *
  refine HC.out.mono ?_
  rintro e w1 ⟨rfl, hb1⟩
  rw [HANY.out]
  have HPW := hide (show P ≤ W.heap.size from by rw [← hQ]; exact HB0.out.size)
  have HB1 := hide (HB0.out.trans (hb1.mono HPW.out))
  have HPW1 := hide (show P ≤ w1.heap.size from Nat.le_trans HPW.out hb1.size)
  have HP29 := hide (show w1.heap[P]? = some (.cells #[.slice none 0 0, .slice none 0 0, .slice none 0 0, .slice none 0 0] 97 (0, 0)) from (hb1.block P (Array.getElem?_eq_some_iff.1 HN4.out).1).trans HN4.out)
  have HBZ := hide (bm_zero w1 P HPW1.out)
  have HKA := hide (kb_alloc (base := P) (w := w1) (.cells #[.slice none 0 0, .slice none 0 0, .slice none 0 0, .slice none 0 0] 178))
  clear hb1 HC
  go_wp2_with fail
  generalize w1.alloc (.cells #[.slice none 0 0, .slice none 0 0, .slice none 0 0, .slice none 0 0] 178) = W1 at *
  generalize hq : w1.heap.size = q at *
  refine (state_m P q _ _ 0 [] W1 HBZ.out (by omega) (fun j hj => hj) (fun s j hj => hj)).mono ?_
  rintro e w2 ⟨rfl, hbm2, hk2⟩
  have HBM2 := hide hbm2
  have HK2 := hide (HKA.out.trans hk2)
  clear hbm2 hk2
  go_wp2_with fail
  go_loopw [7, 8, 9, 27] (fun _ _ _ i wr => ∃ (k : Nat) (rs : List Int), k ≤ len ∧ i = .int .i64 k ∧ Bm wr P q (FB l k) (SB l k) (posE 1 l k) rs ∧ RsI l k rs ∧ Kb P w1 wr) (fun _ _ _ i _ => len - (intOf i).toNat)
  case atStart => exact ⟨0, [-1], Nat.zero_le _, rfl, bm_congr HBM2.out (fun i j => ⟨fun h => h.elim, fun ⟨_, hp, _⟩ => by simp at hp⟩) (fun i u j => ⟨fun h => h.elim, fun ⟨_, hp, _⟩ => by simp at hp⟩), rs_zero, HK2.out⟩
  case round =>
    obtain ⟨k, rs, hk, rfl, hbm, hrs, hkb⟩ := hrel
    have HBM := hide hbm
    have HRS := hide hrs
    have HKB := hide hkb
    have HBW := hide (show Below P w wr from HB1.out.trans (hkb.below (by rw [hq]; exact HPW1.out)))
    clear hbm hrs hkb
    by_cases hlt : k < len
    · obtain ⟨x, b, off, c0, c1, c2, rfl, hx, m0, m1, m2, m3⟩ := HK.out wr (by rw [hQ]; exact HBW.out) k hlt
      obtain ⟨x', b', off', c0', c1', c2', eb, hx', m0', m1', m2', m3'⟩ := HK.out w (Below.refl _ _) k hlt
      obtain rfl : x = x' := Option.some.inj (hx.symm.trans hx')
      cases eb
      have hbw : Below w.heap.size w wr := by rw [hQ]; exact HBW.out
      have e0 : c0' = c0 := Option.some.inj (((hbw.cell (p := ⟨b, off + k * 3, none⟩) (cell_lt m0')).trans m0').symm.trans m0)
      have e1 : c1' = c1 := Option.some.inj (((hbw.cell (p := ⟨b, off + k * 3 + 1, none⟩) (cell_lt m1')).trans m1').symm.trans m1)
      have e2 : c2' = c2 := Option.some.inj (((hbw.cell (p := ⟨b, off + k * 3 + 2, none⟩) (cell_lt m2')).trans m2').symm.trans m2)
      subst e0; subst e1; subst e2
      obtain ⟨kx, sx, ax, lx, cx, rfl, rfl, rfl⟩ := rx_cells m3'
      have HX3 := hide m3'
      have HXX := hide hx
      have i3 : (0 : Int) ≤ (k : Int) := by omega
      have i4 : (k : Int) < (len : Int) := by omega
      have hmx := List.mem_of_getElem? hx
      have HRX := hide (HRI.out x hmx)
      have HFX := hide (HFUL.out x hmx)
      have HPN := hide (pos_next (s := 1) hx)
      have HBD := hide (show posE 1 l k + 2 * realN n x ≤ 3300 from by have := HPM.out (k + 1) (by omega); rw [pos_next hx] at this; exact this)
      have HBA := hide (bm_below ((Below.refl _ _).alloc (Nat.le_refl _) (.cells #[.int .u8 kx, .int .u16 sx, .slice ax lx cx] 55)) HBM.out)
      have HBB := hide (hbw.alloc hbw.size (.cells #[.int .u8 kx, .int .u16 sx, .slice ax lx cx] 55))
      have HKX := hide (HKB.out.trans (kb_alloc (.cells #[.int .u8 kx, .int .u16 sx, .slice ax lx cx] 55)))
      clear m0' m1' m2' m3' m3 hx hx' hmx hbw
      go_wp2_with fail
      refine (expr_any P q w (by omega) n x _ (FB l k) (SB l k) (posE 1 l k) rs _ HX3.out HBB.out HRX.out.2 (by have := HBD.out; omega) (fb_rng HFUL.out (by have := HL6.out; omega)) (sb_rng HFUL.out (by have := HL6.out; omega)) HBA.out).mono ?_
      rintro e w3 ⟨rfl, hbm3, hk3⟩
      obtain ⟨ek, hek⟩ : ∃ ek, posE 1 l k + 2 * realN n x - 1 = ek := ⟨_, rfl⟩
      rw [hek]
      have HEK := hide hek
      have HK3 := hide (HKX.out.trans (hk3.trans (kb_alloc (.cells #[.int .i64 (posE 1 l k : Nat), .int .i64 ek] 180))))
      have HBM3 := hide (bm_below ((Below.refl _ _).alloc (Nat.le_refl _) (.cells #[.int .i64 (posE 1 l k : Nat), .int .i64 ek] 180)) hbm3)
      have HB60 := hide (heap_alloc_last w3 (.cells #[.int .i64 (posE 1 l k : Nat), .int .i64 ek] 180))
      have HSZ := hide (show (w3.alloc (.cells #[.int .i64 (posE 1 l k : Nat), .int .i64 ek] 180)).heap.size = w3.heap.size + 1 by simp)
      have HP1 := hide (show 0 < posE 1 l k + 2 * realN n x from by unfold posE; omega)
      have HFR := hide (show ∀ a b, (FB l k a b ∨ Fr n x (posE 1 l k) a b) → b < posE 1 l k + 2 * realN n x from fun i j h => by
        rcases h with h | h
        · have := fb_rng HFUL.out (by have := HL6.out; omega) i j h; omega
        · have := fr_rng n x _ i j HFX.out h; have := real_pos HFX.out; omega)
      have HFF := hide (fun j h => fb_first HFUL.out HXX.out HFX.out j h)
      clear hbm3 hk3 hek m0 m1 m2
      go_wp2_with fail
      generalize w3.alloc (.cells #[.int .i64 (posE 1 l k : Nat), .int .i64 ek] 180) = W3 at *
      generalize w3.heap.size = z3 at *
      refine (free_new1 P q _ _ _ _ 0 (posE 1 l k) _ _ W3 HSZ.out HBM3.out (by have := HBD.out; omega) (by have := HBD.out; omega) HP1.out HFR.out HFF.out).mono ?_
      rintro e w4 ⟨rfl, hbm4, hk4⟩
      have HK4 := hide (HK3.out.trans hk4)
      have HLR := hide (show rs.length = posE 1 l k from by obtain ⟨_, _, _, _, _, h⟩ := HBM.out; exact h)
      obtain ⟨ff, ss, ts, ⟨v0, v1, v2, v3, vf, hv⟩, hi, hr⟩ := hbm4
      obtain ⟨g3, c3, rfl, hl3, hb3⟩ := hv.o3.form (by rw [hr]; exact HP1.out)
      have HS4 := hide (bv_setR hv rfl ek (k : Int))
      have HI4 := hide hi
      have HR4 := hide hr
      have hek := HEK.out
      have hekl : ek < posE 1 l k + 2 * realN n x := by have := HP1.out; omega
      obtain ⟨⟨q0, q1, q2, q3⟩, -⟩ := q_cells hv.blk
      have f3 := hv.o3.frozenAt ek
      have e3 := hv.o3.cellAt ek (by rw [hr]; omega)
      obtain ⟨y, hy⟩ : ∃ y, (rs ++ List.replicate (2 * realN n x) (-1))[ek]? = some y := ⟨_, List.getElem?_eq_getElem (by rw [hr]; exact hekl)⟩
      rw [List.getElem?_map, hy] at e3
      have e3' : w4.cell? ⟨g3, ek, none⟩ = some (.int .i64 y) := e3
      rw [hr] at q3
      obtain ⟨N', hN'⟩ : ∃ N', posE 1 l k + 2 * realN n x = N' := ⟨_, rfl⟩
      rw [hN'] at q3 hekl
      have hN2 : N' ≤ 3300 := by rw [← hN']; exact HBD.out
      have i5 : (0 : Int) ≤ (ek : Int) := by omega
      have i6 : (ek : Int) < (N' : Int) := by omega
      obtain ⟨⟨s0, s1⟩, -⟩ := blk60 (kb60 hk4 HB60.out)
      have HNN := hide hN'
      clear hv hi hr hb3 hl3 q0 q1 q2 e3 hy hek hk4 hN'
      go_wp2
      go_roundw
      case rel => exact ⟨k + 1, _, by omega, by go_num, ⟨ff, ss, ts, ⟨_, _, _, _, _, HS4.out.1⟩, by
        rw [HPN.out]
        exact is_congr HI4.out (fb_next HXX.out) (sb_next HXX.out), by rw [HPN.out, List.length_set]; exact HR4.out⟩, by
        rw [← HEK.out]
        exact rs_next HFUL.out HLR.out HRS.out HXX.out, HK4.out.trans HS4.out.2⟩
      case measure => simp [intOf]; omega
    · have e' : k = len := by omega
      subst e'
      obtain ⟨ff, ss, ts, ⟨v0, v1, v2, v3, vf, hv⟩, hi, hr⟩ := HBM.out
      have hp29 := kb29 HKB.out HP29.out
      have hpos := HPM.out k (Nat.le_refl _)
      obtain ⟨N, hN⟩ : ∃ N, posE 1 l k = N := ⟨_, rfl⟩
      have hv' := bv_move (w' := (((wr.setCell ⟨P, 0, none⟩ v0).setCell ⟨P, 1, none⟩ v1).setCell ⟨P, 2, none⟩ v2).setCell ⟨P, 3, none⟩ v3) hv hp29 (fun j _ hne => by
        rw [Below.heap_setCell _ _ _ _ hne, Below.heap_setCell _ _ _ _ hne, Below.heap_setCell _ _ _ _ hne, Below.heap_setCell _ _ _ _ hne])
      obtain ⟨a0, a1, a2, a3, c0, c1, c2, c3, rfl, rfl, rfl, rfl, hnm⟩ := bv_nm hv' (fun s hs => by
        obtain ⟨i, hi', e⟩ := List.getElem_of_mem hs
        have e1 : ss[i]? = some s := by rw [List.getElem?_eq_getElem hi', e]
        have e2 : ts[i]? = some (ts[i]'(by rw [hi.lt, ← hi.ls]; exact hi')) := List.getElem?_eq_getElem _
        rcases hi.set i s _ e1 e2 with ⟨j, h, _⟩ | ⟨_, h, _⟩
        · exact HSM.out i s j h
        · omega) (fun i l' hl' => by
        have := is_len hi (M := 3300) (fun a b h => by have := (fb_rng HFUL.out (by have := HL6.out; omega) a b h).2; omega) hl'
        unfold maxLen; omega)
      obtain ⟨⟨q0, q1, q2, q3⟩, -⟩ := q_cells hv.blk
      obtain ⟨⟨r0, r1, r2, r3⟩, rz⟩ := blk29 hp29
      have y0 := rz 0
      have y1 := rz 1
      have y2 := rz 2
      have y3 := rz 3
      have hWF := set4 (x := .slice a0 ff.length c0) (y := .slice a1 ss.length c1) (z := .slice a2 ts.length c2) (u := .slice a3 rs.length c3) hp29
      have hBF := below_set4 (x := .slice a0 ff.length c0) (y := .slice a1 ss.length c1) (z := .slice a2 ts.length c2) (u := .slice a3 rs.length c3) HBW.out (Nat.le_refl P)
      have hqP : q ≠ P := fun e => by
        have := hv.blk
        rw [e, hp29] at this
        simp only [Option.some.injEq, Obj.cells.injEq] at this
        exact absurd this.2.1 (by decide)
      have hPq : P ≠ q := Ne.symm hqP
      have HI := hide (is_congr hi (by rw [← HL6.out]; exact fb_all) (by rw [← HL6.out]; exact sb_all))
      have l0 := hi.lf
      have l1 := hi.ls
      have l2 := hi.lt
      rw [hN] at l0 l1 l2 hr HI
      rw [l0] at q0 hnm hWF hBF
      rw [l1] at q1 hnm hWF hBF
      rw [l2] at q2 hnm hWF hBF
      rw [hr] at q3 hnm hWF hBF
      have HNM := hide hnm
      have HWF := hide hWF
      have HBF := hide hBF
      have HRL := hide hr
      have HNP := hide hN
      have HN33 := hide (show N ≤ 3300 by omega)
      clear hnm hWF hBF hr hi hv hv' hp29 rz l0 l1 l2 hN
      go_wp2
      obtain ⟨⟨m0, m1, m2, m3⟩, -⟩ := blk29 HWF.out
      refine bodyPost_ret (v := .tuple #[.agg #[.slice a0 N c0, .slice a1 N c1, .slice a2 N c2, .slice a3 N c3], .int .i64 0]) (by simp [results, Tryz.results97, go_sem, m0, m1, m2, m3]) rfl ?_
      exact ⟨a0, a1, a2, a3, N, c0, c1, c2, c3, ff, ss, ts, rs, rfl, HNM.out, HI.out, HRS.out, HRL.out, HNP.out.symm, HN33.out, by rw [hQ]; exact HBF.out⟩
end Go.Proofs.YtbbfjjjnifomgaaGreatDoor.A

/- What the machine of expressions matches: plain mathematics. -/
namespace Go.Proofs.YtbbfjjjnifomgaaGreatDoor.A

section
variable {n : Nat} {l : List (Ex n)} {N len : Nat} {fs : List (List Int)} {ss : List Nat} {ts rs : List Int}
/-- The lists of Build are a machine that may be. -/
theorem build_mach (hf : ∀ x ∈ l, full n x) (h6 : l.length = len) (hl : len ≤ 16) (hi : Is (FrA l) (SpA l) N fs ss ts) (hr : RsI l len rs) (hrl : rs.length = N) (hN : N = posE 1 l len) (hN3 : N ≤ 3300) : Mach fs ss ts rs N := by
  have hF : ∀ i j, FrA l i j → i < N ∧ j < N := fun i j h => by
    have := fb_rng hf (Nat.le_refl _) i j ((fb_all i j).2 h)
    rw [h6, ← hN] at this; exact this
  have hS : ∀ i u j, SpA l i u j → j < N := fun i u j ⟨p, hp, h⟩ => by
    have hp' : p ∈ (layE 1 l).take len := by rw [List.take_of_length_le (by rw [lay_len]; omega)]; exact hp
    obtain ⟨a1, a2, a3, a4⟩ := take_rng hf (by omega) hp'
    have := sp_rng n p.2 p.1 i u j a3 h
    omega
  refine ⟨hi.lf, hi.ls, hi.lt, hrl, by rw [hN]; unfold posE; omega, hN3, fun i m hm z hz => ?_, fun i s t hs ht hp => ?_, fun i r h => ?_⟩
  · obtain ⟨j, rfl, hj⟩ := (hi.mem i m hm z).1 hz
    have := (hF i j hj).2; omega
  · rcases hi.set i s t hs ht with ⟨j, h, rfl⟩ | ⟨_, h, _⟩
    · have := hS i s j h; omega
    · omega
  · rcases hr i r h with ⟨m, p, hm, _, _, rfl⟩ | ⟨_, rfl⟩
    · omega
    · omega
theorem spa_one (hf : ∀ x ∈ l, full n x) (hsh : ∀ x ∈ l, shapesE n x = true) {i u j u' j' : Nat} (h : SpA l i u j) (h' : SpA l i u' j') : u = u' ∧ j = j' := by
  obtain ⟨p, hp, h⟩ := h
  obtain ⟨p', hp', h'⟩ := h'
  obtain ⟨_, _, m⟩ := lay_rng _ _ _ hp
  obtain ⟨_, _, m'⟩ := lay_rng _ _ _ hp'
  have r := sp_rng n p.2 p.1 i u j (hf _ m) h
  have r' := sp_rng n p'.2 p'.1 i u' j' (hf _ m') h'
  obtain rfl := lay_uniq l 1 i p p' hf hp hp' r.1 (by unfold en; omega) r'.1 (by unfold en; omega)
  exact sp_one n p.2 p.1 i u j u' j' (hf _ m) (hsh _ m) h h'
theorem wy_iff (word : List Int) (hf : ∀ x ∈ l, full n x) (hsh : ∀ x ∈ l, shapesE n x = true) (hi : Is (FrA l) (SpA l) N fs ss ts) (hF : ∀ i j, FrA l i j → i < N ∧ j < N) (hS : ∀ i u j, SpA l i u j → i < N) (q i : Nat) : Wy word (Ff fs) (Sf ss ts) 0 0 q i ↔ Wy word (FrA l) (SpA l) 0 0 q i := by
  constructor
  · intro h
    induction h with
    | here => exact .here
    | free _ f ih =>
      obtain ⟨m, hm, hj⟩ := f
      obtain ⟨j, e, hj⟩ := (hi.mem _ m hm _).1 hj
      have e' := Int.ofNat.inj e
      subst e'
      exact ih.free hj
    | step _ s c d ih =>
      rcases hi.set _ _ _ s.1 s.2 with ⟨j, h, e⟩ | ⟨_, h, _⟩
      · have e' := Int.ofNat.inj e
        subst e'
        exact ih.step h c d
      · subst h; simp [inS] at d
  · intro h
    induction h with
    | here => exact .here
    | free _ f ih =>
      have hlt := (hF _ _ f).1
      refine ih.free ⟨_, List.getElem?_eq_getElem (by rw [hi.lf]; exact hlt), ?_⟩
      exact (hi.mem _ _ (List.getElem?_eq_getElem (by rw [hi.lf]; exact hlt)) _).2 ⟨_, rfl, f⟩
    | @step q i s q' c _ s' c' d ih =>
      have hlt := hS _ _ _ s'
      have e1 : ss[q]? = some (ss[q]'(by rw [hi.ls]; exact hlt)) := List.getElem?_eq_getElem _
      have e2 : ts[q]? = some (ts[q]'(by rw [hi.lt]; exact hlt)) := List.getElem?_eq_getElem _
      rcases hi.set q _ _ e1 e2 with ⟨j, h, e⟩ | ⟨h, _⟩
      · obtain ⟨f1, f2⟩ := spa_one hf hsh s' h
        exact ih.step (s := s) ⟨by rw [e1, f1], by rw [e2, e, f2]⟩ c' d
      · exact absurd s' (h _ _)
/-- What an expression, by its number, has. -/
def hasN {n : Nat} (l : List (Ex n)) (word : List Int) (r : Int) : Bool := match l[r.toNat]? with | some x => hasE n x word | none => false
theorem en_inj (hf : ∀ x ∈ l, full n x) {m m' : Nat} {p p' : Nat × Ex n} (h : (layE 1 l)[m]? = some p) (h' : (layE 1 l)[m']? = some p') (e : en p = en p') : m = m' := by
  have key : ∀ {m : Nat} {p : Nat × Ex n}, (layE 1 l)[m]? = some p → m < l.length ∧ en p + 1 = posE 1 l (m + 1) ∧ posE 1 l m < posE 1 l (m + 1) := fun {m p} h => by
    have hm : m < l.length := by rw [← lay_len l 1]; exact (List.getElem?_eq_some_iff.1 h).1
    have e := lay_at l 1 m _ (List.getElem?_eq_getElem hm)
    rw [h] at e
    obtain rfl : p = (posE 1 l m, l[m]) := Option.some.inj e
    have hr := real_pos (hf _ (List.getElem_mem hm))
    have hn := pos_next (s := 1) (List.getElem?_eq_getElem hm)
    refine ⟨hm, ?_, by omega⟩
    show posE 1 l m + 2 * realN n l[m] - 1 + 1 = _
    omega
  obtain ⟨a1, a2, a3⟩ := key h
  obtain ⟨b1, b2, b3⟩ := key h'
  rcases Nat.lt_trichotomy m m' with q | q | q
  · have := pos_mono (l := l) (s := 1) m' (m + 1) (by omega) (by omega); omega
  · exact q
  · have := pos_mono (l := l) (s := 1) m (m' + 1) (by omega) (by omega); omega
theorem match_rule (word : List Int) (hf : ∀ x ∈ l, full n x) (hsh : ∀ x ∈ l, shapesE n x = true) (h6 : l.length = len) (hl : len ≤ 16) (hi : Is (FrA l) (SpA l) N fs ss ts) (hr : RsI l len rs) (hrl : rs.length = N) (hN : N = posE 1 l len) (hN3 : N ≤ 3300) (g : Nat → Bool) (hg : IsRun fs ss ts N word word.length g) :
    endR rs g N = leastR (hasN l word) len 0 := by
  have hM := build_mach hf h6 hl hi hr hrl hN hN3
  have hF : ∀ i j, FrA l i j → i < N ∧ j < N := fun i j h => by
    have := fb_rng hf (Nat.le_refl _) i j ((fb_all i j).2 h)
    rw [h6, ← hN] at this; exact this
  have hS : ∀ i u j, SpA l i u j → i < N := fun i u j h => by
    have := sb_rng hf (Nat.le_refl _) i u j ((sb_all i u j).2 h)
    rw [h6, ← hN] at this; exact this
  have hgw : ∀ q, q < N → (g q = true ↔ Wy word (FrA l) (SpA l) 0 0 q word.length) := fun q hq => (run_wy hM.pos hM.ls hM.free hM.to word.length (Nat.le_refl _) g hg q hq).trans (wy_iff word hf hsh hi hF hS q word.length)
  have hend : ∀ (m : Nat) (p : Nat × Ex n), (layE 1 l)[m]? = some p → en p < N ∧ (g (en p) = true ↔ hasN l word m = true) := fun m p hp => by
    have hm : m < l.length := by rw [← lay_len l 1]; exact (List.getElem?_eq_some_iff.1 hp).1
    have e := lay_at l 1 m _ (List.getElem?_eq_getElem hm)
    rw [hp] at e
    have hpm := List.mem_of_getElem? hp
    obtain ⟨a1, a2, a3, a4⟩ := take_rng hf (Nat.le_refl _) (show p ∈ (layE 1 l).take l.length by rw [List.take_of_length_le (by rw [lay_len]; omega)]; exact hpm)
    have hlt : en p < N := by rw [hN, ← h6]; unfold en; omega
    refine ⟨hlt, ?_⟩
    rw [hgw _ hlt, way_end word hf hsh hpm, ← has_iff]
    have e2 : p.2 = l[m] := by rw [show p = (posE 1 l m, l[m]) from Option.some.inj e]
    unfold hasN
    rw [show ((m : Nat) : Int).toNat = m by omega, List.getElem?_eq_getElem hm, e2]
  refine isLeast_one (endR_is (o := g) (N := N) hM.rule) ?_
  rcases least_spec (hasN l word) len 0 with ⟨h1, h2⟩ | ⟨j, h1, h2, h3, h4⟩
  · refine .inl ⟨h1, fun i r ⟨hi', ho⟩ e => ?_⟩
    rcases hr i r e with ⟨m, p, hm, hp, rfl, rfl⟩ | ⟨_, h⟩
    · have := ((hend m p hp).2).1 ho
      have h5 := h2 m hm
      rw [Int.zero_add] at h5
      rw [h5] at this; cases this
    · exact h
  · right
    rw [Int.zero_add] at h2 h3
    rw [h2]
    have hjl : j < l.length := by omega
    have hp := lay_at l 1 j _ (List.getElem?_eq_getElem hjl)
    obtain ⟨b1, b2⟩ := hend j _ hp
    refine ⟨by omega, ⟨_, ⟨b1, b2.2 h3⟩, ?_⟩, fun i r ⟨hi', ho⟩ e => ?_⟩
    · have e : rs[en (posE 1 l j, l[j])]? = some (rs[en (posE 1 l j, l[j])]'(by rw [hrl]; exact b1)) := List.getElem?_eq_getElem _
      rcases hr _ _ e with ⟨m, p, hm, hpm, e1, e2⟩ | ⟨h, _⟩
      · rw [e, e2, en_inj hf hpm hp e1.symm]
      · exact absurd rfl (h j _ h1 hp)
    · rcases hr i r e with ⟨m, p, hm, hpm, rfl, rfl⟩ | ⟨_, h⟩
      · right
        have h5 := ((hend m p hpm).2).1 ho
        rcases Nat.lt_or_ge m j with q | q
        · have := h4 m q; rw [Int.zero_add, h5] at this; cases this
        · omega
      · exact .inl h
end
end Go.Proofs.YtbbfjjjnifomgaaGreatDoor.A


