/- The program's builder: the steps of a node, by its kind. -/
import Derived.Deep.RegionHeld3
import Derived.WalkKit
import Derived.ProofKit
import Derived.Outline
import Derived.BigQuiet
import Derived.Deep.QuietTactic
import Derived.Below
import Derived.OpenShut
import Derived.Deep.Slices
import Derived.Deep.Strs
import Derived.Deep.OwnRows
import Derived.Deep.WholeRow
import Derived.Deep.AppendSrc
import Derived.Deep.Heap
import Derived.Laws.AppendOwnNone
import Derived.Deep.AppendLies
import Derived.Deep.RegionLaw
import Derived.Test.YtbbfjjjnifomgaaGreatDoorK1
import Derived.Test.YtbbfjjjnifomgaaGreatDoorK8
import Derived.Test.YtbbfjjjnifomgaaGreatDoorK11
import Derived.Test.YtbbfjjjnifomgaaGreatDoorK13
namespace Go.Proofs.YtbbfjjjnifomgaaGreatDoor.A
open Go.RowKit

/-- The boxes of a node and of its part, in every world behind. -/
def Bxs (w : World) (P : Nat) (kk : Int) (ss : Nat) (x : Value) (b e : Nat) : Prop := w.heap[P]? = some (.cells #[.int .u8 kk, .int .u16 ss, x] 55 (0, 0)) ∧ w.heap[P + 1]? = some (.cells #[.int .i64 b, .int .i64 e] 180 (0, 0))
theorem bxs_new (w : World) (kk : Int) (ss : Nat) (x : Value) (b e : Nat) : Bxs ((w.alloc (.cells #[.int .u8 kk, .int .u16 ss, x] 55)).alloc (.cells #[.int .i64 b, .int .i64 e] 180)) w.heap.size kk ss x b e := by
  refine ⟨?_, ?_⟩
  · rw [Below.heap_alloc _ _ _ (by simp)]; exact heap_alloc_last w _
  · have := heap_alloc_last (w.alloc (.cells #[.int .u8 kk, .int .u16 ss, x] 55)) (.cells #[.int .i64 b, .int .i64 e] 180)
    rw [show (w.alloc (.cells #[.int .u8 kk, .int .u16 ss, x] 55)).heap.size = w.heap.size + 1 by simp] at this
    exact this
theorem bxs_kb {w w' : World} {base P ss : Nat} {kk : Int} {x : Value} {b e : Nat} (hk : Kb base w w') (h : Bxs w P kk ss x b e) : Bxs w' P kk ss x b e := by
  obtain ⟨h1, h2⟩ := h
  exact ⟨(hk.block P (Array.getElem?_eq_some_iff.1 h1).1 (far51 h1)).trans h1, (hk.block (P + 1) (Array.getElem?_eq_some_iff.1 h2).1 (far60 h2)).trans h2⟩
theorem bxs_cells {w : World} {P ss : Nat} {kk : Int} {x : Value} {b e : Nat} (h : Bxs w P kk ss x b e) : (w.cell? ⟨P, 0, none⟩ = some (.int .u8 kk) ∧ w.cell? ⟨P, 1, none⟩ = some (.int .u16 ss)) ∧ w.cell? ⟨P + 1, 0, none⟩ = some (.int .i64 b) ∧ w.cell? ⟨P + 1, 1, none⟩ = some (.int .i64 e) := by
  obtain ⟨h1, h2⟩ := h
  refine ⟨⟨?_, ?_⟩, ?_, ?_⟩
  · rw [cell_of_row _ _ _ _ _ _ h1]; rfl
  · rw [cell_of_row _ _ _ _ _ _ h1]; rfl
  · rw [cell_of_row _ _ _ _ _ _ h2]; rfl
  · rw [cell_of_row _ _ _ _ _ _ h2]; rfl
theorem kb_alloc {base : Nat} {w : World} (o : Obj) : Kb base w (w.alloc o) := Kb.of_below ((Below.refl _ _).alloc (Nat.le_refl _) o)

theorem free_new1 (base q : Nat) (F : Nat → Nat → Prop) (S : Nat → Nat → Nat → Prop) (N : Nat) (rs : List Int) (i z M H : Nat) (W : World) (hH : W.heap.size = H) (hB : Bm W base q F S N rs) (hN : N ≤ 10000) (hM : M ≤ 10000) (hi : i < N) (hFM : ∀ a b, F a b → b < M) (hz : ∀ j, F i j → j < z) :
    Calls Tryz.prog 124 #[.pointer (some ⟨q, 0, none⟩), .int .i64 i, .slice (some ⟨H, 0, none⟩) 1 1] (W.alloc (.cells #[.int .i64 z] 3)) fun e w' => e = .returned (.tuple #[]) ∧ Bm w' base q (fun a b => F a b ∨ (a = i ∧ b = z)) S N rs ∧ Kb base W w' := by
  subst hH
  refine (free_m1 base q F S N rs i z _ 1 M _ (bm_below ((Below.refl _ _).alloc (Nat.le_refl _) _) hB) hN hM hi hFM hz (wd_one W z)).mono ?_
  rintro e w' ⟨rfl, h1, h2⟩
  exact ⟨rfl, h1, (kb_alloc _).trans h2⟩
theorem free_new2 (base q : Nat) (F : Nat → Nat → Prop) (S : Nat → Nat → Nat → Prop) (N : Nat) (rs : List Int) (i z y M H : Nat) (W : World) (hH : W.heap.size = H) (hB : Bm W base q F S N rs) (hN : N ≤ 10000) (hM : M ≤ 10000) (hi : i < N) (hFM : ∀ a b, F a b → b < M) (hz : ∀ j, F i j → j < z) (hy : z < y) :
    Calls Tryz.prog 124 #[.pointer (some ⟨q, 0, none⟩), .int .i64 i, .slice (some ⟨H, 0, none⟩) 2 2] (W.alloc (.cells #[.int .i64 z, .int .i64 y] 3)) fun e w' => e = .returned (.tuple #[]) ∧ Bm w' base q (fun a b => (F a b ∨ (a = i ∧ b = z)) ∨ (a = i ∧ b = y)) S N rs ∧ Kb base W w' := by
  subst hH
  refine (free_m2 base q F S N rs i z y _ 2 M _ (bm_below ((Below.refl _ _).alloc (Nat.le_refl _) _) hB) hN hM hi hFM hz hy (wd_two W z y)).mono ?_
  rintro e w' ⟨rfl, h1, h2⟩
  exact ⟨rfl, h1, (kb_alloc _).trans h2⟩

/-- What lies behind the two boxes. -/
theorem two_boxes {w : World} {base q N : Nat} {F : Nat → Nat → Prop} {S : Nat → Nat → Nat → Prop} {rs : List Int} (hB : Bm w base q F S N rs) (kk : Int) (ss : Nat) (x : Value) (b e : Nat) :
    Bxs ((w.alloc (.cells #[.int .u8 kk, .int .u16 ss, x] 55)).alloc (.cells #[.int .i64 b, .int .i64 e] 180)) w.heap.size kk ss x b e ∧ Kb base w ((w.alloc (.cells #[.int .u8 kk, .int .u16 ss, x] 55)).alloc (.cells #[.int .i64 b, .int .i64 e] 180)) ∧ Bm ((w.alloc (.cells #[.int .u8 kk, .int .u16 ss, x] 55)).alloc (.cells #[.int .i64 b, .int .i64 e] 180)) base q F S N rs ∧ ((w.alloc (.cells #[.int .u8 kk, .int .u16 ss, x] 55)).alloc (.cells #[.int .i64 b, .int .i64 e] 180)).heap.size = w.heap.size + 1 + 1 :=
  ⟨bxs_new w kk ss x b e, (kb_alloc _).trans (kb_alloc _), bm_below ((Below.refl _ _).alloc (Nat.le_refl _) _) (bm_below ((Below.refl _ _).alloc (Nat.le_refl _) _) hB), by simp⟩

set_option maxHeartbeats 1600000 in
theorem steps_k0 (base q : Nat) (F : Nat → Nat → Prop) (S : Nat → Nat → Nat → Prop) (N : Nat) (rs : List Int) (ss : Nat) (x v : Value) (b e M : Nat) (w : World) (hB : Bm w base q F S N rs) (hN : N ≤ 10000) (hM : M ≤ 10000) (hb : b < N) (hFM : ∀ a b, F a b → b < M) (hFb : ∀ j, ¬ F b j) :
    Calls Tryz.prog 147 #[.pointer (some ⟨q, 0, none⟩), .agg #[.int .u8 0, .int .u16 ss, x], .agg #[.int .i64 b, .int .i64 e], v] w fun en w' => en = .returned (.tuple #[]) ∧ Bm w' base q (fun i j => F i j ∨ (i = b ∧ j = e)) S N rs ∧ Kb base w w' := by
  have H := hide (two_boxes hB 0 ss x b e)
  have HF := hide hFM
  have HFb := hide hFb
  clear hB hFM hFb
  go_enter Tryz.func147, Tryz.ntmps147
  go_wp2_with fail
  generalize (w.alloc (.cells #[.int .u8 0, .int .u16 ss, x] 55)).alloc (.cells #[.int .i64 b, .int .i64 e] 180) = W at *
  refine (free_new1 base q F S N rs b e M _ W H.out.2.2.2 H.out.2.2.1 hN hM hb HF.out (fun j hj => (HFb.out j hj).elim)).mono ?_
  rintro en w1 ⟨rfl, h1, h2⟩
  have H1 := hide h1
  have H2 := hide (H.out.2.1.trans h2)
  clear h1 h2
  go_wp2
  go_end0
  exact ⟨rfl, H1.out, H2.out⟩

/-- Where parts lie: between the node's two states, one behind the other. -/
structure Geo (b e K : Nat) (pb pe : Nat → Nat) : Prop where
  lo : ∀ m, m < K → b < pb m
  mid : ∀ m, m < K → pb m ≤ pe m
  hi : ∀ m, m < K → pe m < e
  next : ∀ m m', m < m' → m' < K → pe m < pb m'
/-- Where the way through parts stands ahead of each. -/
def src (b : Nat) (pe : Nat → Nat) : Nat → Nat | 0 => b | m + 1 => pe m
theorem src_lt {b e K : Nat} {pb pe : Nat → Nat} (g : Geo b e K pb pe) : ∀ m m', m < m' → m' ≤ K → src b pe m < src b pe m'
  | 0, m' + 1, _, h => by show b < pe m'; have := g.lo m' (by omega); have := g.mid m' (by omega); omega
  | m + 1, m' + 1, h1, h => by show pe m < pe m'; have := g.next m m' (by omega) (by omega); have := g.mid m' (by omega); omega
theorem src_e {b e K : Nat} {pb pe : Nat → Nat} (g : Geo b e K pb pe) (hbe : b < e) : ∀ m, m ≤ K → src b pe m < e
  | 0, _ => hbe
  | m + 1, h => g.hi m (by omega)
theorem pts_at {w : World} {a : Option Addr} {K : Nat} {pb pe : Nat → Nat} (h : Pts w a K pb pe) {m : Nat} (hm : m < K) : ∃ g off, a = some ⟨g, off, none⟩ ∧ w.cell? ⟨g, off + m * 2, none⟩ = some (.int .i64 (pb m : Int)) ∧ w.cell? ⟨g, off + m * 2 + 1, none⟩ = some (.int .i64 (pe m : Int)) := by
  obtain ⟨g, off, cs, e, _, c1, c2⟩ := h m hm
  exact ⟨g, off, e, c1, c2⟩
theorem box60 (w : World) (x y : Nat) : ∃ cs, (w.alloc (.cells #[.int .i64 x, .int .i64 y] 180)).heap[w.heap.size]? = some (.cells cs 180 (0, 0)) ∧ (w.alloc (.cells #[.int .i64 x, .int .i64 y] 180)).cell? ⟨w.heap.size, 1, none⟩ = some (.int .i64 y) := ⟨_, heap_alloc_last w _, by simp⟩

set_option maxRecDepth 100000 in
set_option maxHeartbeats 3200000 in
theorem steps_k2 (base q : Nat) (F : Nat → Nat → Prop) (S : Nat → Nat → Nat → Prop) (N : Nat) (rs : List Int) (ss : Nat) (x : Value) (a : Option Addr) (K cap b e M : Nat) (pb pe : Nat → Nat) (w : World) (hB : Bm w base q F S N rs) (hN : N ≤ 10000) (hM : M ≤ 10000) (hFM : ∀ a b, F a b → b < M) (heM : e < M) (heN : e < N) (hbe : b < e) (hK : K ≤ 10000)
    (hg : Geo b e K pb pe) (hFb : ∀ m j, m ≤ K → ¬ F (src b pe m) j) (hP : Pts w a K pb pe) :
    Calls Tryz.prog 147 #[.pointer (some ⟨q, 0, none⟩), .agg #[.int .u8 2, .int .u16 ss, x], .agg #[.int .i64 b, .int .i64 e], .slice a K cap] w fun en w' => en = .returned (.tuple #[]) ∧ Bm w' base q (fun i j => F i j ∨ (∃ m, m < K ∧ i = src b pe m ∧ j = pb m) ∨ (i = src b pe K ∧ j = e)) S N rs ∧ Kb base w w' := by
  have H := hide (two_boxes hB 2 ss x b e)
  obtain ⟨p0, p1, p2⟩ := bxs_cells H.out.1
  have HF := hide hFM
  have HFb := hide hFb
  have HP := hide (pts_kb H.out.2.1 hP)
  have HG := hide hg
  clear hB hFM hFb hP hg
  go_enter Tryz.func147, Tryz.ntmps147
  go_wp2_with fail
  generalize (w.alloc (.cells #[.int .u8 2, .int .u16 ss, x] 55)).alloc (.cells #[.int .i64 b, .int .i64 e] 180) = W at *
  generalize hQ : w.heap.size = P at *
  go_loopw [8, 10, 58] (fun at_ _ i wr => ∃ (k : Nat), k ≤ K ∧ i = .int .i64 k ∧ at_ = .int .i64 (src b pe k : Nat) ∧ Bm wr base q (fun i j => F i j ∨ ∃ m, m < k ∧ i = src b pe m ∧ j = pb m) S N rs ∧ Kb base W wr) (fun _ _ i _ => K - (intOf i).toNat)
  case atStart => exact ⟨0, Nat.zero_le _, rfl, rfl, bm_congr H.out.2.2.1 (fun a b => ⟨.inl, fun h => h.elim id (fun ⟨m, h, _⟩ => absurd h (by omega))⟩) (fun _ _ _ => Iff.rfl), Kb.refl _ _⟩
  case round =>
    obtain ⟨k, hk, rfl, rfl, hbm, hkb⟩ := hrel
    have HBM := hide hbm
    have HKB := hide hkb
    clear hbm hkb
    have hFk : ∀ a c, (F a c ∨ ∃ m, m < k ∧ a = src b pe m ∧ c = pb m) → c < M := fun a c h => by
      rcases h with h | ⟨m, h1, _, rfl⟩
      · exact HF.out a c h
      · have := HG.out.mid m (by omega); have := HG.out.hi m (by omega); omega
    have hsk : src b pe k < N := by have := src_e HG.out hbe k hk; omega
    have hnk : ∀ j, ¬ (F (src b pe k) j ∨ ∃ m, m < k ∧ src b pe k = src b pe m ∧ j = pb m) := fun j h => by
      rcases h with h | ⟨m, h1, h2, _⟩
      · exact HFb.out k j hk h
      · have := src_lt HG.out m k h1 hk; omega
    have HFK := hide hFk
    have HNK := hide hnk
    have HSK := hide hsk
    obtain ⟨_, r1, r2⟩ := bxs_cells (bxs_kb HKB.out H.out.1)
    clear hFk hnk hsk p0 p1 p2
    by_cases hlt : k < K
    · obtain ⟨g, off, rfl, c1, c2⟩ := pts_at (pts_kb HKB.out HP.out) hlt
      have i3 : (0 : Int) ≤ (k : Int) := by omega
      have i4 : (k : Int) < (K : Int) := by omega
      have HBX := hide (box60 wr (pb k) (pe k))
      have HBA := hide (bm_below ((Below.refl _ _).alloc (Nat.le_refl _) (.cells #[.int .i64 (pb k : Nat), .int .i64 (pe k : Nat)] 180)) HBM.out)
      have HKA := hide (HKB.out.trans (kb_alloc (.cells #[.int .i64 (pb k : Nat), .int .i64 (pe k : Nat)] 180)))
      have HSZ := hide (show (wr.alloc (.cells #[.int .i64 (pb k : Nat), .int .i64 (pe k : Nat)] 180)).heap.size = wr.heap.size + 1 by simp)
      go_wp2_with fail
      generalize wr.alloc (.cells #[.int .i64 (pb k : Nat), .int .i64 (pe k : Nat)] 180) = WA at *
      generalize wr.heap.size = H0 at *
      refine (free_new1 base q _ S N rs (src b pe k) (pb k) M _ WA HSZ.out HBA.out hN hM HSK.out HFK.out (fun j hj => (HNK.out j hj).elim)).mono ?_
      rintro en w1 ⟨rfl, h1, h2⟩
      have H1 := hide h1
      have H2 := hide (HKA.out.trans h2)
      obtain ⟨cs, hb1, hb2⟩ := HBX.out
      have d2 := (h2.cell (p := ⟨H0, 1, none⟩) (cell_lt hb2) (far60 hb1)).trans hb2
      clear h1 h2 hb1 hb2 c1 c2 r1 r2
      go_wp2
      go_roundw
      case rel => exact ⟨k + 1, by omega, by go_num, rfl, bm_congr H1.out (fun a c => by
        constructor
        · rintro ((h | ⟨m, h1, h2⟩) | ⟨h1, h2⟩)
          · exact .inl h
          · exact .inr ⟨m, by omega, h2⟩
          · exact .inr ⟨k, by omega, h1, h2⟩
        · rintro (h | ⟨m, h1, h2⟩)
          · exact .inl (.inl h)
          · by_cases q : m = k
            · subst q; exact .inr h2
            · exact .inl (.inr ⟨m, by omega, h2⟩)) (fun _ _ _ => Iff.rfl), H2.out⟩
      case measure => simp [intOf]; omega
    · have e' : k = K := by omega
      subst e'
      go_wp2_with fail
      refine (free_new1 base q _ S N rs (src b pe k) e M _ wr rfl HBM.out hN hM HSK.out HFK.out (fun j hj => (HNK.out j hj).elim)).mono ?_
      rintro en w1 ⟨rfl, h1, h2⟩
      have H1 := hide h1
      have H2 := hide (HKB.out.trans h2)
      clear h1 h2 r1 r2
      go_wp2
      go_end0
      exact ⟨rfl, bm_congr H1.out (fun a c => or_assoc) (fun _ _ _ => Iff.rfl), H.out.2.1.trans H2.out⟩
end Go.Proofs.YtbbfjjjnifomgaaGreatDoor.A

/- The program's builder: the steps of a node, by its kind: one of several, and an option. -/
namespace Go.Proofs.YtbbfjjjnifomgaaGreatDoor.A
open Go.RowKit

set_option maxRecDepth 100000 in
set_option maxHeartbeats 3200000 in
theorem steps_k3 (base q : Nat) (F : Nat → Nat → Prop) (S : Nat → Nat → Nat → Prop) (N : Nat) (rs : List Int) (ss : Nat) (x : Value) (a : Option Addr) (K cap b e M : Nat) (pb pe : Nat → Nat) (w : World) (hB : Bm w base q F S N rs) (hN : N ≤ 10000) (hM : M ≤ 10000) (hFM : ∀ a b, F a b → b < M) (heM : e < M) (heN : e < N) (hbe : b < e) (hK : K ≤ 10000)
    (hg : Geo b e K pb pe) (hFb : ∀ m j, m ≤ K → ¬ F (src b pe m) j) (hP : Pts w a K pb pe) :
    Calls Tryz.prog 147 #[.pointer (some ⟨q, 0, none⟩), .agg #[.int .u8 3, .int .u16 ss, x], .agg #[.int .i64 b, .int .i64 e], .slice a K cap] w fun en w' => en = .returned (.tuple #[]) ∧ Bm w' base q (fun i j => F i j ∨ ∃ m, m < K ∧ ((i = b ∧ j = pb m) ∨ (i = pe m ∧ j = e))) S N rs ∧ Kb base w w' := by
  have H := hide (two_boxes hB 3 ss x b e)
  obtain ⟨p0, p1, p2⟩ := bxs_cells H.out.1
  have HF := hide hFM
  have HFb := hide hFb
  have HP := hide (pts_kb H.out.2.1 hP)
  have HG := hide hg
  clear hB hFM hFb hP hg
  go_enter Tryz.func147, Tryz.ntmps147
  go_wp2_with fail
  generalize (w.alloc (.cells #[.int .u8 3, .int .u16 ss, x] 55)).alloc (.cells #[.int .i64 b, .int .i64 e] 180) = W at *
  generalize hQ : w.heap.size = P at *
  go_loopw [12, 79] (fun _ i wr => ∃ (k : Nat), k ≤ K ∧ i = .int .i64 k ∧ Bm wr base q (fun i j => F i j ∨ ∃ m, m < k ∧ ((i = b ∧ j = pb m) ∨ (i = pe m ∧ j = e))) S N rs ∧ Kb base W wr) (fun _ i _ => K - (intOf i).toNat)
  case atStart => exact ⟨0, Nat.zero_le _, rfl, bm_congr H.out.2.2.1 (fun a b => ⟨.inl, fun h => h.elim id (fun ⟨m, h, _⟩ => absurd h (by omega))⟩) (fun _ _ _ => Iff.rfl), Kb.refl _ _⟩
  case round =>
    obtain ⟨k, hk, rfl, hbm, hkb⟩ := hrel
    have HBM := hide hbm
    have HKB := hide hkb
    clear hbm hkb
    have hFk : ∀ a c, (F a c ∨ ∃ m, m < k ∧ ((a = b ∧ c = pb m) ∨ (a = pe m ∧ c = e))) → c < M := fun a c h => by
      rcases h with h | ⟨m, h1, ⟨_, rfl⟩ | ⟨_, rfl⟩⟩
      · exact HF.out a c h
      · have := HG.out.mid m (by omega); have := HG.out.hi m (by omega); omega
      · exact heM
    have HFK := hide hFk
    obtain ⟨_, r1, r2⟩ := bxs_cells (bxs_kb HKB.out H.out.1)
    clear hFk p0 p1 p2
    by_cases hlt : k < K
    · obtain ⟨g, off, rfl, c1, c2⟩ := pts_at (pts_kb HKB.out HP.out) hlt
      have i3 : (0 : Int) ≤ (k : Int) := by omega
      have i4 : (k : Int) < (K : Int) := by omega
      have hnk : ∀ j, (F b j ∨ ∃ m, m < k ∧ ((b = b ∧ j = pb m) ∨ (b = pe m ∧ j = e))) → j < pb k := fun j h => by
        rcases h with h | ⟨m, h1, ⟨_, h2⟩ | ⟨h2, _⟩⟩
        · exact (HFb.out 0 j (by omega) h).elim
        · have := HG.out.next m k h1 hlt; have := HG.out.mid m (by omega); omega
        · have := HG.out.lo m (by omega); have := HG.out.mid m (by omega); omega
      have hnk2 : ∀ j, ((F (pe k) j ∨ ∃ m, m < k ∧ ((pe k = b ∧ j = pb m) ∨ (pe k = pe m ∧ j = e))) ∨ (pe k = b ∧ j = pb k)) → j < e := fun j h => by
        have q1 := HG.out.lo k hlt
        have q2 := HG.out.mid k hlt
        rcases h with (h | ⟨m, h1, ⟨h2, _⟩ | ⟨h2, _⟩⟩) | ⟨h, _⟩
        · exact (HFb.out (k + 1) j (by omega) h).elim
        · omega
        · have := HG.out.next m k h1 hlt; omega
        · omega
      have HNK := hide hnk
      have HNK2 := hide hnk2
      have hpk : pe k < N ∧ pb k < M := by have := HG.out.hi k hlt; have := HG.out.mid k hlt; omega
      have HPK := hide hpk
      have HBX := hide (box60 wr (pb k) (pe k))
      have HBA := hide (bm_below ((Below.refl _ _).alloc (Nat.le_refl _) (.cells #[.int .i64 (pb k : Nat), .int .i64 (pe k : Nat)] 180)) HBM.out)
      have HKA := hide (HKB.out.trans (kb_alloc (.cells #[.int .i64 (pb k : Nat), .int .i64 (pe k : Nat)] 180)))
      have HSZ := hide (show (wr.alloc (.cells #[.int .i64 (pb k : Nat), .int .i64 (pe k : Nat)] 180)).heap.size = wr.heap.size + 1 by simp)
      have hPA : P + 1 < wr.heap.size := (cell_lt r1)
      clear hnk hnk2 hpk
      go_wp2_with fail
      generalize wr.alloc (.cells #[.int .i64 (pb k : Nat), .int .i64 (pe k : Nat)] 180) = WA at *
      generalize wr.heap.size = H0 at *
      refine (free_new1 base q _ S N rs b (pb k) M _ WA HSZ.out HBA.out hN hM (by omega) HFK.out (fun j hj => HNK.out j (by simpa using hj))).mono ?_
      rintro en w1 ⟨rfl, h1, h2⟩
      have H1 := hide h1
      have H2 := hide (HKA.out.trans h2)
      obtain ⟨cs, hb1, hb2⟩ := HBX.out
      have d2 := (h2.cell (p := ⟨H0, 1, none⟩) (cell_lt hb2) (far60 hb1)).trans hb2
      obtain ⟨_, s1, s2⟩ := bxs_cells (bxs_kb H2.out H.out.1)
      have HF2 := hide (show ∀ a c, ((F a c ∨ ∃ m, m < k ∧ ((a = b ∧ c = pb m) ∨ (a = pe m ∧ c = e))) ∨ (a = b ∧ c = pb k)) → c < M from fun a c h => by
        rcases h with h | ⟨_, h⟩
        · exact HFK.out a c h
        · rw [h]; exact HPK.out.2)
      clear h1 h2 hb1 hb2 c1 c2 r1 r2
      go_wp2_with fail
      refine (free_new1 base q _ S N rs (pe k) e M _ w1 rfl H1.out hN hM HPK.out.1 HF2.out HNK2.out).mono ?_
      rintro en w2 ⟨rfl, h1, h2⟩
      have H3 := hide h1
      have H4 := hide (H2.out.trans h2)
      clear h1 h2 d2 s1 s2
      go_wp2
      go_roundw
      case rel => exact ⟨k + 1, by omega, by go_num, bm_congr H3.out (fun a c => by
        constructor
        · rintro (((h | ⟨m, h1, h2⟩) | h) | h)
          · exact .inl h
          · exact .inr ⟨m, by omega, h2⟩
          · exact .inr ⟨k, by omega, .inl h⟩
          · exact .inr ⟨k, by omega, .inr h⟩
        · rintro (h | ⟨m, h1, h2⟩)
          · exact .inl (.inl (.inl h))
          · by_cases q : m = k
            · subst q
              rcases h2 with h2 | h2
              · exact .inl (.inr h2)
              · exact .inr h2
            · exact .inl (.inl (.inr ⟨m, by omega, h2⟩))) (fun _ _ _ => Iff.rfl), H4.out⟩
      case measure => simp [intOf]; omega
    · have e' : k = K := by omega
      subst e'
      clear r1 r2
      go_wp2
      go_end0
      exact ⟨rfl, HBM.out, H.out.2.1.trans HKB.out⟩

/-- The cells that an option's steps read. -/
theorem opt_cells {base : Nat} {W w1 : World} {P ss : Nat} {kk : Int} {x : Value} {b e g off K : Nat} {pb pe : Nat → Nat} (hk : Kb base W w1) (hx : Bxs W P kk ss x b e) (hp : Pts W (some ⟨g, off, none⟩) K pb pe) (h0 : 0 < K) :
    (w1.cell? ⟨g, off, none⟩ = some (.int .i64 (pb 0 : Nat)) ∧ w1.cell? ⟨g, off + 1, none⟩ = some (.int .i64 (pe 0 : Nat))) ∧ w1.cell? ⟨P + 1, 0, none⟩ = some (.int .i64 b) ∧ w1.cell? ⟨P + 1, 1, none⟩ = some (.int .i64 e) := by
  obtain ⟨g', off', e', k1, k2⟩ := pts_at (pts_kb hk hp) h0
  cases e'
  rw [show off + 0 * 2 = off by omega] at k1 k2
  obtain ⟨_, j1, j2⟩ := bxs_cells (bxs_kb hk hx)
  exact ⟨⟨k1, k2⟩, j1, j2⟩
theorem kb_drew (base : Nat) (w : World) : Kb base w w.drew := Kb.of_below (below_drew1 w)

set_option maxRecDepth 100000 in
set_option maxHeartbeats 3200000 in
theorem steps_k5 (base q : Nat) (F : Nat → Nat → Prop) (S : Nat → Nat → Nat → Prop) (N : Nat) (rs : List Int) (ss : Nat) (x : Value) (a : Option Addr) (cap b e M : Nat) (pb pe : Nat → Nat) (w : World) (hB : Bm w base q F S N rs) (hN : N ≤ 10000) (hM : M ≤ 10000) (hFM : ∀ a b, F a b → b < M) (heM : e < M) (heN : e < N) (hbe : b < e)
    (hg : Geo b e 1 pb pe) (hFb : ∀ m j, m ≤ 1 → ¬ F (src b pe m) j) (hP : Pts w a 1 pb pe) :
    Calls Tryz.prog 147 #[.pointer (some ⟨q, 0, none⟩), .agg #[.int .u8 5, .int .u16 ss, x], .agg #[.int .i64 b, .int .i64 e], .slice a 1 cap] w fun en w' => en = .returned (.tuple #[]) ∧ Bm w' base q (fun i j => ((F i j ∨ (i = b ∧ j = pb 0)) ∨ (i = b ∧ j = e)) ∨ (i = pe 0 ∧ j = e)) S N rs ∧ Kb base w w' := by
  have H := hide (two_boxes hB 5 ss x b e)
  obtain ⟨p0, p1, p2⟩ := bxs_cells H.out.1
  obtain ⟨g, off, rfl, -, -⟩ := pts_at hP (show 0 < 1 by omega)
  have HP := hide (pts_kb H.out.2.1 hP)
  have g1 := hg.lo 0 (by omega)
  have g2 := hg.mid 0 (by omega)
  have g3 := hg.hi 0 (by omega)
  have HF := hide hFM
  have HF2 := hide (show ∀ a c, ((F a c ∨ (a = b ∧ c = pb 0)) ∨ (a = b ∧ c = e)) → c < M from fun a c h => by
    rcases h with (h | ⟨_, rfl⟩) | ⟨_, rfl⟩
    · exact hFM a c h
    · omega
    · exact heM)
  have HZ1 := hide (show ∀ j, F b j → j < pb 0 from fun j h => (hFb 0 j (by omega) h).elim)
  have HZ2 := hide (show ∀ j, ((F (pe 0) j ∨ (pe 0 = b ∧ j = pb 0)) ∨ (pe 0 = b ∧ j = e)) → j < e from fun j h => by
    rcases h with (h | ⟨h, _⟩) | ⟨h, _⟩
    · exact (hFb 1 j (by omega) h).elim
    · omega
    · omega)
  have HPE := hide (show pe 0 < N ∧ pb 0 < e by omega)
  clear hB hFM hFb hP hg
  go_enter Tryz.func147, Tryz.ntmps147
  go_wp2_with fail
  generalize (w.alloc (.cells #[.int .u8 5, .int .u16 ss, x] 55)).alloc (.cells #[.int .i64 b, .int .i64 e] 180) = W at *
  generalize hQ : w.heap.size = P at *
  clear p0 p1 p2
  obtain ⟨⟨c1, c2⟩, c3, c4⟩ := opt_cells (Kb.refl base W) H.out.1 HP.out (by omega)
  have HBD := hide (bm_below (below_drew1 W) H.out.2.2.1)
  go_region_held3 (fun w' => w'.cell? ⟨g, off, none⟩ = some (.int .i64 (pb 0 : Nat)) ∧ w'.cell? ⟨P + 1, 0, none⟩ = some (.int .i64 b) ∧ w'.cell? ⟨P + 1, 1, none⟩ = some (.int .i64 e)) (first | assumption | go_keep) ((go_at_call 124; refine (free_new2 base q _ S N rs b (pb 0) e M _ W.drew rfl HBD.out hN hM (by omega) HF.out HZ1.out HPE.out.2).mono ?_; rintro en w2 ⟨rfl, h1, h2⟩; obtain ⟨⟨k1, k2⟩, k3, k4⟩ := opt_cells ((kb_drew base W).trans h2) H.out.1 HP.out (by omega); have k9 := And.intro k1 (And.intro k3 k4)))
  have HB2 := hide h1
  have HKB2 := hide ((Kb.refl base W).trans ((kb_drew base W).trans h2))
  clear h1 h2 k9 k1 k2 k3 k4 c1 c2 c3 c4 HBD
  go_wp2_with fail
  obtain ⟨⟨c1, c2⟩, c3, c4⟩ := opt_cells HKB2.out H.out.1 HP.out (by omega)
  have HBD := hide (bm_below (below_drew1 w2) HB2.out)
  go_region_held3 (fun w' => w'.cell? ⟨g, off + 1, none⟩ = some (.int .i64 (pe 0 : Nat)) ∧ w'.cell? ⟨P + 1, 1, none⟩ = some (.int .i64 e)) (first | assumption | go_keep) ((go_at_call 124; refine (free_new1 base q _ S N rs (pe 0) e M _ w2.drew rfl HBD.out hN hM HPE.out.1 HF2.out HZ2.out).mono ?_; rintro en w3 ⟨rfl, h1, h2⟩; obtain ⟨⟨k1, k2⟩, k3, k4⟩ := opt_cells (HKB2.out.trans ((kb_drew base w2).trans h2)) H.out.1 HP.out (by omega); have k9 := And.intro k2 k4))
  have HB3 := hide h1
  have HKB3 := hide (HKB2.out.trans ((kb_drew base w2).trans h2))
  clear h1 h2 k9 k1 k2 k3 k4 c1 c2 c3 c4 HBD
  go_wp2
  go_end0
  exact ⟨rfl, HB3.out, H.out.2.1.trans HKB3.out⟩

set_option maxRecDepth 100000 in
set_option maxHeartbeats 3200000 in
theorem steps_k4 (base q : Nat) (F : Nat → Nat → Prop) (S : Nat → Nat → Nat → Prop) (N : Nat) (rs : List Int) (ss : Nat) (x : Value) (a : Option Addr) (cap b e M : Nat) (pb pe : Nat → Nat) (w : World) (hB : Bm w base q F S N rs) (hN : N ≤ 10000) (hM : M ≤ 10000) (hFM : ∀ a b, F a b → b < M) (heM : e < M) (heN : e < N) (hbe : b < e)
    (hg : Geo b e 1 pb pe) (hFb : ∀ m j, m ≤ 1 → ¬ F (src b pe m) j) (hP : Pts w a 1 pb pe) :
    Calls Tryz.prog 147 #[.pointer (some ⟨q, 0, none⟩), .agg #[.int .u8 4, .int .u16 ss, x], .agg #[.int .i64 b, .int .i64 e], .slice a 1 cap] w fun en w' => en = .returned (.tuple #[]) ∧ Bm w' base q (fun i j => (((F i j ∨ (i = pe 0 ∧ j = pb 0)) ∨ (i = b ∧ j = pb 0)) ∨ (i = b ∧ j = e)) ∨ (i = pe 0 ∧ j = e)) S N rs ∧ Kb base w w' := by
  have H := hide (two_boxes hB 4 ss x b e)
  obtain ⟨p0, p1, p2⟩ := bxs_cells H.out.1
  obtain ⟨g, off, rfl, -, -⟩ := pts_at hP (show 0 < 1 by omega)
  have HP := hide (pts_kb H.out.2.1 hP)
  have g1 := hg.lo 0 (by omega)
  have g2 := hg.mid 0 (by omega)
  have g3 := hg.hi 0 (by omega)
  have HF := hide hFM
  have HF1 := hide (show ∀ a c, (F a c ∨ (a = pe 0 ∧ c = pb 0)) → c < M from fun a c h => by
    rcases h with h | ⟨_, rfl⟩
    · exact hFM a c h
    · omega)
  have HF2 := hide (show ∀ a c, (((F a c ∨ (a = pe 0 ∧ c = pb 0)) ∨ (a = b ∧ c = pb 0)) ∨ (a = b ∧ c = e)) → c < M from fun a c h => by
    rcases h with ((h | ⟨_, rfl⟩) | ⟨_, rfl⟩) | ⟨_, rfl⟩
    · exact hFM a c h
    · omega
    · omega
    · exact heM)
  have HZ0 := hide (show ∀ j, F (pe 0) j → j < pb 0 from fun j h => (hFb 1 j (by omega) h).elim)
  have HZ1 := hide (show ∀ i, i = b → ∀ j, (F i j ∨ (i = pe 0 ∧ j = pb 0)) → j < pb 0 from fun i hi j h => by
    subst hi
    rcases h with h | ⟨h, _⟩
    · exact (hFb 0 j (by omega) h).elim
    · omega)
  have HZ2 := hide (show ∀ i, i = pe 0 → ∀ j, (((F i j ∨ (i = pe 0 ∧ j = pb 0)) ∨ (i = b ∧ j = pb 0)) ∨ (i = b ∧ j = e)) → j < e from fun i hi j h => by
    rcases h with ((h | ⟨_, h⟩) | ⟨h, _⟩) | ⟨h, _⟩
    · subst hi; exact (hFb 1 j (by omega) h).elim
    · omega
    · omega
    · omega)
  have HPE := hide (show pe 0 < N ∧ pb 0 < e by omega)
  clear hB hFM hFb hP hg
  go_enter Tryz.func147, Tryz.ntmps147
  go_wp2_with fail
  generalize (w.alloc (.cells #[.int .u8 4, .int .u16 ss, x] 55)).alloc (.cells #[.int .i64 b, .int .i64 e] 180) = W at *
  generalize hQ : w.heap.size = P at *
  clear p0 p1 p2
  obtain ⟨⟨c1, c2⟩, c3, c4⟩ := opt_cells (Kb.refl base W) H.out.1 HP.out (by omega)
  have HBD := hide (bm_below (below_drew1 W) H.out.2.2.1)
  go_region_held3 (fun w' => w'.cell? ⟨g, off + 1, none⟩ = some (.int .i64 (pe 0 : Nat)) ∧ w'.cell? ⟨g, off, none⟩ = some (.int .i64 (pb 0 : Nat))) (first | assumption | go_keep) ((go_at_call 124; refine (free_new1 base q _ S N rs (pe 0) (pb 0) M _ W.drew rfl HBD.out hN hM HPE.out.1 HF.out HZ0.out).mono ?_; rintro en w1 ⟨rfl, h1, h2⟩; obtain ⟨⟨k1, k2⟩, k3, k4⟩ := opt_cells ((kb_drew base W).trans h2) H.out.1 HP.out (by omega); have k9 := And.intro k2 k1))
  have HB1 := hide h1
  have HKB1 := hide ((kb_drew base W).trans h2)
  clear h1 h2 k9 k1 k2 k3 k4 c1 c2 c3 c4 HBD
  go_wp2_with fail
  obtain ⟨⟨c1, c2⟩, c3, c4⟩ := opt_cells HKB1.out H.out.1 HP.out (by omega)
  have HBD := hide (bm_below (below_drew1 w1) HB1.out)
  go_region_held3 (fun w' => w'.cell? ⟨g, off, none⟩ = some (.int .i64 (pb 0 : Nat)) ∧ w'.cell? ⟨P + 1, 0, none⟩ = some (.int .i64 b) ∧ w'.cell? ⟨P + 1, 1, none⟩ = some (.int .i64 e)) (first | assumption | go_keep) ((go_at_call 124; refine (free_new2 base q _ S N rs b (pb 0) e M _ w1.drew rfl HBD.out hN hM (by omega) HF1.out (HZ1.out b rfl) HPE.out.2).mono ?_; rintro en w2 ⟨rfl, h1, h2⟩; obtain ⟨⟨k1, k2⟩, k3, k4⟩ := opt_cells (HKB1.out.trans ((kb_drew base w1).trans h2)) H.out.1 HP.out (by omega); have k9 := And.intro k1 (And.intro k3 k4)))
  have HB2 := hide h1
  have HKB2 := hide (HKB1.out.trans ((kb_drew base w1).trans h2))
  clear h1 h2 k9 k1 k2 k3 k4 c1 c2 c3 c4 HBD
  go_wp2_with fail
  obtain ⟨⟨c1, c2⟩, c3, c4⟩ := opt_cells HKB2.out H.out.1 HP.out (by omega)
  have HBD := hide (bm_below (below_drew1 w2) HB2.out)
  go_region_held3 (fun w' => w'.cell? ⟨g, off + 1, none⟩ = some (.int .i64 (pe 0 : Nat)) ∧ w'.cell? ⟨P + 1, 1, none⟩ = some (.int .i64 e)) (first | assumption | go_keep) ((go_at_call 124; refine (free_new1 base q _ S N rs (pe 0) e M _ w2.drew rfl HBD.out hN hM HPE.out.1 HF2.out (HZ2.out (pe 0) rfl)).mono ?_; rintro en w3 ⟨rfl, h1, h2⟩; obtain ⟨⟨k1, k2⟩, k3, k4⟩ := opt_cells (HKB2.out.trans ((kb_drew base w2).trans h2)) H.out.1 HP.out (by omega); have k9 := And.intro k2 k4))
  have HB3 := hide h1
  have HKB3 := hide (HKB2.out.trans ((kb_drew base w2).trans h2))
  clear h1 h2 k9 k1 k2 k3 k4 c1 c2 c3 c4 HBD
  go_wp2
  go_end0
  exact ⟨rfl, HB3.out, H.out.2.1.trans HKB3.out⟩
end Go.Proofs.YtbbfjjjnifomgaaGreatDoor.A

/- The program's builder: the steps of a node that is a set. -/
namespace Go.Proofs.YtbbfjjjnifomgaaGreatDoor.A
open Go.RowKit

section
variable {w : World} {base q : Nat} {v0 v1 v2 v3 : Value} {vf : List Value} {ff : List (List Int)} {ss : List Nat} {ts rs : List Int} {g c n : Nat}
theorem kb_set {cs : Array Value} {t : TypeId} {fr : Nat × Nat} {i : Nat} {u : Value} (hg : w.heap[g]? = some (.cells cs t fr)) (hlow : base ≤ g) (ht : t = 178 ∨ t = 23 ∨ t = 53 ∨ t = 3) : Kb base w (w.setCell ⟨g, i, none⟩ u) :=
  ⟨rfl, rfl, rfl, by simp, fun k hk hf => Below.heap_setCell _ _ _ _ (fun e => far_near hf ⟨by rw [show k = g from e]; exact hlow, cs, t, fr, by rw [show k = g from e]; exact hg, ht⟩)⟩
theorem bv_setS (h : Bv w base q v0 (.slice (some ⟨g, 0, none⟩) n c) v2 v3 vf ff ss ts rs) (hn : ss.length = n) (i s : Nat) :
    Bv (w.setCell ⟨g, i, none⟩ (.int .u16 s)) base q v0 (.slice (some ⟨g, 0, none⟩) n c) v2 v3 vf ff (ss.set i s) ts rs ∧ Kb base w (w.setCell ⟨g, i, none⟩ (.int .u16 s)) := by
  subst hn
  obtain ⟨hlo, hlt, cs, hg⟩ := own_type h.o1 (k := g) rfl
  have hqg : q ≠ g := fun e => by subst e; have := h.blk; rw [hg] at this; cases this
  have mv : ∀ {e : TypeId} {v : Value} {n : Nat} {xs : List Value}, w.ownsRow base e 1 v n xs → e ≠ 53 → (w.setCell ⟨g, i, none⟩ (.int .u16 s)).ownsRow base e 1 v n xs := fun hv h2 => set_far hv (own_not hv hg h2)
  refine ⟨⟨by rw [Below.heap_setCell _ _ _ _ hqg]; exact h.blk, h.low, mv h.o0 (by decide), ?_, mv h.o2 (by decide), mv h.o3 (by decide), h.len, fun j v l a b => mv (h.rows j v l a b) (by decide), h.ap⟩, kb_set hg hlo (by simp)⟩
  have := (h.o1.stored i (.int .u16 s)).1
  rw [List.length_set, List.map_set]
  exact this
theorem bv_setT (h : Bv w base q v0 v1 (.slice (some ⟨g, 0, none⟩) n c) v3 vf ff ss ts rs) (hn : ts.length = n) (i : Nat) (t : Int) :
    Bv (w.setCell ⟨g, i, none⟩ (.int .i64 t)) base q v0 v1 (.slice (some ⟨g, 0, none⟩) n c) v3 vf ff ss (ts.set i t) rs ∧ Kb base w (w.setCell ⟨g, i, none⟩ (.int .i64 t)) := by
  subst hn
  obtain ⟨hlo, hlt, cs, hg⟩ := own_type h.o2 (k := g) rfl
  have hqg : q ≠ g := fun e => by subst e; have := h.blk; rw [hg] at this; cases this
  obtain ⟨a2, a3⟩ := List.pairwise_cons.1 h.ap
  have mv : ∀ {e : TypeId} {v : Value} {n : Nat} {xs : List Value}, w.ownsRow base e 1 v n xs → Ap (.slice (some ⟨g, 0, none⟩) ts.length c) v → (w.setCell ⟨g, i, none⟩ (.int .i64 t)).ownsRow base e 1 v n xs := fun hv h2 => set_far hv (fun e => h2 g rfl e)
  refine ⟨⟨by rw [Below.heap_setCell _ _ _ _ hqg]; exact h.blk, h.low, mv h.o0 (own_types h.o2 h.o0 (by decide)), mv h.o1 (own_types h.o2 h.o1 (by decide)), ?_, mv h.o3 (a2 v3 (by simp)), h.len, fun j v l a b => mv (h.rows j v l a b) (a2 v (by simp [List.mem_of_getElem? a])), h.ap⟩, kb_set hg hlo (by simp)⟩
  have := (h.o2.stored i (.int .i64 t)).1
  rw [List.length_set, List.map_set]
  exact this
theorem bv_setR (h : Bv w base q v0 v1 v2 (.slice (some ⟨g, 0, none⟩) n c) vf ff ss ts rs) (hn : rs.length = n) (i : Nat) (t : Int) :
    Bv (w.setCell ⟨g, i, none⟩ (.int .i64 t)) base q v0 v1 v2 (.slice (some ⟨g, 0, none⟩) n c) vf ff ss ts (rs.set i t) ∧ Kb base w (w.setCell ⟨g, i, none⟩ (.int .i64 t)) := by
  subst hn
  obtain ⟨hlo, hlt, cs, hg⟩ := own_type h.o3 (k := g) rfl
  have hqg : q ≠ g := fun e => by subst e; have := h.blk; rw [hg] at this; cases this
  obtain ⟨a2, a3⟩ := List.pairwise_cons.1 h.ap
  obtain ⟨a4, a5⟩ := List.pairwise_cons.1 a3
  have mv : ∀ {e : TypeId} {v : Value} {n : Nat} {xs : List Value}, w.ownsRow base e 1 v n xs → Ap (.slice (some ⟨g, 0, none⟩) rs.length c) v → (w.setCell ⟨g, i, none⟩ (.int .i64 t)).ownsRow base e 1 v n xs := fun hv h2 => set_far hv (fun e => h2 g rfl e)
  refine ⟨⟨by rw [Below.heap_setCell _ _ _ _ hqg]; exact h.blk, h.low, mv h.o0 (own_types h.o3 h.o0 (by decide)), mv h.o1 (own_types h.o3 h.o1 (by decide)), mv h.o2 (a2 _ (by simp)).symm, ?_, h.len, fun j v l a b => mv (h.rows j v l a b) (a4 v (List.mem_of_getElem? a)), h.ap⟩, kb_set hg hlo (by simp)⟩
  have := (h.o3.stored i (.int .i64 t)).1
  rw [List.length_set, List.map_set]
  exact this
end

set_option maxRecDepth 100000 in
set_option maxHeartbeats 3200000 in
theorem steps_k1 (base q : Nat) (F : Nat → Nat → Prop) (S : Nat → Nat → Nat → Prop) (N : Nat) (rs : List Int) (ss : Nat) (x v : Value) (b e : Nat) (w : World) (hB : Bm w base q F S N rs) (hN : N ≤ 10000) (hb : b < N) (hS : ∀ s j, ¬ S b s j) :
    Calls Tryz.prog 147 #[.pointer (some ⟨q, 0, none⟩), .agg #[.int .u8 1, .int .u16 ss, x], .agg #[.int .i64 b, .int .i64 e], v] w fun en w' => en = .returned (.tuple #[]) ∧ Bm w' base q F (fun i s j => S i s j ∨ (i = b ∧ s = ss ∧ j = e)) N rs ∧ Kb base w w' := by
  have H := hide (two_boxes hB 1 ss x b e)
  obtain ⟨p0, p1, p2⟩ := bxs_cells H.out.1
  have HS := hide hS
  clear hB hS
  go_enter Tryz.func147, Tryz.ntmps147
  go_wp2_with fail
  generalize (w.alloc (.cells #[.int .u8 1, .int .u16 ss, x] 55)).alloc (.cells #[.int .i64 b, .int .i64 e] 180) = W at *
  generalize hQ : w.heap.size = P at *
  obtain ⟨ff, ss', ts, ⟨v0, v1, v2, v3, vf, hv⟩, hi, hr⟩ := H.out.2.2.1
  obtain ⟨g1, c1, rfl, hl1, hb1⟩ := hv.o1.form (by rw [hi.ls]; omega)
  obtain ⟨g2, c2, rfl, hl2, hb2⟩ := hv.o2.form (by rw [hi.lt]; omega)
  obtain ⟨⟨d0, d1, d2, d3⟩, fz⟩ := q_cells hv.blk
  have f1 := hv.o1.frozenAt b
  have f2 := hv.o2.frozenAt b
  obtain ⟨j0, j1⟩ := H.out.1
  have x1 := own_not hv.o1 hv.blk (by decide)
  have x2 := own_not hv.o2 hv.blk (by decide)
  have x3 := own_not hv.o1 j0 (by decide)
  have x4 := own_not hv.o2 j0 (by decide)
  have x5 := own_not hv.o1 j1 (by decide)
  have x6 := own_not hv.o2 j1 (by decide)
  have x7 := own_types hv.o1 hv.o2 (by decide) g1 rfl
  simp only [Value.ownBlock, ne_eq, Option.some.injEq] at x1 x2 x3 x4 x5 x6 x7
  have x7' : ¬ g1 = g2 := fun h => x7 h.symm
  have y1 : ¬ q = g1 := fun h => x1 h.symm
  have y2 : ¬ q = g2 := fun h => x2 h.symm
  have y3 : ¬ P = g1 := fun h => x3 h.symm
  have y4 : ¬ P = g2 := fun h => x4 h.symm
  have y5 : ¬ P + 1 = g1 := fun h => x5 h.symm
  have y6 : ¬ P + 1 = g2 := fun h => x6 h.symm
  have HV := hide hv
  have HI := hide hi
  have hl1 := hi.ls
  have hl2 := hi.lt
  rw [hl1] at d1
  rw [hl2] at d2
  obtain ⟨sb, hsb⟩ : ∃ sb, ss'[b]? = some sb := ⟨_, List.getElem?_eq_getElem (by omega)⟩
  obtain ⟨tb, htb⟩ : ∃ tb, ts[b]? = some tb := ⟨_, List.getElem?_eq_getElem (by omega)⟩
  have k1 : W.cell? ⟨g1, b, none⟩ = some (.int .u16 (sb : Nat)) := by
    rw [hv.o1.cellAt b (by rw [hl1]; omega)]; simp [List.getElem?_map, hsb]
  have k2 : W.cell? ⟨g2, b, none⟩ = some (.int .i64 tb) := by
    rw [hv.o2.cellAt b (by rw [hl2]; omega)]; simp [List.getElem?_map, htb]
  have HR := hide hr
  clear hv hi hr hl1 hl2 j0 j1 d0 d3 fz hsb htb
  have i3 : (0 : Int) ≤ (b : Int) := by omega
  have i4 : (b : Int) < (N : Int) := by omega
  go_region_held3 (fun w' => w'.cell? ⟨q, 1, none⟩ = some (.slice (some ⟨g1, 0, none⟩) N c1) ∧ w'.cell? ⟨q, 2, none⟩ = some (.slice (some ⟨g2, 0, none⟩) N c2) ∧ w'.cell? ⟨P, 1, none⟩ = some (.int .u16 ss) ∧ w'.cell? ⟨P + 1, 0, none⟩ = some (.int .i64 b) ∧ w'.cell? ⟨P + 1, 1, none⟩ = some (.int .i64 e)) (first | assumption | go_keep) (fail)
  all_goals
    go_wp2
    go_end0
    have q1 := bv_setS HV.out rfl b ss
    have q2 := bv_setT q1.1 rfl b (e : Int)
    exact ⟨rfl, bm_below (below_drew1 _) ⟨ff, ss'.set b ss, ts.set b (e : Int), ⟨_, _, _, _, _, q2.1⟩, is_set HI.out hb HS.out, HR.out⟩, (H.out.2.1.trans (q1.2.trans q2.2)).drew⟩
end Go.Proofs.YtbbfjjjnifomgaaGreatDoor.A


