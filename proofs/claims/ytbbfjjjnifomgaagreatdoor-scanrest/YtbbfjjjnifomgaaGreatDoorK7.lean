/- Ahead of layer 6: a machine's memory; the document's Step. -/
import Derived.WalkKit
import Derived.ProofKit
import Derived.Outline
import Derived.BigQuiet
import Derived.Deep.QuietTactic
import Derived.Below
import Derived.Deep.RegionHeld3
import Derived.OpenShut
import Derived.Deep.Slices
import Derived.Deep.Strs
import Derived.Deep.OwnRows
import Derived.Deep.WholeRow
import Derived.Test.YtbbfjjjnifomgaaGreatDoorK1
import Derived.Test.YtbbfjjjnifomgaaGreatDoorK3
import Derived.Test.YtbbfjjjnifomgaaGreatDoorK4
namespace Go.Proofs.YtbbfjjjnifomgaaGreatDoor.A
open Go.RowKit

theorem box4 (w : World) (u0 u1 u2 u3 : Value) (t : TypeId) : (w.alloc (.cells #[u0, u1, u2, u3] t)).cell? ⟨w.heap.size, 0, none⟩ = some u0 ∧ (w.alloc (.cells #[u0, u1, u2, u3] t)).cell? ⟨w.heap.size, 1, none⟩ = some u1 ∧ (w.alloc (.cells #[u0, u1, u2, u3] t)).cell? ⟨w.heap.size, 2, none⟩ = some u2 ∧ (w.alloc (.cells #[u0, u1, u2, u3] t)).cell? ⟨w.heap.size, 3, none⟩ = some u3 := by
  refine ⟨?_, ?_, ?_, ?_⟩ <;> simp
/-- Sets at a slice. -/
def Sts (w : World) (a : Option Addr) (ss : List Nat) : Prop := ∀ (i s : Nat), ss[i]? = some s → ∃ b off, a = some ⟨b, off, none⟩ ∧ w.cell? ⟨b, off + i, none⟩ = some (.int .u16 (s : Int)) ∧ s < 65536
theorem sts_below {w w' : World} {a : Option Addr} {ss : List Nat} (hb : Below w.heap.size w w') (h : Sts w a ss) : Sts w' a ss := fun i s hs => by
  obtain ⟨b, off, e, k, l⟩ := h i s hs
  exact ⟨b, off, e, (hb.cell (p := ⟨b, off + i, none⟩) (cell_lt k)).trans k, l⟩
/-- Which states are stepped to from the first k. -/
def stpB (ss : List Nat) (ts : List Int) (c : Int) (o : Nat → Bool) (k j : Nat) : Bool := (List.range k).any fun i => o i && (match ss[i]?, ts[i]? with | some s, some t => inS s c && t == (j : Int) | _, _ => false)
theorem inS_out {s : Nat} {c : Int} (h : ¬ (0 ≤ c ∧ c < 16)) : inS s c = false := by
  unfold inS
  by_cases c0 : 0 ≤ c
  · have : decide (c < 16) = false := by simp; omega
    simp [this]
  · simp [c0]

end Go.Proofs.YtbbfjjjnifomgaaGreatDoor.A



/- Ahead of layer 6: the document's Ends of a machine: the least rule at some states. -/
namespace Go.Proofs.YtbbfjjjnifomgaaGreatDoor.A
open Go.RowKit

/-- Is a rule at one of the first k states? -/
def atB (rs : List Int) (o : Nat → Bool) (r : Int) (k : Nat) : Bool := (List.range k).any fun i => o i && rs[i]? == some r
/-- The least rule from r on of m; -1: none. -/
def leastR (p : Int → Bool) : Nat → Int → Int
  | 0, _ => -1
  | m + 1, r => if p r then r else leastR p m (r + 1)
/-- The least rule at some states. -/
def endR (rs : List Int) (o : Nat → Bool) (N : Nat) : Int := leastR (fun r => atB rs o r N) 16 0
end Go.Proofs.YtbbfjjjnifomgaaGreatDoor.A



/- Ahead of layer 6: the document's Close: what is reached by free steps. -/
namespace Go.Proofs.YtbbfjjjnifomgaaGreatDoor.A
open Go.RowKit

/-- Free steps at a slice. -/
def Fs (w : World) (a : Option Addr) (fs : List (List Int)) : Prop := ∀ (i : Nat) (l : List Int), fs[i]? = some l → ∃ b off a' c', a = some ⟨b, off, none⟩ ∧ w.cell? ⟨b, off + i, none⟩ = some (.slice a' l.length c') ∧ Wd w a' l
theorem fs_below {w w' : World} {a : Option Addr} {fs : List (List Int)} (hb : Below w.heap.size w w') (h : Fs w a fs) : Fs w' a fs := fun i l hl => by
  obtain ⟨b, off, a', c', e, k, d⟩ := h i l hl
  exact ⟨b, off, a', c', e, (hb.cell (p := ⟨b, off + i, none⟩) (cell_lt k)).trans k, wd_below hb d⟩
/-- What is reached by free steps from states that are marked. -/
inductive Rch (fs : List (List Int)) (N : Nat) (o : Nat → Bool) : Nat → Prop
  | here {j : Nat} (hn : j < N) (h : o j = true) : Rch fs N o j
  | on {i j : Nat} {l : List Int} (h : Rch fs N o i) (hl : fs[i]? = some l) (hj : (j : Int) ∈ l) : Rch fs N o j
/-- Marks that are just what is reached. -/
def IsCl (fs : List (List Int)) (N : Nat) (o g : Nat → Bool) : Prop := ∀ j, j < N → (g j = true ↔ Rch fs N o j)
/-- How many are not marked. -/
def cntF (g : Nat → Bool) : Nat → Nat
  | 0 => 0
  | n + 1 => cntF g n + (match g n with | true => 0 | false => 1)
theorem cntF_mono {g h : Nat → Bool} : ∀ n, (∀ j, j < n → g j = true → h j = true) → cntF h n ≤ cntF g n
  | 0, _ => Nat.le_refl _
  | n + 1, e => by
    have h1 := cntF_mono n (fun j hj => e j (by omega))
    have h2 := e n (by omega)
    unfold cntF
    cases hg : g n <;> cases hh : h n <;> simp_all <;> omega
theorem cntF_lt {g h : Nat → Bool} : ∀ n, (∀ j, j < n → g j = true → h j = true) → ∀ z, z < n → g z = false → h z = true → cntF h n < cntF g n
  | 0, _, z, hz, _, _ => by omega
  | n + 1, e, z, hz, h0, h1 => by
    by_cases q : z = n
    · subst q
      have h3 := cntF_mono z (fun j hj => e j (by omega))
      unfold cntF
      rw [h0, h1]
      show cntF h z + 0 < cntF g z + 1
      omega
    · have h3 := cntF_lt n (fun j hj => e j (by omega)) z (by omega) h0 h1
      have h2 := e n (by omega)
      unfold cntF
      cases hg : g n <;> cases hh : h n <;> simp_all <;> omega
/-- Closed at a state. -/
def ClAt (fs : List (List Int)) (g : Nat → Bool) (i : Nat) : Prop := g i = true → ∀ l, fs[i]? = some l → ∀ (j : Nat), (j : Int) ∈ l → g j = true
theorem closed_rch {fs : List (List Int)} {o g : Nat → Bool} {N : Nat} (h0 : ∀ j, j < N → o j = true → g j = true) (hc : ∀ i, i < N → ClAt fs g i) (hok : ∀ (i : Nat) (l : List Int), fs[i]? = some l → ∀ z ∈ l, 0 ≤ z ∧ z < (N : Int)) {j : Nat} (h : Rch fs N o j) : g j = true ∧ j < N := by
  induction h with
  | here hn h => exact ⟨h0 _ hn h, hn⟩
  | on _ hl' hj ih => exact ⟨hc _ ih.2 ih.1 _ hl' _ hj, by have := hok _ _ hl' _ hj; omega⟩
theorem closed_is {fs : List (List Int)} {o g : Nat → Bool} {N : Nat} (h0 : ∀ j, j < N → o j = true → g j = true) (h1 : ∀ j, j < N → g j = true → Rch fs N o j) (hc : ∀ i, i < N → ClAt fs g i) (hok : ∀ (i : Nat) (l : List Int), fs[i]? = some l → ∀ z ∈ l, 0 ≤ z ∧ z < (N : Int)) : IsCl fs N o g :=
  fun j hj => ⟨h1 j hj, fun h => (closed_rch h0 hc hok h).1⟩
theorem rch_congr {fs : List (List Int)} {o o' : Nat → Bool} {N : Nat} (e : ∀ j, j < N → o j = o' j) {j : Nat} (h : Rch fs N o j) : Rch fs N o' j := by
  induction h with
  | here hn h => exact .here hn (by rw [← e _ hn]; exact h)
  | on _ hl hj ih => exact .on ih hl hj
theorem isCl_congr {fs : List (List Int)} {o o' g : Nat → Bool} {N : Nat} (e : ∀ j, j < N → o j = o' j) (h : IsCl fs N o g) : IsCl fs N o' g :=
  fun j hj => (h j hj).trans ⟨rch_congr e, rch_congr fun j hj => (e j hj).symm⟩
/-- Two such marks are one. -/
theorem isCl_one {fs : List (List Int)} {o g g' : Nat → Bool} {N : Nat} (h : IsCl fs N o g) (h' : IsCl fs N o g') (j : Nat) (hj : j < N) : g j = g' j := by
  rw [Bool.eq_iff_iff]; exact (h j hj).trans (h' j hj).symm

end Go.Proofs.YtbbfjjjnifomgaaGreatDoor.A


