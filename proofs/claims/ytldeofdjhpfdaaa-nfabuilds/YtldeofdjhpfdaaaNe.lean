/- Ahead of layer 6: the document's Close: what is reached by free steps. -/
import Derived.Test.YtldeofdjhpfdaaaNc
namespace Go.Proofs.Ytldeofdjhpfdaaa.A
open Go.RowKit

/-- Free steps at a slice. -/
def Fs (w : World) (a : Option Addr) (fs : List (List Int)) : Prop := ∀ (i : Nat) (l : List Int), fs[i]? = some l → ∃ b off a' c', a = some ⟨b, off, none⟩ ∧ w.cell? ⟨b, off + i, none⟩ = some (.slice a' l.length c') ∧ Wd w a' l
theorem fs_below {w w' : World} {a : Option Addr} {fs : List (List Int)} (hb : Below w.heap.size w w') (h : Fs w a fs) : Fs w' a fs := fun i l hl => by
  obtain ⟨b, off, a', c', e, k, d⟩ := h i l hl
  exact ⟨b, off, a', c', e, (hb.cell (p := ⟨b, off + i, none⟩) (cell_lt k)).trans k, wd_below hb d⟩
/-- What is reached by free steps from states that are marked. -/
inductive Rch (fs : List (List Int)) (N : Nat) (o : Nat → Bool) : Nat → Prop
  | here {j : Nat} (hn : j < N) (h : o j = true) : Rch fs N o j
  | on {i j : Nat} {l : List Int} (h : Rch fs N o i) (hl : fs[i]? = some l) (hj : (j : Int) ∈ l) : Rch fs N o j
/-- Marks that are just what is reached. -/
def IsCl (fs : List (List Int)) (N : Nat) (o g : Nat → Bool) : Prop := ∀ j, j < N → (g j = true ↔ Rch fs N o j)
/-- How many are not marked. -/
def cntF (g : Nat → Bool) : Nat → Nat
  | 0 => 0
  | n + 1 => cntF g n + (match g n with | true => 0 | false => 1)
theorem cntF_mono {g h : Nat → Bool} : ∀ n, (∀ j, j < n → g j = true → h j = true) → cntF h n ≤ cntF g n
  | 0, _ => Nat.le_refl _
  | n + 1, e => by
    have h1 := cntF_mono n (fun j hj => e j (by omega))
    have h2 := e n (by omega)
    unfold cntF
    cases hg : g n <;> cases hh : h n <;> simp_all <;> omega
theorem cntF_lt {g h : Nat → Bool} : ∀ n, (∀ j, j < n → g j = true → h j = true) → ∀ z, z < n → g z = false → h z = true → cntF h n < cntF g n
  | 0, _, z, hz, _, _ => by omega
  | n + 1, e, z, hz, h0, h1 => by
    by_cases q : z = n
    · subst q
      have h3 := cntF_mono z (fun j hj => e j (by omega))
      unfold cntF
      rw [h0, h1]
      show cntF h z + 0 < cntF g z + 1
      omega
    · have h3 := cntF_lt n (fun j hj => e j (by omega)) z (by omega) h0 h1
      have h2 := e n (by omega)
      unfold cntF
      cases hg : g n <;> cases hh : h n <;> simp_all <;> omega
theorem cntF_congr {g h : Nat → Bool} (n : Nat) (e : ∀ j, j < n → g j = h j) : cntF g n = cntF h n :=
  Nat.le_antisymm (cntF_mono n (fun j hj q => by rw [e j hj]; exact q)) (cntF_mono n (fun j hj q => by rw [← e j hj]; exact q))
/-- The same, read in memory. -/
def undone (w : World) (B : Nat) : Nat → Nat
  | 0 => 0
  | n + 1 => undone w B n + (match w.cell? ⟨B, n, none⟩ with | some (.bool false) => 1 | _ => 0)
theorem undone_of {w : World} {B N : Nat} {g : Nat → Bool} (d : Mk w B N g) : ∀ n, n ≤ N → undone w B n = cntF g n
  | 0, _ => rfl
  | n + 1, hn => by
    unfold undone cntF
    rw [undone_of d n (by omega), (mk_cell d (j := n) (by omega)).1]
    cases g n <;> rfl
/-- Where a round of closing stands: marks at its start, whether one was added, marks now. -/
def Rnd (fs : List (List Int)) (o : Nat → Bool) (N : Nat) (g0 : Nat → Bool) (b : Bool) (g : Nat → Bool) : Prop :=
  (∀ j, j < N → g0 j = true → g j = true) ∧ (∀ j, j < N → g j = true → Rch fs N o j) ∧ (b = true → cntF g N < cntF g0 N) ∧ (b = false → ∀ j, j < N → g j = g0 j)
theorem rnd_set {fs : List (List Int)} {o : Nat → Bool} {N : Nat} {g0 : Nat → Bool} {b : Bool} {g : Nat → Bool} (h : Rnd fs o N g0 b g) {z : Nat} (hz : z < N) (hr : Rch fs N o z) : Rnd fs o N g0 (b || !g z) (fun j => if j = z then true else g j) := by
  obtain ⟨h1, h2, h3, h4⟩ := h
  have up : ∀ j, j < N → g j = true → (if j = z then true else g j) = true := fun j _ q => by rw [q]; simp
  refine ⟨fun j hj q => up j hj (h1 j hj q), fun j hj q => ?_, fun q => ?_, fun q j hj => ?_⟩
  · by_cases e : j = z
    · subst e; exact hr
    · simp only [if_neg e] at q; exact h2 j hj q
  · cases hb : b
    · rw [hb] at q
      have hgz : g z = false := by simpa using q
      have := cntF_lt (h := fun j => if j = z then true else g j) N up z hz hgz (by simp)
      rw [cntF_congr (g := g) N (h4 hb)] at this
      exact this
    · exact Nat.lt_of_le_of_lt (cntF_mono N up) (h3 hb)
  · have hb : b = false := by cases hb : b <;> simp_all
    have hgz : g z = true := by rw [hb] at q; simpa using q
    rw [← h4 hb j hj]
    by_cases e : j = z
    · subst e; simp [hgz]
    · simp [e]
/-- Closed at a state. -/
def ClAt (fs : List (List Int)) (g : Nat → Bool) (i : Nat) : Prop := g i = true → ∀ l, fs[i]? = some l → ∀ (j : Nat), (j : Int) ∈ l → g j = true
theorem closed_rch {fs : List (List Int)} {o g : Nat → Bool} {N : Nat} (h0 : ∀ j, j < N → o j = true → g j = true) (hc : ∀ i, i < N → ClAt fs g i) (hok : ∀ (i : Nat) (l : List Int), fs[i]? = some l → ∀ z ∈ l, 0 ≤ z ∧ z < (N : Int)) {j : Nat} (h : Rch fs N o j) : g j = true ∧ j < N := by
  induction h with
  | here hn h => exact ⟨h0 _ hn h, hn⟩
  | on _ hl' hj ih => exact ⟨hc _ ih.2 ih.1 _ hl' _ hj, by have := hok _ _ hl' _ hj; omega⟩
theorem closed_is {fs : List (List Int)} {o g : Nat → Bool} {N : Nat} (h0 : ∀ j, j < N → o j = true → g j = true) (h1 : ∀ j, j < N → g j = true → Rch fs N o j) (hc : ∀ i, i < N → ClAt fs g i) (hok : ∀ (i : Nat) (l : List Int), fs[i]? = some l → ∀ z ∈ l, 0 ≤ z ∧ z < (N : Int)) : IsCl fs N o g :=
  fun j hj => ⟨h1 j hj, fun h => (closed_rch h0 hc hok h).1⟩
theorem rch_congr {fs : List (List Int)} {o o' : Nat → Bool} {N : Nat} (e : ∀ j, j < N → o j = o' j) {j : Nat} (h : Rch fs N o j) : Rch fs N o' j := by
  induction h with
  | here hn h => exact .here hn (by rw [← e _ hn]; exact h)
  | on _ hl hj ih => exact .on ih hl hj
theorem isCl_congr {fs : List (List Int)} {o o' g : Nat → Bool} {N : Nat} (e : ∀ j, j < N → o j = o' j) (h : IsCl fs N o g) : IsCl fs N o' g :=
  fun j hj => (h j hj).trans ⟨rch_congr e, rch_congr fun j hj => (e j hj).symm⟩
/-- Two such marks are one. -/
theorem isCl_one {fs : List (List Int)} {o g g' : Nat → Bool} {N : Nat} (h : IsCl fs N o g) (h' : IsCl fs N o g') (j : Nat) (hj : j < N) : g j = g' j := by
  rw [Bool.eq_iff_iff]; exact (h j hj).trans (h' j hj).symm

end Go.Proofs.Ytldeofdjhpfdaaa.A
