/- Ahead of layer 6: what is come to by the document's Close and Step, letter by letter, is what ways lead to. -/
import Derived.Test.YtldeofdjhpfdaaaNf
import Derived.Test.YtldeofdjhpfdaaaXf
namespace Go.Proofs.Ytldeofdjhpfdaaa.A

/-- A machine's free steps, and those by a set, as they lie in its lists. -/
def Ff (fs : List (List Int)) (i j : Nat) : Prop := ∃ l, fs[i]? = some l ∧ (j : Int) ∈ l
def Sf (ss : List Nat) (ts : List Int) (i s j : Nat) : Prop := ss[i]? = some s ∧ ts[i]? = some (j : Int)
theorem stpB_iff (ss : List Nat) (ts : List Int) (c : Int) (o : Nat → Bool) (N j : Nat) : stpB ss ts c o N j = true ↔ ∃ i s, i < N ∧ o i = true ∧ Sf ss ts i s j ∧ inS s c = true := by
  unfold stpB
  rw [List.any_eq_true]
  constructor
  · rintro ⟨i, hi, h⟩
    rw [Bool.and_eq_true] at h
    obtain ⟨h1, h2⟩ := h
    split at h2
    · rename_i s t hs ht
      rw [Bool.and_eq_true, beq_iff_eq] at h2
      exact ⟨i, s, by simpa using hi, h1, ⟨hs, by rw [ht, h2.2]⟩, h2.1⟩
    · cases h2
  · rintro ⟨i, s, hi, ho, ⟨hs, ht⟩, hc⟩
    refine ⟨i, by simpa using hi, ?_⟩
    rw [hs, ht]
    simp [ho, hc]
/-- What is come to behind so many letters. -/
def IsRun (fs : List (List Int)) (ss : List Nat) (ts : List Int) (N : Nat) (word : List Int) : Nat → (Nat → Bool) → Prop
  | 0, g => IsCl fs N (fun j => decide (j = 0)) g
  | k + 1, g => ∃ h, IsRun fs ss ts N word k h ∧ IsCl fs N (stpB ss ts (word.getD k 0) h N) g
theorem rch_wy {fs : List (List Int)} {S : Nat → Nat → Nat → Prop} {N k : Nat} {o : Nat → Bool} {word : List Int} (h0 : ∀ j, j < N → o j = true → Wy word (Ff fs) S 0 0 j k) {q : Nat} (h : Rch fs N o q) : Wy word (Ff fs) S 0 0 q k := by
  induction h with
  | here hn h => exact h0 _ hn h
  | on _ hl hj ih => exact ih.free ⟨_, hl, hj⟩
theorem run_cl {fs : List (List Int)} {ss : List Nat} {ts : List Int} {N : Nat} {word : List Int} : ∀ (k : Nat) (g : Nat → Bool), IsRun fs ss ts N word k g → ∃ o, IsCl fs N o g
  | 0, _, h => ⟨_, h⟩
  | _ + 1, _, ⟨_, _, h⟩ => ⟨_, h⟩
theorem run_wy {fs : List (List Int)} {ss : List Nat} {ts : List Int} {N : Nat} {word : List Int} (hN : 0 < N) (hs : ss.length = N) (hokF : ∀ (i : Nat) (l : List Int), fs[i]? = some l → ∀ z ∈ l, 0 ≤ z ∧ z < (N : Int)) (hok : ∀ (i s : Nat) (t : Int), ss[i]? = some s → ts[i]? = some t → 0 < s → 0 ≤ t ∧ t < N) (k : Nat) (hk : k ≤ word.length) (g : Nat → Bool) (hg : IsRun fs ss ts N word k g) (q : Nat) (hq : q < N) :
    g q = true ↔ Wy word (Ff fs) (Sf ss ts) 0 0 q k := by
  constructor
  · have go : ∀ k, k ≤ word.length → ∀ g, IsRun fs ss ts N word k g → ∀ q, q < N → g q = true → Wy word (Ff fs) (Sf ss ts) 0 0 q k := by
      intro k
      induction k with
      | zero =>
        intro _ g hg q hq h
        refine rch_wy (fun j _ hj => ?_) ((hg q hq).1 h)
        have : j = 0 := by simpa using hj
        subst this
        exact .here
      | succ k ih =>
        intro hk g hg q hq h
        obtain ⟨f, hf, hg⟩ := hg
        refine rch_wy (fun j _ hj => ?_) ((hg q hq).1 h)
        obtain ⟨i, s, hi, ho, hS, hc⟩ := (stpB_iff _ _ _ _ _ _).1 hj
        refine (ih (by omega) f hf i hi ho).step hS (c := word.getD k 0) ?_ hc
        rw [List.getD_eq_getElem?_getD, List.getElem?_eq_getElem (by omega)]; rfl
    exact go k hk g hg q hq
  · intro h
    have go : ∀ q k, Wy word (Ff fs) (Sf ss ts) 0 0 q k → q < N ∧ ∀ g, IsRun fs ss ts N word k g → g q = true := by
      intro q k h
      induction h with
      | here => exact ⟨hN, fun g hg => (hg 0 hN).2 (.here hN (by simp))⟩
      | @free q i q' _ f ih =>
        obtain ⟨l, hl, hj⟩ := f
        have hq' : q' < N := by have := hokF _ _ hl _ hj; omega
        refine ⟨hq', fun g hg => ?_⟩
        obtain ⟨o, ho⟩ := run_cl i g hg
        exact (ho q' hq').2 (.on ((ho q ih.1).1 (ih.2 g hg)) hl hj)
      | @step q i s q' c _ hS hc hin ih =>
        have hpos : 0 < s := by
          rcases Nat.eq_zero_or_pos s with e | e
          · subst e; simp [inS] at hin
          · exact e
        have hr := hok q s q' hS.1 hS.2 hpos
        have ec : word.getD i 0 = c := by rw [List.getD_eq_getElem?_getD, hc]; rfl
        refine ⟨by omega, fun g hg => ?_⟩
        obtain ⟨f, hf, hg⟩ := hg
        exact (hg q' (by omega)).2 (.here (by omega) ((stpB_iff _ _ _ _ _ _).2 ⟨q, s, ih.1, ih.2 f hf, hS, by rw [ec]; exact hin⟩))
    exact (go q k h).2 g hg

end Go.Proofs.Ytldeofdjhpfdaaa.A
