/- Contracts: a trie of ranges. -/
import Derived.Test.YtooiomfcemceiaaY
import Derived.Lib.SliceRun
namespace Go.Proofs.Ytooiomfcemceiaa.A
open Go.RowKit Go.Maps

theorem seg_cells {w : World} {b off : Nat} {l : List Rg} (h : ∀ i, i < l.length → w.cell? ⟨b, off + i * 3, none⟩ = some (.int .i32 (at' l i).f) ∧ w.cell? ⟨b, off + i * 3 + 1, none⟩ = some (.int .i32 (at' l i).t) ∧ w.cell? ⟨b, off + i * 3 + 2, none⟩ = some (.int .i64 (at' l i).v)) :
    ∀ j u, (cellsR l)[j]? = some u → w.cell? ((⟨b, off, none⟩ : Addr).add j) = some u := by
  intro j u hj
  have hlt : j < (cellsR l).length := by
    rcases Nat.lt_or_ge j (cellsR l).length with h | h
    · exact h
    · rw [List.getElem?_eq_none h] at hj; cases hj
  rw [cellsR_len] at hlt
  have hq : j / 3 < l.length := by omega
  obtain ⟨a0, a1, a2⟩ := cellsR_at l (j / 3) hq
  obtain ⟨b0, b1, b2⟩ := h (j / 3) hq
  have ha : (⟨b, off, none⟩ : Addr).add j = ⟨b, off + j, none⟩ := by
    simp only [Addr.add]
    split
    · rename_i h0; rw [h0]; rfl
    · rfl
  rw [ha]
  have hr : j % 3 = 0 ∨ j % 3 = 1 ∨ j % 3 = 2 := by omega
  rcases hr with e | e | e
  · rw [show j / 3 * 3 = j by omega] at a0
    rw [show off + j / 3 * 3 = off + j by omega] at b0
    rw [b0, ← a0]; exact hj
  · rw [show j / 3 * 3 + 1 = j by omega] at a1
    rw [show off + j / 3 * 3 + 1 = off + j by omega] at b1
    rw [b1, ← a1]; exact hj
  · rw [show j / 3 * 3 + 2 = j by omega] at a2
    rw [show off + j / 3 * 3 + 2 = off + j by omega] at b2
    rw [b2, ← a2]; exact hj
theorem seg_news {w : World} {a : Addr} {len : Nat} {zs : List Rg} (hs : SegR w (some a) len zs) : ∀ j u, (cellsR zs)[j]? = some u → w.cell? (a.add j) = some u := by
  obtain ⟨h1, h2⟩ := hs
  rcases h2 with h2 | ⟨b, off, e, hc⟩
  · intro j u hj
    have : zs = [] := by cases zs; rfl; simp at h1; omega
    subst this
    simp [cellsR] at hj
  · cases e
    exact seg_cells (fun i hi => hc i (by omega))

set_option maxHeartbeats 800000 in
theorem clone_any (x : Option Addr) (len cap : Nat) (zs : List Rg) (w : World) (hl : len ≤ 5000) (hs : SegR w x len zs) :
    Calls Try.prog 20 #[.slice x len cap] w fun e w' => ∃ v, e = .returned v ∧ w'.ownsRow w.heap.size 32 3 v len (cellsR zs) ∧ Below w.heap.size w w' := by
  have q22 : ∀ (w : World) (a : Option Addr) (n c n' c' : Nat), (binOp .eql 22 (.slice a n c) (.slice none n' c')).run Try.prog w = .ok (.bool a.isNone) w := fun w a n c n' c' => Lib.run_eql_slice_nil w _ _ a n c n' c' Try.underlying22
  cases x with
  | none =>
    have h0 : len = 0 := by
      rcases hs.2 with h | ⟨b, off, e, _⟩
      · exact h
      · cases e
    have hz : zs = [] := by have := hs.1; cases zs; rfl; simp at this; omega
    subst h0 hz
    clear hs
    go_enter Try.func20, Try.ntmps20
    go_wp2
    go_ret
    exact ⟨_, rfl, World.ownsRow_nil _ _ _ _, Below.refl _ _⟩
  | some a =>
    obtain ⟨i0, hi, hz0, hz1, hz2⟩ := info_parts info32
    have hlen : (cellsR zs).length = len * 3 := by rw [cellsR_len, hs.1]
    have HS := hide hs
    clear hs
    have hw0 : (w.alloc (.cells #[] 32)).ownsRow w.heap.size 32 3 (.slice (some ⟨w.heap.size, 0, none⟩) 0 0) 0 [] := ⟨rfl, .inr ⟨w.heap.size, 0, #[], rfl, Nat.le_refl _, heap_alloc_last w _, Nat.le_refl _, Nat.zero_le _, rfl, rfl⟩⟩
    have HB := hide ((Below.refl w.heap.size w).alloc (Nat.le_refl _) (.cells #[] 32))
    have HS2 := hide (HS.out.below HB.out)
    have HSZ := hide (show w.heap.size ≤ (w.alloc (.cells #[] 32)).heap.size by simp)
    go_enter Try.func20, Try.ntmps20
    go_wp2_with (at_builtin; refine wpList_append_own _ rfl _ _ 22 rfl w.heap.size 32 i0 (.agg #[.int .i32 0, .int .i32 0, .int .i64 0]) 3 16 Try.underlying22 hi hz0 hz1 hz2 rfl (by decide) _ _ _ rfl hw0 a len cap (cellsR zs) rfl hlen (seg_news HS2.out) (cellsR_one' zs) (by unfold maxLen; omega) (by omega) HSZ.out ?_; intro v' w3 hown' hgrow _)
    go_wp2
    go_ret
    refine ⟨_, rfl, ?_, ?_⟩
    · have := hown'; rw [Nat.zero_add, List.nil_append] at this; exact this
    · exact HB.out.grown hgrow HSZ.out (fun k e => by cases e; exact Nat.le_refl _)
end Go.Proofs.Ytooiomfcemceiaa.A
