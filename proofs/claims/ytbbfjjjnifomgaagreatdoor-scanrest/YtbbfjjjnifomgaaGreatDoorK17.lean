/- What comes in: expressions in a list, words; whether they are great; lists that are alike. -/
import Derived.OpenShut
import Derived.WalkKit
import Derived.ProofKit
import Derived.Outline
import Derived.BigQuiet
import Derived.Deep.QuietTactic
import Derived.Below
import Derived.Deep.RegionHeld3
import Derived.Deep.Slices
import Derived.Deep.Strs
import Derived.Deep.OwnRows
import Derived.Deep.WholeRow
import Derived.Deep.AppendSrc
import Derived.Deep.Heap
import Derived.Laws.AppendOwnNone
import Derived.Deep.AppendLies
import Derived.Deep.RegionLaw
import Derived.Test.YtbbfjjjnifomgaaGreatDoorK1
import Derived.Test.YtbbfjjjnifomgaaGreatDoorK2
import Derived.Test.YtbbfjjjnifomgaaGreatDoorK3
import Derived.Test.YtbbfjjjnifomgaaGreatDoorK4
import Derived.Test.YtbbfjjjnifomgaaGreatDoorK6
import Derived.Test.YtbbfjjjnifomgaaGreatDoorK8
import Derived.Test.YtbbfjjjnifomgaaGreatDoorK11
import Derived.Test.YtbbfjjjnifomgaaGreatDoorK13
import Derived.Test.YtbbfjjjnifomgaaGreatDoorK16
import Derived.Test.YtbbfjjjnifomgaaGreatDoorK9
namespace Go.Proofs.YtbbfjjjnifomgaaGreatDoor.A
open Go.RowKit Go.ChangeShapes Go.WideShapes Go.Deep

theorem cells3 : Tryz.prog.cellsOf 3 = 1 := by kernel_rfl
theorem open_words {H : Type} {enc : TypeId × Value → H} {W : World} {sp : Nat → Bool} {fuel : Nat} {a : Option Addr} {len cap : Nat} {x : DataW H × List MemPlace} (h : DataW.trod enc Tryz.prog W 0 sp true fuel 23 [.slice a len cap] = some x) :
    ∃ zs : List Int, Wd W a zs ∧ zs.length = len ∧ len ≤ cap ∧ cap ≤ maxLen := by
  rcases open_slice Tryz.underlying23 h with ⟨hcs, _⟩ | ⟨a', len', cap', m, n, D, Pl, hcs, _, hl, hm, hmm, _, hx⟩
  · simp at hcs
    obtain ⟨rfl, rfl, rfl⟩ := hcs
    exact ⟨[], fun i c hc => by simp at hc, rfl, Nat.le_refl _, by unfold maxLen; omega⟩
  · simp at hcs
    obtain ⟨rfl, rfl, rfl⟩ := hcs
    have hlm : len ≤ m := by rw [hmm]; split <;> omega
    have each : ∀ i, i < len → ∃ r : Int, W.cell? (a'.add i) = some (.int .i64 r) := by
      intro i hi
      obtain ⟨cs', h1, h2⟩ := hx i (by omega)
      rw [cells3] at h1
      obtain ⟨_, hlen, hcell⟩ := World.cells?_some h1
      match cs', hlen with
      | [v0], _ =>
        obtain ⟨s, e0, d0, _⟩ := DataW.trod_int Tryz.underlying3 h2
        simp only [List.cons.injEq, and_true] at e0
        subst e0
        have c0 := hcell 0 (by omega)
        rw [add_add] at c0
        exact ⟨s, by simpa using c0⟩
    obtain ⟨q, hq⟩ := choose_lt each
    refine ⟨(List.range len).map fun i => q i, fun i c hc => ?_, by simp, hl, hm⟩
    have hi : i < len := by have := (List.getElem?_eq_some_iff.1 hc).1; simpa using this
    simp only [List.getElem?_map, List.getElem?_range hi, Option.map_some, Option.some.injEq] at hc
    subst hc
    obtain ⟨b, off, spot⟩ := a'
    have hspot : spot = none := by simpa [Addr.add] using World.cell?_spot (hq 0 (by omega))
    subst hspot
    refine ⟨b, off, rfl, ?_⟩
    rw [← hq i hi]
    simp only [Addr.add]
    split
    · rename_i h; rw [h]; rfl
    · rfl
/-- Expressions at a slice. -/
def Exs (W : World) (n : Nat) (a : Option Addr) (l : List (Ex n)) : Prop := ∀ (i : Nat) (x : Ex n), l[i]? = some x → ∃ b off c0 c1 c2, a = some ⟨b, off, none⟩ ∧ W.cell? ⟨b, off + i * 3, none⟩ = some c0 ∧ W.cell? ⟨b, off + i * 3 + 1, none⟩ = some c1 ∧ W.cell? ⟨b, off + i * 3 + 2, none⟩ = some c2 ∧ Rx W n x (.agg #[c0, c1, c2])
theorem exs_kids {W : World} {n : Nat} {a : Option Addr} {l : List (Ex n)} (h : Exs W n a l) {len : Nat} (hl : l.length = len) : Kids W n a len l := fun V hb i hi => by
  have hx : l[i]? = some (l[i]'(by omega)) := List.getElem?_eq_getElem _
  obtain ⟨b, off, c0, c1, c2, e, p0, p1, p2, p3⟩ := h i _ hx
  exact ⟨_, b, off, c0, c1, c2, e, hx, (hb.cell (p := ⟨b, off + i * 3, none⟩) (cell_lt p0)).trans p0, (hb.cell (p := ⟨b, off + i * 3 + 1, none⟩) (cell_lt p1)).trans p1, (hb.cell (p := ⟨b, off + i * 3 + 2, none⟩) (cell_lt p2)).trans p2, rx_below hb n _ _ p3⟩
end Go.Proofs.YtbbfjjjnifomgaaGreatDoor.A

/- The law's own program: what every right program answers. -/
namespace Go.Proofs.YtbbfjjjnifomgaaGreatDoor.A
open Go.RowKit

end Go.Proofs.YtbbfjjjnifomgaaGreatDoor.A

/- The law's own program: what every right program answers, walked. -/
namespace Go.Proofs.YtbbfjjjnifomgaaGreatDoor.A
open Go.RowKit

end Go.Proofs.YtbbfjjjnifomgaaGreatDoor.A

/- Expressions that may have a machine. -/
namespace Go.Proofs.YtbbfjjjnifomgaaGreatDoor.A
open Go.RowKit

theorem kids_full {w : World} {n : Nat} {a : Option Addr} {len : Nat} {l : List (Ex n)} (h : Kids w n a len l) (h6 : l.length = len) : ∀ x ∈ l, full n x := fun x hx => by
  obtain ⟨i, hi, e⟩ := List.getElem_of_mem hx
  obtain ⟨x', b, off, c0, c1, c2, _, hx', _, _, _, hr⟩ := h w (Below.refl _ _) i (by omega)
  rw [List.getElem?_eq_getElem hi, e] at hx'
  cases hx'
  exact rx_full n x _ hr
theorem may_open {w : World} {n : Nat} {a : Option Addr} {len : Nat} {l : List (Ex n)} (h : mayB l = true) (hk : Kids w n a len l) (h6 : l.length = len) : 1 ≤ len ∧ len ≤ 16 ∧ (∀ x ∈ l, full n x) ∧ ∀ x ∈ l, shapesE n x = true := by
  unfold mayB at h
  simp only [Bool.and_eq_true, decide_eq_true_eq, List.all_eq_true] at h
  have hf := kids_full hk h6
  exact ⟨by omega, by omega, hf, fun x hx => ((right_iff (hf x hx)).1 (h.2.2 x hx)).2.2⟩
end Go.Proofs.YtbbfjjjnifomgaaGreatDoor.A

/- What is closed, closed again: plain mathematics. -/
namespace Go.Proofs.YtbbfjjjnifomgaaGreatDoor.A
open Go.RowKit

end Go.Proofs.YtbbfjjjnifomgaaGreatDoor.A

/- A machine that came in. -/
namespace Go.Proofs.YtbbfjjjnifomgaaGreatDoor.A
open Go.RowKit Go.ChangeShapes Go.WideShapes Go.Deep

theorem add_at {b off : Nat} (j : Nat) : (⟨b, off, none⟩ : Addr).add j = ⟨b, off + j, none⟩ := by
  simp only [Addr.add]
  split
  · rename_i h; rw [h]; rfl
  · rfl
theorem open_ints' {H : Type} {enc : TypeId × Value → H} {W : World} {sp : Nat → Bool} {fuel : Nat} {v : Value} {x : DataW H × List MemPlace} (h : DataW.trod enc Tryz.prog W 0 sp true fuel 23 [v] = some x) :
    ∃ (a : Option Addr) (len cap : Nat) (zs : List Int), v = .slice a len cap ∧ Wd W a zs ∧ zs.length = len ∧ len ≤ maxLen := by
  have hv : ∃ a len cap, v = .slice a len cap := by
    rcases open_slice Tryz.underlying23 h with ⟨hcs, _⟩ | ⟨a', len', cap', m, n, D, Pl, hcs, _⟩
    · simp only [List.cons.injEq, and_true] at hcs
      exact ⟨_, _, _, hcs⟩
    · simp only [List.cons.injEq, and_true] at hcs
      exact ⟨_, _, _, hcs⟩
  obtain ⟨a, len, cap, rfl⟩ := hv
  obtain ⟨zs, h1, h2, h3, h4⟩ := open_words h
  exact ⟨a, len, cap, zs, rfl, h1, h2, by omega⟩
end Go.Proofs.YtbbfjjjnifomgaaGreatDoor.A



/- One machine, told twice: its lists are one. -/
namespace Go.Proofs.YtbbfjjjnifomgaaGreatDoor.A
open Go.RowKit

theorem is_one {n : Nat} {l : List (Ex n)} {N : Nat} {fs fs' : List (List Int)} {ss ss' : List Nat} {ts ts' : List Int} (hf : ∀ x ∈ l, full n x) (hsh : ∀ x ∈ l, shapesE n x = true) (h : Is (FrA l) (SpA l) N fs ss ts) (h' : Is (FrA l) (SpA l) N fs' ss' ts') : fs = fs' ∧ ss = ss' ∧ ts = ts' := by
  have e1 : fs = fs' := List.ext_getElem (by rw [h.lf, h'.lf]) (fun i h1 h2 => by
    have a := List.getElem?_eq_getElem h1
    have b := List.getElem?_eq_getElem h2
    exact rising_eq (h.up i _ a) (h'.up i _ b) (fun z => (h.mem i _ a z).trans (h'.mem i _ b z).symm))
  have key : ∀ i (h1 : i < ss.length) (h2 : i < ts.length) (h3 : i < ss'.length) (h4 : i < ts'.length), ss[i] = ss'[i] ∧ ts[i] = ts'[i] := fun i h1 h2 h3 h4 => by
    rcases h.set i _ _ (List.getElem?_eq_getElem h1) (List.getElem?_eq_getElem h2) with ⟨j, a, b⟩ | ⟨a, b, c⟩
    · rcases h'.set i _ _ (List.getElem?_eq_getElem h3) (List.getElem?_eq_getElem h4) with ⟨j', a', b'⟩ | ⟨a', _⟩
      · obtain ⟨e, e'⟩ := spa_one hf hsh a a'
        exact ⟨e, by rw [b, b', e']⟩
      · exact absurd a (a' _ _)
    · rcases h'.set i _ _ (List.getElem?_eq_getElem h3) (List.getElem?_eq_getElem h4) with ⟨j', a', b'⟩ | ⟨_, b', c'⟩
      · exact absurd a' (a _ _)
      · exact ⟨by rw [b, b'], by rw [c, c']⟩
  refine ⟨e1, List.ext_getElem (by rw [h.ls, h'.ls]) (fun i h1 h2 => (key i h1 (by rw [h.lt, ← h.ls]; exact h1) h2 (by rw [h'.lt, ← h'.ls]; exact h2)).1), List.ext_getElem (by rw [h.lt, h'.lt]) (fun i h1 h2 => (key i (by rw [h.ls, ← h.lt]; exact h1) h1 (by rw [h'.ls, ← h'.lt]; exact h2) h2).2)⟩
theorem rs_one {n : Nat} {l : List (Ex n)} {k : Nat} {rs rs' : List Int} (hf : ∀ x ∈ l, full n x) (hl : rs.length = rs'.length) (h : RsI l k rs) (h' : RsI l k rs') : rs = rs' :=
  List.ext_getElem hl (fun i h1 h2 => by
    rcases h i _ (List.getElem?_eq_getElem h1) with ⟨m, p, hm, hp, e, e2⟩ | ⟨a, b⟩
    · rcases h' i _ (List.getElem?_eq_getElem h2) with ⟨m', p', hm', hp', e', e2'⟩ | ⟨a', _⟩
      · rw [e2, e2', en_inj hf hp hp' (e.symm.trans e')]
      · exact absurd e (a' m p hm hp)
    · rcases h' i _ (List.getElem?_eq_getElem h2) with ⟨m', p', hm', hp', e', e2'⟩ | ⟨_, b'⟩
      · exact absurd e' (a m' p' hm' hp')
      · rw [b, b'])

end Go.Proofs.YtbbfjjjnifomgaaGreatDoor.A

/- Expressions that are not too great have few levels. -/
namespace Go.Proofs.YtbbfjjjnifomgaaGreatDoor.A
open Go.RowKit Go.ChangeShapes Go.WideShapes Go.Deep

/-- An expression that is not too great has no more levels than were looked at. -/
theorem rx_trim {w : World} : ∀ (m n : Nat) (t : Ex n) (v : Value), Rx w n t v → greatE n t m = false → ∃ t' : Ex m, Rx w m t' v
  | _, 0, _, _, h, _ => h.elim
  | 0, n + 1, t, _, _, hg => by unfold greatE at hg; simp at hg
  | m + 1, n + 1, t, v, ⟨a, len, cap, h1, h2, h3, h4, h5, h6, h7⟩, hg => by
    have hk : ∀ x ∈ ks t, greatE n x m = false := fun x hx => by
      unfold greatE at hg
      simp only [Bool.or_eq_false_iff] at hg
      have := hg.2.2
      rw [Bool.eq_false_iff, ne_eq, List.any_eq_true] at this
      cases hq : greatE n x m with
      | false => rfl
      | true => exact (this ⟨x, hx, hq⟩).elim
    rcases h7 with h7 | ⟨b, off, e, h7⟩
    · exact ⟨(kd t, st t, []), a, len, cap, h1, h2, h3, h4, h5, h7.symm, .inl h7⟩
    · have each : ∀ i, i < len → ∃ y : Ex m, ∃ c0 c1 c2, w.cell? ⟨b, off + i * 3, none⟩ = some c0 ∧ w.cell? ⟨b, off + i * 3 + 1, none⟩ = some c1 ∧ w.cell? ⟨b, off + i * 3 + 2, none⟩ = some c2 ∧ Rx w m y (.agg #[c0, c1, c2]) := by
        intro i hi
        have hx : (ks t)[i]? = some ((ks t)[i]'(by omega)) := by simp
        obtain ⟨c0, c1, c2, p0, p1, p2, p3⟩ := h7 i _ hx
        obtain ⟨y, hy⟩ := rx_trim m n _ _ p3 (hk _ (List.mem_of_getElem? hx))
        exact ⟨y, c0, c1, c2, p0, p1, p2, hy⟩
      obtain ⟨g, hgf⟩ := @choose_lt (Ex m) ⟨exI m⟩ len _ each
      refine ⟨(kd t, st t, (List.range len).map g), a, len, cap, h1, h2, h3, h4, h5, ?_, .inr ⟨b, off, e, fun i y hy => ?_⟩⟩
      · show ((List.range len).map g).length = len
        simp
      · have hy' : ((List.range len).map g)[i]? = some y := hy
        have hi : i < len := by have := (List.getElem?_eq_some_iff.1 hy').1; simpa using this
        simp only [List.getElem?_map, List.getElem?_range hi, Option.map_some, Option.some.injEq] at hy'
        subst hy'
        exact hgf i hi
end Go.Proofs.YtbbfjjjnifomgaaGreatDoor.A


