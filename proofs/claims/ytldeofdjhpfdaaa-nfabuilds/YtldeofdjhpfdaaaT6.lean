/- One machine, told twice: its lists are one. -/
import Derived.Test.YtldeofdjhpfdaaaV5
namespace Go.Proofs.Ytldeofdjhpfdaaa.A
open Go.RowKit

theorem is_one {n : Nat} {l : List (Ex n)} {N : Nat} {fs fs' : List (List Int)} {ss ss' : List Nat} {ts ts' : List Int} (hf : ∀ x ∈ l, full n x) (hsh : ∀ x ∈ l, shapesE n x = true) (h : Is (FrA l) (SpA l) N fs ss ts) (h' : Is (FrA l) (SpA l) N fs' ss' ts') : fs = fs' ∧ ss = ss' ∧ ts = ts' := by
  have e1 : fs = fs' := List.ext_getElem (by rw [h.lf, h'.lf]) (fun i h1 h2 => by
    have a := List.getElem?_eq_getElem h1
    have b := List.getElem?_eq_getElem h2
    exact rising_eq (h.up i _ a) (h'.up i _ b) (fun z => (h.mem i _ a z).trans (h'.mem i _ b z).symm))
  have key : ∀ i (h1 : i < ss.length) (h2 : i < ts.length) (h3 : i < ss'.length) (h4 : i < ts'.length), ss[i] = ss'[i] ∧ ts[i] = ts'[i] := fun i h1 h2 h3 h4 => by
    rcases h.set i _ _ (List.getElem?_eq_getElem h1) (List.getElem?_eq_getElem h2) with ⟨j, a, b⟩ | ⟨a, b, c⟩
    · rcases h'.set i _ _ (List.getElem?_eq_getElem h3) (List.getElem?_eq_getElem h4) with ⟨j', a', b'⟩ | ⟨a', _⟩
      · obtain ⟨e, e'⟩ := spa_one hf hsh a a'
        exact ⟨e, by rw [b, b', e']⟩
      · exact absurd a (a' _ _)
    · rcases h'.set i _ _ (List.getElem?_eq_getElem h3) (List.getElem?_eq_getElem h4) with ⟨j', a', b'⟩ | ⟨_, b', c'⟩
      · exact absurd a' (a _ _)
      · exact ⟨by rw [b, b'], by rw [c, c']⟩
  refine ⟨e1, List.ext_getElem (by rw [h.ls, h'.ls]) (fun i h1 h2 => (key i h1 (by rw [h.lt, ← h.ls]; exact h1) h2 (by rw [h'.lt, ← h'.ls]; exact h2)).1), List.ext_getElem (by rw [h.lt, h'.lt]) (fun i h1 h2 => (key i (by rw [h.ls, ← h.lt]; exact h1) h1 (by rw [h'.ls, ← h'.lt]; exact h2) h2).2)⟩
theorem rs_one {n : Nat} {l : List (Ex n)} {k : Nat} {rs rs' : List Int} (hf : ∀ x ∈ l, full n x) (hl : rs.length = rs'.length) (h : RsI l k rs) (h' : RsI l k rs') : rs = rs' :=
  List.ext_getElem hl (fun i h1 h2 => by
    rcases h i _ (List.getElem?_eq_getElem h1) with ⟨m, p, hm, hp, e, e2⟩ | ⟨a, b⟩
    · rcases h' i _ (List.getElem?_eq_getElem h2) with ⟨m', p', hm', hp', e', e2'⟩ | ⟨a', _⟩
      · rw [e2, e2', en_inj hf hp hp' (e.symm.trans e')]
      · exact absurd e (a' m p hm hp)
    · rcases h' i _ (List.getElem?_eq_getElem h2) with ⟨m', p', hm', hp', e', e2'⟩ | ⟨_, b'⟩
      · exact absurd e' (a m' p' hm' hp')
      · rw [b, b'])

set_option maxHeartbeats 1600000 in
/-- The law's 'sorted', of rising numbers. -/
theorem sorted_any (a : Option Addr) (len cap : Nat) (zs : List Int) (w : World) (hl : len ≤ 100000) (hz : zs.length = len) (hW : Wd w a zs) (hu : zs.Pairwise (· < ·)) :
    Calls Try.prog 13 #[.slice a len cap] w fun e w' => e = .returned (.slice a len cap) ∧ Below w.heap.size w w' := by
  have HW := hide hW
  have HZ := hide hz
  have HU := hide hu
  clear hW hz hu
  go_enter Try.func13, Try.ntmps13
  go_wp2_with fail
  go_loopw [3] (fun u wr => ∃ i : Nat, 1 ≤ i ∧ i ≤ len + 1 ∧ u = .int .i64 i ∧ Below w.heap.size w wr) (fun u _ => len + 1 - (intOf u).toNat)
  case atStart => exact ⟨1, by omega, by omega, rfl, Below.refl _ _⟩
  case round =>
    obtain ⟨i, h1, hi, rfl, hb⟩ := hrel
    have HBW := hide hb
    by_cases hlt : i < len
    · obtain ⟨j, rfl⟩ : ∃ j, i = j + 1 := ⟨i - 1, by omega⟩
      obtain ⟨x, hx⟩ : ∃ x, zs[j]? = some x := ⟨_, List.getElem?_eq_getElem (by rw [HZ.out]; omega)⟩
      obtain ⟨y, hy⟩ : ∃ y, zs[j + 1]? = some y := ⟨_, List.getElem?_eq_getElem (by rw [HZ.out]; omega)⟩
      obtain ⟨b1, o1, rfl, k1⟩ := wd_below hb HW.out j x hx
      obtain ⟨b2, o2, e2, k2⟩ := wd_below hb HW.out (j + 1) y hy
      cases e2
      have hxy : x < y := by
        have h := HU.out
        rw [List.pairwise_iff_getElem] at h
        obtain ⟨p1, q1⟩ := List.getElem?_eq_some_iff.1 hx
        obtain ⟨p2, q2⟩ := List.getElem?_eq_some_iff.1 hy
        have := h j (j + 1) p1 p2 (by omega)
        rw [q1, q2] at this
        exact this
      have d : decide (y ≤ x) = false := by simp; omega
      obtain ⟨m, hm⟩ : ∃ m, j + 1 = m := ⟨_, rfl⟩
      have hm1 : (m : Int) - 1 = (j : Int) := by omega
      rw [hm] at k2 ⊢
      have i1 : (0 : Int) ≤ (j : Int) := by omega
      have i2 : (j : Int) < (len : Int) := by omega
      have i3 : (0 : Int) ≤ (m : Int) := by omega
      have i4 : (m : Int) < (len : Int) := by omega
      have hmm : m < len := by omega
      clear hx hy hb hxy hm hlt hi h1
      go_wp2
      go_quiet (fail)
      go_wp2
      go_roundw
      case rel => exact ⟨m + 1, by omega, by omega, by go_num, below_drewN HBW.out _⟩
      case measure => simp [intOf]; omega
    · have d : decide ((i : Int) < (len : Int)) = false := by simp; omega
      clear hb
      go_wp2
      go_ret
      exact ⟨rfl, HBW.out⟩
end Go.Proofs.Ytldeofdjhpfdaaa.A

/- Expressions that are not too great have few levels. -/
namespace Go.Proofs.Ytldeofdjhpfdaaa.A
open Go.RowKit Go.ChangeShapes Go.WideShapes Go.Deep

/-- An expression that is not too great has no more levels than were looked at. -/
theorem rx_trim {w : World} : ∀ (m n : Nat) (t : Ex n) (v : Value), Rx w n t v → greatE n t m = false → ∃ t' : Ex m, Rx w m t' v
  | _, 0, _, _, h, _ => h.elim
  | 0, n + 1, t, _, _, hg => by unfold greatE at hg; simp at hg
  | m + 1, n + 1, t, v, ⟨a, len, cap, h1, h2, h3, h4, h5, h6, h7⟩, hg => by
    have hk : ∀ x ∈ ks t, greatE n x m = false := fun x hx => by
      unfold greatE at hg
      simp only [Bool.or_eq_false_iff] at hg
      have := hg.2.2
      rw [Bool.eq_false_iff, ne_eq, List.any_eq_true] at this
      cases hq : greatE n x m with
      | false => rfl
      | true => exact (this ⟨x, hx, hq⟩).elim
    rcases h7 with h7 | ⟨b, off, e, h7⟩
    · exact ⟨(kd t, st t, []), a, len, cap, h1, h2, h3, h4, h5, h7.symm, .inl h7⟩
    · have each : ∀ i, i < len → ∃ y : Ex m, ∃ c0 c1 c2, w.cell? ⟨b, off + i * 3, none⟩ = some c0 ∧ w.cell? ⟨b, off + i * 3 + 1, none⟩ = some c1 ∧ w.cell? ⟨b, off + i * 3 + 2, none⟩ = some c2 ∧ Rx w m y (.agg #[c0, c1, c2]) := by
        intro i hi
        have hx : (ks t)[i]? = some ((ks t)[i]'(by omega)) := by simp
        obtain ⟨c0, c1, c2, p0, p1, p2, p3⟩ := h7 i _ hx
        obtain ⟨y, hy⟩ := rx_trim m n _ _ p3 (hk _ (List.mem_of_getElem? hx))
        exact ⟨y, c0, c1, c2, p0, p1, p2, hy⟩
      obtain ⟨g, hgf⟩ := @choose_lt (Ex m) ⟨exI m⟩ len _ each
      refine ⟨(kd t, st t, (List.range len).map g), a, len, cap, h1, h2, h3, h4, h5, ?_, .inr ⟨b, off, e, fun i y hy => ?_⟩⟩
      · show ((List.range len).map g).length = len
        simp
      · have hy' : ((List.range len).map g)[i]? = some y := hy
        have hi : i < len := by have := (List.getElem?_eq_some_iff.1 hy').1; simpa using this
        simp only [List.getElem?_map, List.getElem?_range hi, Option.map_some, Option.some.injEq] at hy'
        subst hy'
        exact hgf i hi
theorem exs_trim {w : World} {n : Nat} {a : Option Addr} {l : List (Ex n)} (h : Exs w n a l) (hg : greatL l = false) : ∃ l' : List (Ex 20), Exs w 20 a l' ∧ l'.length = l.length := by
  unfold greatL at hg
  rw [Bool.or_eq_false_iff] at hg
  have hk : ∀ x ∈ l, greatE n x 20 = false := fun x hx => by
    have := hg.2
    rw [Bool.eq_false_iff, ne_eq, List.any_eq_true] at this
    cases hq : greatE n x 20 with
    | false => rfl
    | true => exact (this ⟨x, hx, hq⟩).elim
  have each : ∀ i, i < l.length → ∃ y : Ex 20, ∃ b off c0 c1 c2, a = some ⟨b, off, none⟩ ∧ w.cell? ⟨b, off + i * 3, none⟩ = some c0 ∧ w.cell? ⟨b, off + i * 3 + 1, none⟩ = some c1 ∧ w.cell? ⟨b, off + i * 3 + 2, none⟩ = some c2 ∧ Rx w 20 y (.agg #[c0, c1, c2]) := by
    intro i hi
    have hx : l[i]? = some l[i] := List.getElem?_eq_getElem hi
    obtain ⟨b, off, c0, c1, c2, e, p0, p1, p2, p3⟩ := h i _ hx
    obtain ⟨y, hy⟩ := rx_trim 20 n _ _ p3 (hk _ (List.getElem_mem hi))
    exact ⟨y, b, off, c0, c1, c2, e, p0, p1, p2, hy⟩
  obtain ⟨g, hgf⟩ := @choose_lt (Ex 20) ⟨exI 20⟩ l.length _ each
  refine ⟨(List.range l.length).map g, fun i y hy => ?_, by simp⟩
  have hi : i < l.length := by have := (List.getElem?_eq_some_iff.1 hy).1; simpa using this
  simp only [List.getElem?_map, List.getElem?_range hi, Option.map_some, Option.some.injEq] at hy
  subst hy
  exact hgf i hi
end Go.Proofs.Ytldeofdjhpfdaaa.A
