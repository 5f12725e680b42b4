/- What comes in: expressions in a list, words; whether they are great; lists that are alike. -/
import Derived.Test.YtccaknabpnpjaaaGreatDoorPk15
import Derived.OpenShut
import Derived.Shelf.Small.Strs
import Derived.Shelf.Strconv.Itoa0
import Derived.Shelf.Strconv.Itoa1
import Derived.Shelf.LaysM
import Derived.Shelf.Strconv.Itoa2
import Derived.Shelf.Strconv.Clone
import Derived.Shelf.Strings.Search1
import Derived.Shelf.Strings.Search2
import Derived.Shelf.Strings.Search3
import Derived.Shelf.Strings.Count
import Derived.Shelf.Strings.Shaped
import Derived.Shelf.Strconv.AppendUint10
import Derived.Shelf.Strconv.AppendInt10
import Derived.Shelf.Strconv.AppendIntPublic10
import Derived.Shelf.Strings.Split
import Derived.Shelf.Strings.SplitShaped
import Derived.Shelf.Unicode.DecodeSlow
import Derived.Test.YtccaknabpnpjaaaGreatDoorProg
namespace Go.Proofs.YtccaknabpnpjaaaGreatDoor.A
open Go.RowKit Go.ChangeShapes Go.WideShapes Go.Deep

theorem cells3 : Tryz.prog.cellsOf 3 = 1 := by kernel_rfl
theorem open_words {H : Type} {enc : TypeId × Value → H} {W : World} {sp : Nat → Bool} {fuel : Nat} {a : Option Addr} {len cap : Nat} {x : DataW H × List MemPlace} (h : DataW.trod enc Tryz.prog W 0 sp true fuel 26 [.slice a len cap] = some x) :
    ∃ zs : List Int, Wd W a zs ∧ zs.length = len ∧ len ≤ cap ∧ cap ≤ maxLen := by
  rcases open_slice Tryz.underlying26 h with ⟨hcs, _⟩ | ⟨a', len', cap', m, n, D, Pl, hcs, _, hl, hm, hmm, _, hx⟩
  · simp at hcs
    obtain ⟨rfl, rfl, rfl⟩ := hcs
    exact ⟨[], fun i c hc => by simp at hc, rfl, Nat.le_refl _, by unfold maxLen; omega⟩
  · simp at hcs
    obtain ⟨rfl, rfl, rfl⟩ := hcs
    have hlm : len ≤ m := by rw [hmm]; split <;> omega
    have each : ∀ i, i < len → ∃ r : Int, W.cell? (a'.add i) = some (.int .i64 r) := by
      intro i hi
      obtain ⟨cs', h1, h2⟩ := hx i (by omega)
      rw [cells3] at h1
      obtain ⟨_, hlen, hcell⟩ := World.cells?_some h1
      match cs', hlen with
      | [v0], _ =>
        obtain ⟨s, e0, d0, _⟩ := DataW.trod_int Tryz.underlying3 h2
        simp only [List.cons.injEq, and_true] at e0
        subst e0
        have c0 := hcell 0 (by omega)
        rw [add_add] at c0
        exact ⟨s, by simpa using c0⟩
    obtain ⟨q, hq⟩ := choose_lt each
    refine ⟨(List.range len).map fun i => q i, fun i c hc => ?_, by simp, hl, hm⟩
    have hi : i < len := by have := (List.getElem?_eq_some_iff.1 hc).1; simpa using this
    simp only [List.getElem?_map, List.getElem?_range hi, Option.map_some, Option.some.injEq] at hc
    subst hc
    obtain ⟨b, off, spot⟩ := a'
    have hspot : spot = none := by simpa [Addr.add] using World.cell?_spot (hq 0 (by omega))
    subst hspot
    refine ⟨b, off, rfl, ?_⟩
    rw [← hq i hi]
    simp only [Addr.add]
    split
    · rename_i h; rw [h]; rfl
    · rfl
/-- Expressions at a slice. -/
def Exs (W : World) (n : Nat) (a : Option Addr) (l : List (Ex n)) : Prop := ∀ (i : Nat) (x : Ex n), l[i]? = some x → ∃ b off c0 c1 c2, a = some ⟨b, off, none⟩ ∧ W.cell? ⟨b, off + i * 3, none⟩ = some c0 ∧ W.cell? ⟨b, off + i * 3 + 1, none⟩ = some c1 ∧ W.cell? ⟨b, off + i * 3 + 2, none⟩ = some c2 ∧ Rx W n x (.agg #[c0, c1, c2])
theorem exs_kids {W : World} {n : Nat} {a : Option Addr} {l : List (Ex n)} (h : Exs W n a l) {len : Nat} (hl : l.length = len) : Kids W n a len l := fun V hb i hi => by
  have hx : l[i]? = some (l[i]'(by omega)) := List.getElem?_eq_getElem _
  obtain ⟨b, off, c0, c1, c2, e, p0, p1, p2, p3⟩ := h i _ hx
  exact ⟨_, b, off, c0, c1, c2, e, hx, (hb.cell (p := ⟨b, off + i * 3, none⟩) (cell_lt p0)).trans p0, (hb.cell (p := ⟨b, off + i * 3 + 1, none⟩) (cell_lt p1)).trans p1, (hb.cell (p := ⟨b, off + i * 3 + 2, none⟩) (cell_lt p2)).trans p2, rx_below hb n _ _ p3⟩
theorem open_list {H : Type} {enc : TypeId × Value → H} {W : World} {sp : Nat → Bool} {fuel : Nat} {a : Option Addr} {len cap : Nat} {x : DataW H × List MemPlace} (h : DataW.trod enc Tryz.prog W 0 sp true fuel 22 [.slice a len cap] = some x) :
    ∃ (n : Nat) (l : List (Ex n)), Exs W n a l ∧ l.length = len ∧ len ≤ cap ∧ cap ≤ maxLen := by
  rcases open_slice Tryz.underlying22 h with ⟨hcs, _⟩ | ⟨a', len', cap', m, n, D, Pl, hcs, _, hl, hm, hmm, _, hx⟩
  · simp at hcs
    obtain ⟨rfl, rfl, rfl⟩ := hcs
    exact ⟨0, [], fun i c hc => by simp at hc, rfl, Nat.le_refl _, by unfold maxLen; omega⟩
  · simp at hcs
    obtain ⟨rfl, rfl, rfl⟩ := hcs
    have hlm : len ≤ m := by rw [hmm]; split <;> omega
    have each : ∀ i, i < len → ∃ y : Ex n, ∃ d0 d1 d2, W.cell? (a'.add (i * 3)) = some d0 ∧ W.cell? (a'.add (i * 3 + 1)) = some d1 ∧ W.cell? (a'.add (i * 3 + 2)) = some d2 ∧ Rx W n y (.agg #[d0, d1, d2]) := by
      intro i hi
      obtain ⟨cs', h1, h2⟩ := hx i (by omega)
      rw [cells38] at h1
      obtain ⟨_, hlen, hcell⟩ := World.cells?_some h1
      obtain ⟨d0, d1, d2, rfl, y, hy⟩ := open_ex n cs' _ h2
      have q0 := hcell 0 (by omega)
      have q1 := hcell 1 (by omega)
      have q2 := hcell 2 (by omega)
      rw [add_add] at q0 q1 q2
      exact ⟨y, d0, d1, d2, by simpa using q0, by simpa using q1, by simpa using q2, hy⟩
    obtain ⟨g, hg⟩ := @choose_lt (Ex n) ⟨exI n⟩ len _ each
    refine ⟨n, (List.range len).map g, fun i y hy => ?_, by simp, hl, hm⟩
    have hi : i < len := by have := (List.getElem?_eq_some_iff.1 hy).1; simpa using this
    simp only [List.getElem?_map, List.getElem?_range hi, Option.map_some, Option.some.injEq] at hy
    subst hy
    obtain ⟨d0, d1, d2, q0, q1, q2, hy⟩ := hg i hi
    obtain ⟨b, off, spot⟩ := a'
    obtain ⟨_, _, _, z0, _⟩ := hg 0 (by omega)
    have hspot : spot = none := by simpa [Addr.add] using World.cell?_spot z0
    subst hspot
    have ha : ∀ j, (⟨b, off, none⟩ : Addr).add j = ⟨b, off + j, none⟩ := fun j => by
      simp only [Addr.add]
      split
      · rename_i h; rw [h]; rfl
      · rfl
    rw [ha] at q0 q1 q2
    exact ⟨b, off, d0, d1, d2, rfl, q0, by rw [Nat.add_assoc]; exact q1, by rw [Nat.add_assoc]; exact q2, hy⟩

/-- Are expressions more than are looked at? -/
def greatL {n : Nat} (l : List (Ex n)) : Bool := decide (20 < l.length) || l.any (fun x => greatE n x 20)
end Go.Proofs.YtccaknabpnpjaaaGreatDoor.A

/- The law's own program: what every right program answers. -/
namespace Go.Proofs.YtccaknabpnpjaaaGreatDoor.A
open Go.RowKit

/-- The expression of one set. -/
def one1 : Ex 1 := (1, 2, [])
theorem one_rx (w : World) : Rx w 1 one1 (.agg #[.int .u8 1, .int .u16 2, .slice none 0 0]) := ⟨none, 0, 0, rfl, by decide, by decide, Nat.le_refl _, by decide, rfl, .inl rfl⟩
theorem one_kids (w : World) : Kids (w.alloc (.cells #[.int .u8 1, .int .u16 2, .slice none 0 0] 38)) 1 (some ⟨w.heap.size, 0, none⟩) 1 [one1] := exs_kids (fun i x hx => by
  match i with
  | 0 =>
    have e : one1 = x := by simpa using hx
    subst e
    exact ⟨_, _, _, _, _, rfl, by simp, by simp, by simp, one_rx _⟩
  | i + 1 => simp at hx) rfl
theorem one_may : mayB [one1] = true := by decide
theorem one_pos : posE 1 [one1] 1 = 3 := by decide
theorem one_full : ∀ x ∈ [one1], full 1 x := fun x hx => by
  rw [List.mem_singleton] at hx
  subst hx
  exact fun y hy => by cases hy
theorem one_shapes : ∀ x ∈ [one1], shapesE 1 x = true := fun x hx => by
  rw [List.mem_singleton] at hx
  subst hx
  decide
theorem one_lay (p : Nat × Ex 1) (h : p ∈ layE 1 [one1]) : p = (1, one1) := by
  simpa [layE] using h
theorem one_fr (i j : Nat) : FrA [one1] i j ↔ i = 0 ∧ j = 1 := by
  constructor
  · rintro ⟨p, hp, h⟩
    rw [one_lay p hp] at h
    rcases h with h | h
    · exact h
    · rcases h with ⟨q, hq, _⟩ | ⟨h, _⟩ | ⟨h, _⟩ | ⟨h, _⟩ | ⟨h, _⟩ | ⟨h, _⟩
      · cases hq
      all_goals exact absurd h (by decide)
  · rintro ⟨rfl, rfl⟩
    exact ⟨(1, one1), by show (1, one1) ∈ [(1, one1)]; simp, .inl ⟨rfl, rfl⟩⟩
theorem one_sp (i u j : Nat) : SpA [one1] i u j ↔ i = 1 ∧ u = 2 ∧ j = 2 := by
  constructor
  · rintro ⟨p, hp, h⟩
    rw [one_lay p hp] at h
    rcases h with ⟨_, h1, h2, h3⟩ | ⟨q, hq, _⟩
    · exact ⟨h1, h2, h3⟩
    · cases hq
  · rintro ⟨rfl, rfl, rfl⟩
    exact ⟨(1, one1), by show (1, one1) ∈ [(1, one1)]; simp, .inl ⟨rfl, rfl, rfl, rfl⟩⟩
/-- Its machine, list by list. -/
theorem one_lists {fs : List (List Int)} {ss : List Nat} {ts rs : List Int} (hi : Is (FrA [one1]) (SpA [one1]) 3 fs ss ts) (hr : RsI [one1] 1 rs) (hl : rs.length = 3) : fs = [[1], [], []] ∧ ss = [0, 2, 0] ∧ ts = [0, 2, 0] ∧ rs = [-1, -1, 0] := by
  obtain ⟨lf, ls, lt, up, mem, set⟩ := hi
  match fs, lf, ss, ls, ts, lt, rs, hl with
  | [f0, f1, f2], _, [s0, s1, s2], _, [t0, t1, t2], _, [r0, r1, r2], _ =>
    have no : ∀ (i : Nat) (l : List Int), i ≠ 0 → [f0, f1, f2][i]? = some l → l = [] := fun i l h0 hl => by
      rw [List.eq_nil_iff_forall_not_mem]
      intro z hz
      obtain ⟨j, _, h⟩ := (mem i l hl z).1 hz
      exact h0 ((one_fr i j).1 h).1
    have e0 : f0 = [1] := rising_eq (up 0 f0 rfl) (by simp) (fun z => by
      rw [mem 0 f0 rfl z, List.mem_singleton]
      constructor
      · rintro ⟨j, rfl, h⟩; rw [((one_fr 0 j).1 h).2]; rfl
      · rintro rfl; exact ⟨1, rfl, (one_fr 0 1).2 ⟨rfl, rfl⟩⟩)
    have e1 := no 1 f1 (by decide) rfl
    have e2 := no 2 f2 (by decide) rfl
    have st : ∀ (i s : Nat) (t : Int), [s0, s1, s2][i]? = some s → [t0, t1, t2][i]? = some t → if i = 1 then s = 2 ∧ t = 2 else s = 0 ∧ t = 0 := fun i s t h1 h2 => by
      rcases set i s t h1 h2 with ⟨j, h, e⟩ | ⟨h, e⟩
      · obtain ⟨q1, q2, q3⟩ := (one_sp i s j).1 h
        rw [if_pos q1, e, q3]
        exact ⟨q2, rfl⟩
      · split
        · rename_i q; exact absurd ((one_sp i 2 2).2 ⟨q, rfl, rfl⟩) (h 2 2)
        · exact e
    have g0 : s0 = 0 ∧ t0 = 0 := by simpa using st 0 s0 t0 rfl rfl
    have g1 : s1 = 2 ∧ t1 = 2 := by simpa using st 1 s1 t1 rfl rfl
    have g2 : s2 = 0 ∧ t2 = 0 := by simpa using st 2 s2 t2 rfl rfl
    have ru : ∀ (i : Nat) (r : Int), [r0, r1, r2][i]? = some r → if i = 2 then r = 0 else r = -1 := fun i r h => by
      rcases hr i r h with ⟨m, p, hm, hp, e, e'⟩ | ⟨h', e⟩
      · obtain rfl : m = 0 := by omega
        rw [one_lay p (List.mem_of_getElem? hp)] at e
        rw [if_pos (show i = 2 from e), e']; rfl
      · split
        · rename_i q; exact absurd (show i = en ((1 : Nat), one1) from q) (h' 0 (1, one1) (by omega) rfl)
        · exact e
    have h0 : r0 = -1 := by simpa using ru 0 r0 rfl
    have h1 : r1 = -1 := by simpa using ru 1 r1 rfl
    have h2 : r2 = 0 := by simpa using ru 2 r2 rfl
    rw [e0, e1, e2, g0.1, g0.2, g1.1, g1.2, g2.1, g2.2, h0, h1, h2]
    exact ⟨rfl, rfl, rfl, rfl⟩
theorem one_close {g : Nat → Bool} (h : IsCl [[1], [], []] 3 (tblB [0] 1) g) : (lstL g 3).length = 2 := by
  have h2 : IsCl [[1], [], []] 3 (tblB [0] 1) (fun j => decide (j < 2)) := fun j hj => by
    constructor
    · intro e
      have e' : j < 2 := by simpa using e
      have r0 : Rch [[1], [], []] 3 (tblB [0] 1) 0 := .here (by decide) (by decide)
      match j, e' with
      | 0, _ => exact r0
      | 1, _ => exact .on r0 rfl (by simp)
    · intro e
      have key : ∀ j, Rch [[1], [], []] 3 (tblB [0] 1) j → j < 2 := fun j e => by
        induction e with
        | @here j hj h =>
          have : j = 0 := by
            have := h
            simp [tblB] at this
            omega
          omega
        | @on i j l _ hl hj ih =>
          match i, ih with
          | 0, _ =>
            have e : ([1] : List Int) = l := by simpa using hl
            subst e
            have : (j : Int) = 1 := by simpa using hj
            omega
          | 1, _ =>
            have e : ([] : List Int) = l := by simpa using hl
            subst e
            cases hj
      simpa using key j e
  rw [lst_congr (isCl_one h h2)]
  rfl
theorem one_match {ss : List Nat} {ts rs : List Int} {fs : List (List Int)} (word : List Int) (hi : Is (FrA [one1]) (SpA [one1]) 3 fs ss ts) (hr : RsI [one1] 1 rs) (hl : rs.length = 3) (g : Nat → Bool) (hg : IsRun fs ss ts 3 word word.length g) : endR rs g 3 = leastR (hasN [one1] word) 1 0 :=
  match_rule word one_full one_shapes rfl (by decide) hi hr hl one_pos.symm (by decide) g hg

theorem one_has1 : leastR (hasN [one1] [1]) 1 0 = 0 := by decide +kernel
theorem one_has0 : leastR (hasN [one1] []) 1 0 = -1 := by decide +kernel
theorem one_step : (lstL (stpB [0, 2, 0] [0, 2, 0] 1 (tblB [1] 1) 3) 3).length = 1 := by decide +kernel
end Go.Proofs.YtccaknabpnpjaaaGreatDoor.A

/- The law's own program: what every right program answers, walked. -/
namespace Go.Proofs.YtccaknabpnpjaaaGreatDoor.A
open Go.RowKit

theorem bx_of {w : World} {p : Nat} {x0 x1 x2 x3 : Value} (h : Bx w p x0 x1 x2 x3) : w.cell? ⟨p, 0, none⟩ = some x0 ∧ w.cell? ⟨p, 1, none⟩ = some x1 ∧ w.cell? ⟨p, 2, none⟩ = some x2 ∧ w.cell? ⟨p, 3, none⟩ = some x3 := h
end Go.Proofs.YtccaknabpnpjaaaGreatDoor.A

/- Expressions that may have a machine. -/
namespace Go.Proofs.YtccaknabpnpjaaaGreatDoor.A
open Go.RowKit

theorem kids_full {w : World} {n : Nat} {a : Option Addr} {len : Nat} {l : List (Ex n)} (h : Kids w n a len l) (h6 : l.length = len) : ∀ x ∈ l, full n x := fun x hx => by
  obtain ⟨i, hi, e⟩ := List.getElem_of_mem hx
  obtain ⟨x', b, off, c0, c1, c2, _, hx', _, _, _, hr⟩ := h w (Below.refl _ _) i (by omega)
  rw [List.getElem?_eq_getElem hi, e] at hx'
  cases hx'
  exact rx_full n x _ hr
theorem may_open {w : World} {n : Nat} {a : Option Addr} {len : Nat} {l : List (Ex n)} (h : mayB l = true) (hk : Kids w n a len l) (h6 : l.length = len) : 1 ≤ len ∧ len ≤ 16 ∧ (∀ x ∈ l, full n x) ∧ ∀ x ∈ l, shapesE n x = true := by
  unfold mayB at h
  simp only [Bool.and_eq_true, decide_eq_true_eq, List.all_eq_true] at h
  have hf := kids_full hk h6
  exact ⟨by omega, by omega, hf, fun x hx => ((right_iff (hf x hx)).1 (h.2.2 x hx)).2.2⟩
theorem least_back {p : Int → Bool} {len k : Nat} (hk : k < len) : leastR p (len - k) (k : Int) = if p (k : Int) then (k : Int) else leastR p (len - (k + 1)) ((k + 1 : Nat) : Int) := by
  rw [show len - k = (len - (k + 1)) + 1 by omega]
  rfl
theorem hasN_at {n : Nat} {l : List (Ex n)} {k : Nat} {x : Ex n} (word : List Int) (h : l[k]? = some x) : hasN l word (k : Int) = hasE n x word := by
  unfold hasN
  rw [show ((k : Nat) : Int).toNat = k by omega, h]
end Go.Proofs.YtccaknabpnpjaaaGreatDoor.A

/- What is closed, closed again: plain mathematics. -/
namespace Go.Proofs.YtccaknabpnpjaaaGreatDoor.A
open Go.RowKit

theorem cl_self {fs : List (List Int)} {N : Nat} {o g : Nat → Bool} (h : IsCl fs N o g) (hok : ∀ (i : Nat) (l : List Int), fs[i]? = some l → ∀ z ∈ l, 0 ≤ z ∧ z < (N : Int)) : IsCl fs N g g := fun j hj => by
  have key : ∀ j, Rch fs N g j → j < N ∧ g j = true := fun j r => by
    induction r with
    | here hn h => exact ⟨hn, h⟩
    | @on i j l _ hl hm ih =>
      have hj : j < N := by have := hok _ _ hl _ hm; omega
      exact ⟨hj, (h j hj).2 (.on ((h i ih.1).1 ih.2) hl hm)⟩
  exact ⟨fun e => .here hj e, fun r => (key j r).2⟩
theorem cl_again {fs : List (List Int)} {N : Nat} {o g g2 : Nat → Bool} (h : IsCl fs N o g) (hok : ∀ (i : Nat) (l : List Int), fs[i]? = some l → ∀ z ∈ l, 0 ≤ z ∧ z < (N : Int)) (h2 : IsCl fs N (tblB (lstL g N) (lstL g N).length) g2) : lstL g2 N = lstL g N :=
  lst_congr (isCl_one (isCl_congr (fun j hj => tbl_lst g N j hj) h2) (cl_self h hok))
theorem cl_has {fs : List (List Int)} {N : Nat} {zs : List Int} {g : Nat → Bool} (h : IsCl fs N (tblB zs zs.length) g) {z : Int} (hz : z ∈ zs) (h0 : 0 ≤ z) (hN : z < (N : Int)) : z ∈ lstL g N := by
  obtain ⟨j, rfl⟩ : ∃ j : Nat, z = j := ⟨z.toNat, by omega⟩
  have hj : j < N := by omega
  exact (lst_mem g N _).2 ⟨j, rfl, hj, (h j hj).2 (.here hj (by rw [tbl_mem]; exact hz))⟩
end Go.Proofs.YtccaknabpnpjaaaGreatDoor.A

/- A machine that came in. -/
namespace Go.Proofs.YtccaknabpnpjaaaGreatDoor.A
open Go.RowKit Go.ChangeShapes Go.WideShapes Go.Deep

theorem add_at {b off : Nat} (j : Nat) : (⟨b, off, none⟩ : Addr).add j = ⟨b, off + j, none⟩ := by
  simp only [Addr.add]
  split
  · rename_i h; rw [h]; rfl
  · rfl
theorem open_ints' {H : Type} {enc : TypeId × Value → H} {W : World} {sp : Nat → Bool} {fuel : Nat} {v : Value} {x : DataW H × List MemPlace} (h : DataW.trod enc Tryz.prog W 0 sp true fuel 26 [v] = some x) :
    ∃ (a : Option Addr) (len cap : Nat) (zs : List Int), v = .slice a len cap ∧ Wd W a zs ∧ zs.length = len ∧ len ≤ maxLen := by
  have hv : ∃ a len cap, v = .slice a len cap := by
    rcases open_slice Tryz.underlying26 h with ⟨hcs, _⟩ | ⟨a', len', cap', m, n, D, Pl, hcs, _⟩
    · simp only [List.cons.injEq, and_true] at hcs
      exact ⟨_, _, _, hcs⟩
    · simp only [List.cons.injEq, and_true] at hcs
      exact ⟨_, _, _, hcs⟩
  obtain ⟨a, len, cap, rfl⟩ := hv
  obtain ⟨zs, h1, h2, h3, h4⟩ := open_words h
  exact ⟨a, len, cap, zs, rfl, h1, h2, by omega⟩
end Go.Proofs.YtccaknabpnpjaaaGreatDoor.A

/- Sets of states numbered as they are found; the machine that comes of them: plain mathematics. -/
namespace Go.Proofs.YtccaknabpnpjaaaGreatDoor.A
open Go.RowKit

/-- A set's number, and the sets behind that. -/
def findF (S : List (List Int)) (s : List Int) : List (List Int) × Int :=
  if s = [] then (S, -1) else if s ∈ S then (S, ((S.idxOf s : Nat) : Int)) else (S ++ [s], ((S.length : Nat) : Int))
/-- The first k numbers of a set's row, and the sets behind that. -/
def rowF (tr : List Int → Nat → List Int) (s : List Int) (S : List (List Int)) : Nat → List (List Int) × List Int
  | 0 => (S, [])
  | k + 1 => ((findF (rowF tr s S k).1 (tr s k)).1, (rowF tr s S k).2 ++ [(findF (rowF tr s S k).1 (tr s k)).2])
/-- The sets, rows and rules behind the first k states. -/
def stF (tr : List Int → Nat → List Int) (ls : List Int → Int) (start : List Int) : Nat → List (List Int) × List (List Int) × List Int
  | 0 => ([start], [], [])
  | k + 1 => match (stF tr ls start k).1[k]? with
    | none => stF tr ls start k
    | some s => ((rowF tr s (stF tr ls start k).1 16).1, (stF tr ls start k).2.1 ++ [(rowF tr s (stF tr ls start k).1 16).2], (stF tr ls start k).2.2 ++ [ls s])

theorem find_pre (S : List (List Int)) (s : List Int) : ∃ r, (findF S s).1 = S ++ r ∧ r.length ≤ 1 := by
  unfold findF
  split
  · exact ⟨[], by simp, by simp⟩
  · split
    · exact ⟨[], by simp, by simp⟩
    · exact ⟨[s], rfl, by simp⟩
theorem row_pre (tr : List Int → Nat → List Int) (s : List Int) (S : List (List Int)) : ∀ k, ∃ r, (rowF tr s S k).1 = S ++ r ∧ r.length ≤ k
  | 0 => ⟨[], by simp [rowF], by simp⟩
  | k + 1 => by
    obtain ⟨r, hr, hl⟩ := row_pre tr s S k
    obtain ⟨r', hr', hl'⟩ := find_pre (rowF tr s S k).1 (tr s k)
    refine ⟨r ++ r', ?_, by simp; omega⟩
    show (findF (rowF tr s S k).1 (tr s k)).1 = _
    rw [hr', hr, List.append_assoc]
theorem row_len (tr : List Int → Nat → List Int) (s : List Int) (S : List (List Int)) : ∀ k, (rowF tr s S k).2.length = k
  | 0 => rfl
  | k + 1 => by show (_ ++ [_]).length = _; rw [List.length_append, row_len tr s S k]; rfl

section
variable {tr : List Int → Nat → List Int} {ls : List Int → Int} {start : List Int}
theorem st_some {k : Nat} {s : List Int} (h : (stF tr ls start k).1[k]? = some s) : stF tr ls start (k + 1) = ((rowF tr s (stF tr ls start k).1 16).1, (stF tr ls start k).2.1 ++ [(rowF tr s (stF tr ls start k).1 16).2], (stF tr ls start k).2.2 ++ [ls s]) := by
  conv => lhs; unfold stF
  rw [h]
theorem st_none {k : Nat} (h : (stF tr ls start k).1[k]? = none) : stF tr ls start (k + 1) = stF tr ls start k := by
  conv => lhs; unfold stF
  rw [h]
theorem st_pre1 (k : Nat) : ∃ r, (stF tr ls start (k + 1)).1 = (stF tr ls start k).1 ++ r := by
  cases h : (stF tr ls start k).1[k]? with
  | none => exact ⟨[], by rw [st_none h]; simp⟩
  | some s =>
    obtain ⟨r, hr, _⟩ := row_pre tr s (stF tr ls start k).1 16
    exact ⟨r, by rw [st_some h]; exact hr⟩
theorem st_pre (k m : Nat) : ∃ r, (stF tr ls start (k + m)).1 = (stF tr ls start k).1 ++ r := by
  induction m with
  | zero => exact ⟨[], by simp⟩
  | succ m ih =>
    obtain ⟨r, hr⟩ := ih
    obtain ⟨r', hr'⟩ := st_pre1 (tr := tr) (ls := ls) (start := start) (k + m)
    exact ⟨r ++ r', by rw [show k + (m + 1) = k + m + 1 by omega, hr', hr, List.append_assoc]⟩
theorem st_mono {k m : Nat} (h : k ≤ m) : (stF tr ls start k).1.length ≤ (stF tr ls start m).1.length := by
  obtain ⟨r, hr⟩ := st_pre (tr := tr) (ls := ls) (start := start) k (m - k)
  rw [show k + (m - k) = m by omega] at hr
  rw [hr, List.length_append]; omega
theorem st_at {k m i : Nat} {s : List Int} (h : k ≤ m) (hi : (stF tr ls start k).1[i]? = some s) : (stF tr ls start m).1[i]? = some s := by
  obtain ⟨r, hr⟩ := st_pre (tr := tr) (ls := ls) (start := start) k (m - k)
  rw [show k + (m - k) = m by omega] at hr
  rw [hr, List.getElem?_append_left (List.getElem?_eq_some_iff.1 hi).1]; exact hi
theorem st_stop {k : Nat} (h : (stF tr ls start k).1.length ≤ k) (m : Nat) : stF tr ls start (k + m) = stF tr ls start k := by
  induction m with
  | zero => rfl
  | succ m ih =>
    rw [show k + (m + 1) = k + m + 1 by omega]
    have hn : (stF tr ls start (k + m)).1[k + m]? = none := by rw [ih]; exact List.getElem?_eq_none (by omega)
    rw [st_none hn, ih]
/-- As long as there is a state more, there are as many rows. -/
theorem st_len : ∀ k, (∀ j, j < k → j < (stF tr ls start j).1.length) → (stF tr ls start k).2.1.length = k ∧ (stF tr ls start k).2.2.length = k
  | 0, _ => ⟨rfl, rfl⟩
  | k + 1, h => by
    obtain ⟨h1, h2⟩ := st_len k (fun j hj => h j (by omega))
    rw [st_some (List.getElem?_eq_getElem (h k (by omega)))]
    simp [h1, h2]
/-- The machine's end: behind 201 rounds nothing turns, or there are too many. -/
theorem st_end {k : Nat} (h : (stF tr ls start k).1.length = k) (hk : k ≤ 200) : stF tr ls start 201 = stF tr ls start k := by
  have := st_stop (tr := tr) (ls := ls) (start := start) (k := k) (by omega) (201 - k)
  rw [show k + (201 - k) = 201 by omega] at this
  exact this
theorem st_big {k : Nat} (h : 200 < (stF tr ls start (k + 1)).1.length) (hk : k < 201) : 200 < (stF tr ls start 201).1.length := by
  have := st_mono (tr := tr) (ls := ls) (start := start) (k := k + 1) (m := 201) (by omega)
  omega
/-- Sets are there once, and no set is empty. -/
theorem find_nodup {S : List (List Int)} (h : S.Nodup) (s : List Int) : (findF S s).1.Nodup := by
  unfold findF
  split
  · exact h
  · split
    · exact h
    · rename_i hn
      rw [List.nodup_append]
      exact ⟨h, by simp, fun a ha b hb => by rw [List.mem_singleton] at hb; subst hb; exact fun e => hn (e ▸ ha)⟩
theorem find_spec (S : List (List Int)) (s : List Int) : (s = [] ∧ (findF S s).2 = -1) ∨ (s ≠ [] ∧ ∃ j : Nat, (findF S s).2 = j ∧ (findF S s).1[j]? = some s) := by
  unfold findF
  by_cases h : s = []
  · left; exact ⟨h, by rw [if_pos h]⟩
  · right
    refine ⟨h, ?_⟩
    rw [if_neg h]
    by_cases hm : s ∈ S
    · rw [if_pos hm]
      have hlt := List.idxOf_lt_length_of_mem hm
      exact ⟨_, rfl, by rw [List.getElem?_eq_getElem hlt]; simp⟩
    · rw [if_neg hm]
      exact ⟨_, rfl, by simp⟩
/-- What a row's numbers mean. -/
def Means (tr : List Int → Nat → List Int) (S : List (List Int)) (s : List Int) (row : List Int) (k : Nat) : Prop :=
  ∀ c, c < k → (tr s c = [] ∧ row[c]? = some (-1)) ∨ (tr s c ≠ [] ∧ ∃ j : Nat, row[c]? = some (j : Int) ∧ S[j]? = some (tr s c))
theorem means_more {S : List (List Int)} {s row : List Int} {k : Nat} (h : Means tr S s row k) (r : List (List Int)) : Means tr (S ++ r) s row k := fun c hc => by
  rcases h c hc with h | ⟨h0, j, h1, h2⟩
  · exact .inl h
  · exact .inr ⟨h0, j, h1, by rw [List.getElem?_append_left (List.getElem?_eq_some_iff.1 h2).1]; exact h2⟩
theorem row_means (s : List Int) (S : List (List Int)) : ∀ k, Means tr (rowF tr s S k).1 s (rowF tr s S k).2 k
  | 0 => fun c hc => by omega
  | k + 1 => fun c hc => by
    have hl := row_len tr s S k
    obtain ⟨r, hr, _⟩ := find_pre (rowF tr s S k).1 (tr s k)
    show (tr s c = [] ∧ ((rowF tr s S k).2 ++ [(findF (rowF tr s S k).1 (tr s k)).2])[c]? = some (-1)) ∨ (tr s c ≠ [] ∧ ∃ j : Nat, ((rowF tr s S k).2 ++ [(findF (rowF tr s S k).1 (tr s k)).2])[c]? = some (j : Int) ∧ (findF (rowF tr s S k).1 (tr s k)).1[j]? = some (tr s c))
    by_cases e : c = k
    · subst e
      rw [List.getElem?_append_right (by omega), hl, Nat.sub_self]
      rcases find_spec (rowF tr s S c).1 (tr s c) with ⟨h1, h2⟩ | ⟨h0, j, h1, h2⟩
      · exact .inl ⟨h1, by rw [h2]; rfl⟩
      · exact .inr ⟨h0, j, by rw [h1]; rfl, h2⟩
    · rw [List.getElem?_append_left (by omega)]
      have := means_more (row_means s S k) r c (by omega)
      rw [← hr] at this
      exact this
theorem row_nodup {S : List (List Int)} (h : S.Nodup) (s : List Int) : ∀ k, (rowF tr s S k).1.Nodup
  | 0 => h
  | k + 1 => find_nodup (row_nodup h s k) _
theorem st_nodup : ∀ k, (stF tr ls start k).1.Nodup
  | 0 => by simp [stF]
  | k + 1 => by
    cases h : (stF tr ls start k).1[k]? with
    | none => rw [st_none h]; exact st_nodup k
    | some s => rw [st_some h]; exact row_nodup (st_nodup k) s 16
/-- All sets keep what tr and the start keep. -/
theorem find_all {P : List Int → Prop} {S : List (List Int)} (h : ∀ x ∈ S, P x) {s : List Int} (hs : s ≠ [] → P s) : ∀ x ∈ (findF S s).1, P x := by
  unfold findF
  split
  · exact h
  · split
    · exact h
    · rename_i h0 _
      intro x hx
      rw [List.mem_append, List.mem_singleton] at hx
      rcases hx with hx | rfl
      · exact h x hx
      · exact hs h0
theorem row_all {P : List Int → Prop} {s : List Int} (ht : ∀ c, c < 16 → tr s c ≠ [] → P (tr s c)) {S : List (List Int)} (h : ∀ x ∈ S, P x) : ∀ k, k ≤ 16 → ∀ x ∈ (rowF tr s S k).1, P x
  | 0, _ => h
  | k + 1, hk => find_all (row_all ht h k (by omega)) (ht k (by omega))
theorem st_all {P : List Int → Prop} (h0 : P start) (ht : ∀ s, P s → ∀ c, c < 16 → tr s c ≠ [] → P (tr s c)) : ∀ k, ∀ x ∈ (stF tr ls start k).1, P x
  | 0 => fun x hx => by
    have : x = start := by simpa [stF] using hx
    rw [this]; exact h0
  | k + 1 => by
    cases h : (stF tr ls start k).1[k]? with
    | none => rw [st_none h]; exact st_all h0 ht k
    | some s => rw [st_some h]; exact row_all (ht s (st_all h0 ht k s (List.mem_of_getElem? h))) (st_all h0 ht k) 16 (by omega)
/-- Each row behind the first k states means what it should, and each rule is its set's. -/
theorem st_means : ∀ k, (∀ j, j < k → j < (stF tr ls start j).1.length) → ∀ i, i < k → ∃ s row, (stF tr ls start k).1[i]? = some s ∧ (stF tr ls start k).2.1[i]? = some row ∧ row.length = 16 ∧ (stF tr ls start k).2.2[i]? = some (ls s) ∧ Means tr (stF tr ls start k).1 s row 16
  | 0, _, i, hi => by omega
  | k + 1, h, i, hi => by
    have hk := h k (by omega)
    obtain ⟨l1, l2⟩ := st_len (tr := tr) (ls := ls) (start := start) k (fun j hj => h j (by omega))
    have e := List.getElem?_eq_getElem hk
    generalize (stF tr ls start k).1[k] = s at e
    have hS := st_some (ls := ls) e
    rw [hS]
    obtain ⟨r, hr, _⟩ := row_pre tr s (stF tr ls start k).1 16
    by_cases q : i = k
    · subst q
      refine ⟨s, (rowF tr s (stF tr ls start i).1 16).2, ?_, ?_, row_len _ _ _ _, ?_, row_means s _ 16⟩
      · show (rowF tr s (stF tr ls start i).1 16).1[i]? = _
        rw [hr, List.getElem?_append_left hk]; exact e
      · show (_ ++ [_])[i]? = _
        rw [List.getElem?_append_right (by omega), l1, Nat.sub_self]; rfl
      · show (_ ++ [_])[i]? = _
        rw [List.getElem?_append_right (by omega), l2, Nat.sub_self]; rfl
    · obtain ⟨s', row, h1, h2, h3, h4, h5⟩ := st_means k (fun j hj => h j (by omega)) i (by omega)
      refine ⟨s', row, ?_, ?_, h3, ?_, ?_⟩
      · show (rowF tr s (stF tr ls start k).1 16).1[i]? = _
        rw [hr, List.getElem?_append_left (List.getElem?_eq_some_iff.1 h1).1]; exact h1
      · show (_ ++ [_])[i]? = _
        rw [List.getElem?_append_left (by omega)]; exact h2
      · show (_ ++ [_])[i]? = _
        rw [List.getElem?_append_left (by omega)]; exact h4
      · show Means tr (rowF tr s (stF tr ls start k).1 16).1 s' row 16
        rw [hr]; exact means_more h5 r
theorem st_start (k : Nat) : (stF tr ls start k).1[0]? = some start := st_at (k := 0) (Nat.zero_le k) rfl
/-- There is a first round at which no state is left, or there are too many. -/
theorem st_reach (hb : (stF tr ls start 201).1.length ≤ 200) : ∃ k, (stF tr ls start k).1.length = k ∧ k ≤ 200 ∧ (∀ j, j < k → j < (stF tr ls start j).1.length) ∧ stF tr ls start 201 = stF tr ls start k := by
  have key : ∀ m, (∀ j, j < m → j < (stF tr ls start j).1.length) ∨ ∃ k, k < m ∧ (stF tr ls start k).1.length = k ∧ (∀ j, j < k → j < (stF tr ls start j).1.length) := fun m => by
    induction m with
    | zero => exact .inl fun j hj => by omega
    | succ m ih =>
      rcases ih with ih | ⟨k, h1, h2, h3⟩
      · by_cases q : m < (stF tr ls start m).1.length
        · exact .inl fun j hj => by
            by_cases e : j = m
            · subst e; exact q
            · exact ih j (by omega)
        · right
          refine ⟨m, by omega, ?_, ih⟩
          cases m with
          | zero => simp [stF] at q
          | succ m =>
            have := ih m (by omega)
            have h2 := st_mono (tr := tr) (ls := ls) (start := start) (k := m) (m := m + 1) (by omega)
            omega
      · exact .inr ⟨k, by omega, h2, h3⟩
  rcases key 201 with h | ⟨k, h1, h2, h3⟩
  · have h1 := h 200 (by omega)
    have h2 := st_mono (tr := tr) (ls := ls) (start := start) (k := 200) (m := 201) (by omega)
    omega
  · exact ⟨k, h2, by omega, h3, st_end h2 (by omega)⟩
end
end Go.Proofs.YtccaknabpnpjaaaGreatDoor.A

/- The library's contracts at this program, laid by the kit's own command; those that are used. -/
/-
  DERIVED: THE SHELF's CONTRACTS AT THIS DUMP, IN PLAIN WORDS (tools/lay-plain.mjs out of 'TryzShelf.lean', which tools/lay-shelf.mjs wrote): THE SAME DECLARATIONS UNDER THE SAME NAMES: 'import', 'namespace', 'open', 'def', 'theorem' AND NOTHING ELSE: no command of the shelf's: FOR A HAND-IN. Each laying: the table of numbers ('.._ren') and one theorem, a field a fact of the dump's own or the kernel's comparison; each contract: ONE APPLICATION.
-/
namespace Go.Proofs
open Go.Shelf
def Tryz.lays137_ren : Go.Shelf.Ren := ⟨fun | 137 => 116 | 217 => 84 | 266 => 94 | n => n, fun | 9 => 9 | 5 => 5 | 3 => 3 | n => n, fun | n => n⟩
theorem Tryz.lays137 : Go.Proofs.Lays.n137 Tryz.prog Tryz.lays137_ren := {
  mixed := by kernel_rfl
  f137 := Tryz.func116.trans (congrArg some (by kernel_rfl))
  f217 := Tryz.func84.trans (congrArg some (by kernel_rfl))
  f266 := Tryz.func94.trans (congrArg some (by kernel_rfl))
  t3 := Tryz.underlying3
  a3 := Tryz.isAgg3
  z3 := Tryz.sizeOf3
  v3 := Tryz.zeroValue3
  t5 := Tryz.underlying5
  a5 := Tryz.isAgg5
  z5 := Tryz.sizeOf5
  v5 := Tryz.zeroValue5
  t9 := Tryz.underlying9
  a9 := Tryz.isAgg9
  z9 := Tryz.sizeOf9
  v9 := Tryz.zeroValue9 }
open Go.RowKit in
/-- strings.IndexByte: "IndexByte returns the index of the first instance of c in s, or -1 if c is not present in s.": IT RETURNS 'Lib.indexByte s c'; the world is as it was. (LAID: no walk: one application.) -/
theorem Tryz.strings_IndexByte (s : ByteArray) (c : Int) (w : World) :
    Calls Tryz.prog 116 #[.string s, .int .u8 c] w fun e w' => e = .returned (.int .i64 (Lib.indexByte s.data.toList c.toNat.toUInt8)) ∧ w' = w := Any.strings_IndexByte Tryz.lays137 s c w
def Tryz.laysM316_ren : Go.Shelf.Ren := ⟨fun | 316 => 97 | n => n, fun | 9 => 9 | 3 => 3 | 4 => 4 | 37 => 116 | 0 => 0 | 127 => 154 | 5 => 5 | n => n, fun | n => n⟩
theorem Tryz.laysM316 : Go.Proofs.LaysM.n316 Tryz.prog Tryz.laysM316_ren := {
  mixed := by kernel_rfl
  f316 := Tryz.func97.trans (congrArg some (by kernel_rfl))
  t0 := Tryz.underlying0
  a0 := Tryz.isAgg0
  z0 := Tryz.sizeOf0
  v0 := Tryz.zeroValue0
  t3 := Tryz.underlying3
  a3 := Tryz.isAgg3
  z3 := Tryz.sizeOf3
  v3 := Tryz.zeroValue3
  t4 := Tryz.underlying4
  a4 := Tryz.isAgg4
  z4 := Tryz.sizeOf4
  v4 := Tryz.zeroValue4
  t9 := Tryz.underlying9
  a9 := Tryz.isAgg9
  z9 := Tryz.sizeOf9
  v9 := Tryz.zeroValue9
  t37 := Tryz.underlying116
  a37 := Tryz.isAgg116
  z37 := Tryz.sizeOf116
  v37 := Tryz.zeroValue116
  t127 := Tryz.underlying154
  a127 := Tryz.isAgg154
  z127 := Tryz.sizeOf154
  v127 := Tryz.zeroValue154
  t5 := Tryz.underlying5
  a5 := Tryz.isAgg5
  z5 := Tryz.sizeOf5
  v5 := Tryz.zeroValue5
  i0 := by kernel_rfl
  i3 := by kernel_rfl
  i4 := by kernel_rfl
  i5 := by kernel_rfl
  i9 := by kernel_rfl
  i37 := by kernel_rfl
  i127 := by kernel_rfl }
open Go.RowKit in
/-- internal/stringslite.Clone (what strings.Clone calls): "Clone returns a fresh copy of s.": THE SAME BYTES. Of what was there nothing has turned (a new row is laid, and frozen, where s is not empty). (LAID: no walk: one application.) -/
theorem Tryz.stringslite_Clone (s : ByteArray) (w : World) (hlim : s.size ≤ 281474976710656) :
    Calls Tryz.prog 97 #[.string s] w fun e w' => e = .returned (.string s) ∧ Below w.heap.size w w' := Any.stringslite_Clone Tryz.laysM316 s w hlim
def Tryz.lays138_ren : Go.Shelf.Ren := ⟨fun | 138 => 32 | 195 => 50 | 218 => 51 | 143 => 52 | 219 => 70 | 217 => 84 | 225 => 85 | 224 => 86 | 267 => 87 | 266 => 94 | 314 => 95 | n => n, fun | 9 => 9 | 3 => 3 | 4 => 4 | 5 => 5 | 0 => 0 | 46 => 99 | 146 => 141 | 51 => 140 | n => n, fun | 1 => 0 | n => n⟩
theorem Tryz.lays138 : Go.Proofs.Lays.n138 Tryz.prog Tryz.lays138_ren := {
  mixed := by kernel_rfl
  f138 := Tryz.func32.trans (congrArg some (by kernel_rfl))
  f143 := Tryz.func52.trans (congrArg some (by kernel_rfl))
  f195 := Tryz.func50.trans (congrArg some (by kernel_rfl))
  f217 := Tryz.func84.trans (congrArg some (by kernel_rfl))
  f218 := Tryz.func51.trans (congrArg some (by kernel_rfl))
  f219 := Tryz.func70.trans (congrArg some (by kernel_rfl))
  f224 := Tryz.func86.trans (congrArg some (by kernel_rfl))
  f225 := Tryz.func85.trans (congrArg some (by kernel_rfl))
  f266 := Tryz.func94.trans (congrArg some (by kernel_rfl))
  f267 := Tryz.func87.trans (congrArg some (by kernel_rfl))
  f314 := Tryz.func95.trans (congrArg some (by kernel_rfl))
  t0 := Tryz.underlying0
  a0 := Tryz.isAgg0
  z0 := Tryz.sizeOf0
  v0 := Tryz.zeroValue0
  t3 := Tryz.underlying3
  a3 := Tryz.isAgg3
  z3 := Tryz.sizeOf3
  v3 := Tryz.zeroValue3
  t4 := Tryz.underlying4
  a4 := Tryz.isAgg4
  z4 := Tryz.sizeOf4
  v4 := Tryz.zeroValue4
  t5 := Tryz.underlying5
  a5 := Tryz.isAgg5
  z5 := Tryz.sizeOf5
  v5 := Tryz.zeroValue5
  t9 := Tryz.underlying9
  a9 := Tryz.isAgg9
  z9 := Tryz.sizeOf9
  v9 := Tryz.zeroValue9
  t46 := Tryz.underlying99
  a46 := Tryz.isAgg99
  z46 := Tryz.sizeOf99
  v46 := Tryz.zeroValue99
  t51 := Tryz.underlying140
  a51 := Tryz.isAgg140
  z51 := Tryz.sizeOf140
  v51 := Tryz.zeroValue140
  t146 := Tryz.underlying141
  a146 := Tryz.isAgg141
  z146 := Tryz.sizeOf141
  v146 := Tryz.zeroValue141
  g1 := by kernel_rfl }
open Go.RowKit Go.Lib in
/-- strings.Count AT A substr OF ONE BYTE ('hp'): "Count counts the number of non-overlapping instances of substr in s.": IT RETURNS 'Lib.countByte s (that byte)'; the world is as it was. ✋ NO CONTRACT HERE YET at an empty substr (utf8.RuneCountInString) or at a longer one (a loop over strings.Index). (LAID: no walk: one application.) -/
theorem Tryz.strings_Count_one (s : ByteArray) (c : UInt8) (w : World) :
    Calls Tryz.prog 32 #[.string s, .string ⟨#[c]⟩] w fun e w' => e = .returned (.int .i64 (Lib.countByte s.data.toList c)) ∧ w' = w := Any.strings_Count_one Tryz.lays138 s c w
def Tryz.laysM176_ren : Go.Shelf.Ren := ⟨fun | 176 => 63 | 249 => 82 | 288 => 93 | 283 => 100 | 284 => 101 | 285 => 102 | 286 => 103 | 129 => 107 | 317 => 106 | 318 => 108 | 319 => 109 | 320 => 110 | 337 => 114 | 338 => 115 | n => n, fun | 37 => 116 | 2 => 2 | 3 => 3 | 53 => 138 | 4 => 4 | 9 => 9 | 171 => 145 | 0 => 0 | 173 => 148 | 212 => 157 | 51 => 140 | 5 => 5 | 20 => 20 | 213 => 158 | 46 => 99 | 232 => 162 | 233 => 163 | n => n, fun | 17 => 3 | 18 => 4 | 19 => 5 | n => n⟩
theorem Tryz.laysM176 : Go.Proofs.LaysM.n176 Tryz.prog Tryz.laysM176_ren := {
  mixed := by kernel_rfl
  f129 := Tryz.func107.trans (congrArg some (by kernel_rfl))
  f176 := Tryz.func63.trans (congrArg some (by kernel_rfl))
  f249 := Tryz.func82.trans (congrArg some (by kernel_rfl))
  f283 := Tryz.func100.trans (congrArg some (by kernel_rfl))
  f284 := Tryz.func101.trans (congrArg some (by kernel_rfl))
  f285 := Tryz.func102.trans (congrArg some (by kernel_rfl))
  f286 := Tryz.func103.trans (congrArg some (by kernel_rfl))
  f288 := Tryz.func93.trans (congrArg some (by kernel_rfl))
  f317 := Tryz.func106.trans (congrArg some (by kernel_rfl))
  f318 := Tryz.func108.trans (congrArg some (by kernel_rfl))
  f319 := Tryz.func109.trans (congrArg some (by kernel_rfl))
  f320 := Tryz.func110.trans (congrArg some (by kernel_rfl))
  f337 := Tryz.func114.trans (congrArg some (by kernel_rfl))
  f338 := Tryz.func115.trans (congrArg some (by kernel_rfl))
  t0 := Tryz.underlying0
  a0 := Tryz.isAgg0
  z0 := Tryz.sizeOf0
  v0 := Tryz.zeroValue0
  t2 := Tryz.underlying2
  a2 := Tryz.isAgg2
  z2 := Tryz.sizeOf2
  v2 := Tryz.zeroValue2
  t3 := Tryz.underlying3
  a3 := Tryz.isAgg3
  z3 := Tryz.sizeOf3
  v3 := Tryz.zeroValue3
  t4 := Tryz.underlying4
  a4 := Tryz.isAgg4
  z4 := Tryz.sizeOf4
  v4 := Tryz.zeroValue4
  t5 := Tryz.underlying5
  a5 := Tryz.isAgg5
  z5 := Tryz.sizeOf5
  v5 := Tryz.zeroValue5
  t9 := Tryz.underlying9
  a9 := Tryz.isAgg9
  z9 := Tryz.sizeOf9
  v9 := Tryz.zeroValue9
  t20 := Tryz.underlying20
  a20 := Tryz.isAgg20
  z20 := Tryz.sizeOf20
  v20 := Tryz.zeroValue20
  t37 := Tryz.underlying116
  a37 := Tryz.isAgg116
  z37 := Tryz.sizeOf116
  v37 := Tryz.zeroValue116
  t46 := Tryz.underlying99
  a46 := Tryz.isAgg99
  z46 := Tryz.sizeOf99
  v46 := Tryz.zeroValue99
  t51 := Tryz.underlying140
  a51 := Tryz.isAgg140
  z51 := Tryz.sizeOf140
  v51 := Tryz.zeroValue140
  t53 := Tryz.underlying138
  a53 := Tryz.isAgg138
  z53 := Tryz.sizeOf138
  v53 := Tryz.zeroValue138
  t171 := Tryz.underlying145
  a171 := Tryz.isAgg145
  z171 := Tryz.sizeOf145
  v171 := Tryz.zeroValue145
  t173 := Tryz.underlying148
  a173 := Tryz.isAgg148
  z173 := Tryz.sizeOf148
  v173 := Tryz.zeroValue148
  t212 := Tryz.underlying157
  a212 := Tryz.isAgg157
  z212 := Tryz.sizeOf157
  v212 := Tryz.zeroValue157
  t213 := Tryz.underlying158
  a213 := Tryz.isAgg158
  z213 := Tryz.sizeOf158
  t232 := Tryz.underlying162
  a232 := Tryz.isAgg162
  z232 := Tryz.sizeOf162
  v232 := Tryz.zeroValue162
  t233 := Tryz.underlying163
  a233 := Tryz.isAgg163
  z233 := Tryz.sizeOf163
  v233 := Tryz.zeroValue163
  g17 := by kernel_rfl
  g18 := by kernel_rfl
  g19 := by kernel_rfl
  i0 := by kernel_rfl
  i2 := by kernel_rfl
  i3 := by kernel_rfl
  i4 := by kernel_rfl
  i5 := by kernel_rfl
  i9 := by kernel_rfl
  i20 := by kernel_rfl
  i37 := by kernel_rfl
  i46 := by kernel_rfl
  i51 := by kernel_rfl
  i53 := by kernel_rfl
  i171 := by kernel_rfl
  i173 := by kernel_rfl
  i212 := by kernel_rfl
  i232 := by kernel_rfl
  i233 := by kernel_rfl
  m17 := by kernel_rfl
  m18 := by kernel_rfl
  m19 := by kernel_rfl }
open Go.RowKit Go.Sort Go.Lib in
/-- strconv.AppendInt: "AppendInt appends the string form of the integer i, as generated by FormatInt, to dst and returns the extended buffer.": AT BASE 10: WHAT COMES BACK OWNS dst's CELLS AND, BEHIND THEM, i's DECIMAL NUMERAL ('Lib.itoa i': at most 20 bytes), for every int64. Below the call's own blocks nothing has turned. (LAID: no walk: one application.) -/
theorem Tryz.strconv_AppendInt_10 (B n : Nat) (i : Int) (h0 : -9223372036854775808 ≤ i) (h1 : i ≤ 9223372036854775807) (sv : Value) (xs : List Value) (w : World) (hown : w.ownsRow B 5 1 sv n xs) (hBw : B ≤ w.heap.size) (hlim : n + 21 ≤ 140737488355328) (htab : Lib.TabBelow Tryz.prog B w "internal/strconv.uint64pow10" .u64 Lib.pow10Tab) :
    Calls Tryz.prog 63 #[sv, .int .i64 i, .int .i64 10] w fun e w' => ∃ v', e = .returned v' ∧ w'.ownsRow B 5 1 v' (n + (Lib.itoa i).length) (xs ++ Lib.byteCells (Lib.itoa i)) ∧ Below B w w' ∧ Lib.OthersKept 5 none w w' := Any.strconv_AppendInt_10 Tryz.laysM176 B n i h0 h1 sv xs w hown hBw hlim htab
def Tryz.lays146_ren : Go.Shelf.Ren := ⟨fun | 146 => 33 | 221 => 53 | 268 => 71 | 138 => 32 | 143 => 52 | 195 => 50 | 197 => 88 | 218 => 51 | 219 => 70 | 260 => 96 | 217 => 84 | 225 => 85 | 224 => 86 | 267 => 87 | 266 => 94 | 314 => 95 | n => n, fun | 9 => 9 | 31 => 78 | 3 => 3 | 4 => 4 | 0 => 0 | 105 => 134 | 21 => 21 | 5 => 5 | 46 => 99 | 119 => 150 | 139 => 153 | 138 => 152 | 146 => 141 | 51 => 140 | n => n, fun | 1 => 0 | 3 => 1 | 4 => 2 | n => n⟩
theorem Tryz.lays146 : Go.Proofs.Lays.n146 Tryz.prog Tryz.lays146_ren := {
  mixed := by kernel_rfl
  f138 := Tryz.func32.trans (congrArg some (by kernel_rfl))
  f143 := Tryz.func52.trans (congrArg some (by kernel_rfl))
  f146 := Tryz.func33.trans (congrArg some (by kernel_rfl))
  f195 := Tryz.func50.trans (congrArg some (by kernel_rfl))
  f197 := Tryz.func88.trans (congrArg some (by kernel_rfl))
  f217 := Tryz.func84.trans (congrArg some (by kernel_rfl))
  f218 := Tryz.func51.trans (congrArg some (by kernel_rfl))
  f219 := Tryz.func70.trans (congrArg some (by kernel_rfl))
  f221 := Tryz.func53.trans (congrArg some (by kernel_rfl))
  f224 := Tryz.func86.trans (congrArg some (by kernel_rfl))
  f225 := Tryz.func85.trans (congrArg some (by kernel_rfl))
  f260 := Tryz.func96.trans (congrArg some (by kernel_rfl))
  f266 := Tryz.func94.trans (congrArg some (by kernel_rfl))
  f267 := Tryz.func87.trans (congrArg some (by kernel_rfl))
  f268 := Tryz.func71.trans (congrArg some (by kernel_rfl))
  f314 := Tryz.func95.trans (congrArg some (by kernel_rfl))
  t0 := Tryz.underlying0
  a0 := Tryz.isAgg0
  z0 := Tryz.sizeOf0
  v0 := Tryz.zeroValue0
  t3 := Tryz.underlying3
  a3 := Tryz.isAgg3
  z3 := Tryz.sizeOf3
  v3 := Tryz.zeroValue3
  t4 := Tryz.underlying4
  a4 := Tryz.isAgg4
  z4 := Tryz.sizeOf4
  v4 := Tryz.zeroValue4
  t5 := Tryz.underlying5
  a5 := Tryz.isAgg5
  z5 := Tryz.sizeOf5
  v5 := Tryz.zeroValue5
  t9 := Tryz.underlying9
  a9 := Tryz.isAgg9
  z9 := Tryz.sizeOf9
  v9 := Tryz.zeroValue9
  t21 := Tryz.underlying21
  a21 := Tryz.isAgg21
  z21 := Tryz.sizeOf21
  v21 := Tryz.zeroValue21
  t31 := Tryz.underlying78
  a31 := Tryz.isAgg78
  z31 := Tryz.sizeOf78
  v31 := Tryz.zeroValue78
  t46 := Tryz.underlying99
  a46 := Tryz.isAgg99
  z46 := Tryz.sizeOf99
  v46 := Tryz.zeroValue99
  t51 := Tryz.underlying140
  a51 := Tryz.isAgg140
  z51 := Tryz.sizeOf140
  v51 := Tryz.zeroValue140
  t105 := Tryz.underlying134
  a105 := Tryz.isAgg134
  z105 := Tryz.sizeOf134
  v105 := Tryz.zeroValue134
  t119 := Tryz.underlying150
  a119 := Tryz.isAgg150
  z119 := Tryz.sizeOf150
  t138 := Tryz.underlying152
  a138 := Tryz.isAgg152
  z138 := Tryz.sizeOf152
  v138 := Tryz.zeroValue152
  t139 := Tryz.underlying153
  a139 := Tryz.isAgg153
  z139 := Tryz.sizeOf153
  v139 := Tryz.zeroValue153
  t146 := Tryz.underlying141
  a146 := Tryz.isAgg141
  z146 := Tryz.sizeOf141
  v146 := Tryz.zeroValue141
  g1 := by kernel_rfl
  g3 := by kernel_rfl
  g4 := by kernel_rfl }
open Go.RowKit Go.Lib in
/-- strings.Split. (LAID: no walk: one application.) -/
theorem Tryz.strings_Split (s sep : ByteArray) (m : Int) (w : World) (hs : s.size < 4294967281) (hm : w.cell? ⟨0, 0, none⟩ = some (.int .i64 m)) (h1 : 1 ≤ sep.size) :
    Calls Tryz.prog 33 #[.string s, .string sep] w fun e w' =>
      e = .returned (.slice (some ⟨w.heap.size, 0, none⟩) (Lib.countB s sep + 1) (Lib.countB s sep + 1)) ∧ w' = w.alloc (.cells ((Lib.splitB sep 0 (Lib.countB s sep) s).map Value.string).toArray 9) := Any.strings_Split Tryz.lays146 (by kernel_rfl) s sep m w hs hm h1
end Go.Proofs

