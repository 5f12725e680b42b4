/- What comes in: expressions in a list, words; whether they are great; lists that are alike. -/
import Derived.Test.YtldeofdjhpfdaaaV4
import Derived.OpenShut
namespace Go.Proofs.Ytldeofdjhpfdaaa.A
open Go.RowKit Go.ChangeShapes Go.WideShapes Go.Deep

theorem cells3 : Try.prog.cellsOf 3 = 1 := by kernel_rfl
theorem open_words {H : Type} {enc : TypeId × Value → H} {W : World} {sp : Nat → Bool} {fuel : Nat} {a : Option Addr} {len cap : Nat} {x : DataW H × List MemPlace} (h : DataW.trod enc Try.prog W 0 sp true fuel 27 [.slice a len cap] = some x) :
    ∃ zs : List Int, Wd W a zs ∧ zs.length = len ∧ len ≤ cap ∧ cap ≤ maxLen := by
  rcases open_slice Try.underlying27 h with ⟨hcs, _⟩ | ⟨a', len', cap', m, n, D, Pl, hcs, _, hl, hm, hmm, _, hx⟩
  · simp at hcs
    obtain ⟨rfl, rfl, rfl⟩ := hcs
    exact ⟨[], fun i c hc => by simp at hc, rfl, Nat.le_refl _, by unfold maxLen; omega⟩
  · simp at hcs
    obtain ⟨rfl, rfl, rfl⟩ := hcs
    have hlm : len ≤ m := by rw [hmm]; split <;> omega
    have each : ∀ i, i < len → ∃ r : Int, W.cell? (a'.add i) = some (.int .i64 r) := by
      intro i hi
      obtain ⟨cs', h1, h2⟩ := hx i (by omega)
      rw [cells3] at h1
      obtain ⟨_, hlen, hcell⟩ := World.cells?_some h1
      match cs', hlen with
      | [v0], _ =>
        obtain ⟨s, e0, d0, _⟩ := DataW.trod_int Try.underlying3 h2
        simp only [List.cons.injEq, and_true] at e0
        subst e0
        have c0 := hcell 0 (by omega)
        rw [add_add] at c0
        exact ⟨s, by simpa using c0⟩
    obtain ⟨q, hq⟩ := choose_lt each
    refine ⟨(List.range len).map fun i => q i, fun i c hc => ?_, by simp, hl, hm⟩
    have hi : i < len := by have := (List.getElem?_eq_some_iff.1 hc).1; simpa using this
    simp only [List.getElem?_map, List.getElem?_range hi, Option.map_some, Option.some.injEq] at hc
    subst hc
    obtain ⟨b, off, spot⟩ := a'
    have hspot : spot = none := by simpa [Addr.add] using World.cell?_spot (hq 0 (by omega))
    subst hspot
    refine ⟨b, off, rfl, ?_⟩
    rw [← hq i hi]
    simp only [Addr.add]
    split
    · rename_i h; rw [h]; rfl
    · rfl
/-- Expressions at a slice. -/
def Exs (W : World) (n : Nat) (a : Option Addr) (l : List (Ex n)) : Prop := ∀ (i : Nat) (x : Ex n), l[i]? = some x → ∃ b off c0 c1 c2, a = some ⟨b, off, none⟩ ∧ W.cell? ⟨b, off + i * 3, none⟩ = some c0 ∧ W.cell? ⟨b, off + i * 3 + 1, none⟩ = some c1 ∧ W.cell? ⟨b, off + i * 3 + 2, none⟩ = some c2 ∧ Rx W n x (.agg #[c0, c1, c2])
theorem exs_kids {W : World} {n : Nat} {a : Option Addr} {l : List (Ex n)} (h : Exs W n a l) {len : Nat} (hl : l.length = len) : Kids W n a len l := fun V hb i hi => by
  have hx : l[i]? = some (l[i]'(by omega)) := List.getElem?_eq_getElem _
  obtain ⟨b, off, c0, c1, c2, e, p0, p1, p2, p3⟩ := h i _ hx
  exact ⟨_, b, off, c0, c1, c2, e, hx, (hb.cell (p := ⟨b, off + i * 3, none⟩) (cell_lt p0)).trans p0, (hb.cell (p := ⟨b, off + i * 3 + 1, none⟩) (cell_lt p1)).trans p1, (hb.cell (p := ⟨b, off + i * 3 + 2, none⟩) (cell_lt p2)).trans p2, rx_below hb n _ _ p3⟩
theorem open_list {H : Type} {enc : TypeId × Value → H} {W : World} {sp : Nat → Bool} {fuel : Nat} {a : Option Addr} {len cap : Nat} {x : DataW H × List MemPlace} (h : DataW.trod enc Try.prog W 0 sp true fuel 22 [.slice a len cap] = some x) :
    ∃ (n : Nat) (l : List (Ex n)), Exs W n a l ∧ l.length = len ∧ len ≤ cap ∧ cap ≤ maxLen := by
  rcases open_slice Try.underlying22 h with ⟨hcs, _⟩ | ⟨a', len', cap', m, n, D, Pl, hcs, _, hl, hm, hmm, _, hx⟩
  · simp at hcs
    obtain ⟨rfl, rfl, rfl⟩ := hcs
    exact ⟨0, [], fun i c hc => by simp at hc, rfl, Nat.le_refl _, by unfold maxLen; omega⟩
  · simp at hcs
    obtain ⟨rfl, rfl, rfl⟩ := hcs
    have hlm : len ≤ m := by rw [hmm]; split <;> omega
    have each : ∀ i, i < len → ∃ y : Ex n, ∃ d0 d1 d2, W.cell? (a'.add (i * 3)) = some d0 ∧ W.cell? (a'.add (i * 3 + 1)) = some d1 ∧ W.cell? (a'.add (i * 3 + 2)) = some d2 ∧ Rx W n y (.agg #[d0, d1, d2]) := by
      intro i hi
      obtain ⟨cs', h1, h2⟩ := hx i (by omega)
      rw [cells51] at h1
      obtain ⟨_, hlen, hcell⟩ := World.cells?_some h1
      obtain ⟨d0, d1, d2, rfl, y, hy⟩ := open_ex n cs' _ h2
      have q0 := hcell 0 (by omega)
      have q1 := hcell 1 (by omega)
      have q2 := hcell 2 (by omega)
      rw [add_add] at q0 q1 q2
      exact ⟨y, d0, d1, d2, by simpa using q0, by simpa using q1, by simpa using q2, hy⟩
    obtain ⟨g, hg⟩ := @choose_lt (Ex n) ⟨exI n⟩ len _ each
    refine ⟨n, (List.range len).map g, fun i y hy => ?_, by simp, hl, hm⟩
    have hi : i < len := by have := (List.getElem?_eq_some_iff.1 hy).1; simpa using this
    simp only [List.getElem?_map, List.getElem?_range hi, Option.map_some, Option.some.injEq] at hy
    subst hy
    obtain ⟨d0, d1, d2, q0, q1, q2, hy⟩ := hg i hi
    obtain ⟨b, off, spot⟩ := a'
    obtain ⟨_, _, _, z0, _⟩ := hg 0 (by omega)
    have hspot : spot = none := by simpa [Addr.add] using World.cell?_spot z0
    subst hspot
    have ha : ∀ j, (⟨b, off, none⟩ : Addr).add j = ⟨b, off + j, none⟩ := fun j => by
      simp only [Addr.add]
      split
      · rename_i h; rw [h]; rfl
      · rfl
    rw [ha] at q0 q1 q2
    exact ⟨b, off, d0, d1, d2, rfl, q0, by rw [Nat.add_assoc]; exact q1, by rw [Nat.add_assoc]; exact q2, hy⟩

/-- Are expressions more than are looked at? -/
def greatL {n : Nat} (l : List (Ex n)) : Bool := decide (20 < l.length) || l.any (fun x => greatE n x 20)
set_option maxHeartbeats 1600000 in
theorem great_any (n : Nat) (a : Option Addr) (len cap : Nat) (l : List (Ex n)) (w : World) (hl : len ≤ maxLen) (h6 : l.length = len) (hkids : Kids w n a len l) :
    Calls Try.prog 8 #[.slice a len cap] w fun e w' => e = .returned (.bool (greatL l)) ∧ Below w.heap.size w w' := by
  unfold maxLen at hl
  have HK := hide hkids
  have HL := hide h6
  have HE := hide (show greatL l = (decide (20 < len) || l.any (fun x => greatE n x 20)) from by unfold greatL; rw [h6])
  clear hkids h6
  by_cases c : 20 < len
  · have d1 : decide ((20 : Int) < (len : Int)) = true := by simp; omega
    go_enter Try.func8, Try.ntmps8
    go_wp2
    go_ret
    exact ⟨by rw [HE.out]; simp [c], Below.refl _ _⟩
  · have d1 : decide ((20 : Int) < (len : Int)) = false := by simp; omega
    go_enter Try.func8, Try.ntmps8
    go_wp2_with fail
    go_loopw [3] (fun u wr => ∃ i : Nat, i ≤ len ∧ u = .int .i64 i ∧ (l.take i).any (fun x => greatE n x 20) = false ∧ Below w.heap.size w wr) (fun u _ => len - (intOf u).toNat)
    case atStart => exact ⟨0, Nat.zero_le _, rfl, rfl, Below.refl _ _⟩
    case round =>
      obtain ⟨i, hi, rfl, hd, hb⟩ := hrel
      have HD := hide hd
      have HBW := hide hb
      clear hd
      by_cases hlt : i < len
      · obtain ⟨x, b, off, c0, c1, c2, rfl, hx, k0, k1, k2, k3⟩ := HK.out wr hb i hlt
        have HN := hide (show (l.take (i + 1)).any (fun x => greatE n x 20) = greatE n x 20 from by rw [take_at hx, List.any_append, HD.out]; simp)
        have HIN := hide (show greatE n x 20 = true → l.any (fun x => greatE n x 20) = true from fun g => List.any_eq_true.2 ⟨x, List.mem_of_getElem? hx, g⟩)
        have HK3 := hide k3
        have i3 : (0 : Int) ≤ (i : Int) := by omega
        have i4 : (i : Int) < (len : Int) := by omega
        clear hx k3 hb
        go_wp2_with fail
        refine (rgreat_any n x _ 20 wr (by omega) HK3.out).mono ?_
        rintro e w2 ⟨rfl, hb2⟩
        have HB2 := hide (HBW.out.trans (hb2.mono HBW.out.size))
        clear hb2
        cases hf : greatE n x 20
        · have HF := hide hf
          clear hf
          go_wp2
          go_roundw
          case rel => exact ⟨i + 1, by omega, by go_num, by rw [HN.out, HF.out], HB2.out⟩
          case measure => simp [intOf]; omega
        · have HF := hide hf
          clear hf
          go_wp2
          go_ret
          exact ⟨by rw [HE.out, HIN.out HF.out]; simp, HB2.out⟩
      · have e : i = len := by omega
        subst e
        have HT := hide (show l.take i = l from List.take_of_length_le (by have := HL.out; omega))
        clear hb
        go_wp2
        go_ret
        exact ⟨by rw [HE.out, ← HT.out, HD.out]; simp [c], HBW.out⟩

set_option maxHeartbeats 1600000 in
theorem ints_any (a b : Option Addr) (len len' cap cap' : Nat) (za zb : List Int) (w : World) (hl : len ≤ 100000) (hl' : len' ≤ 100000) (ha : za.length = len) (hb : zb.length = len') (hA : Wd w a za) (hB : Wd w b zb) :
    Calls Try.prog 11 #[.slice a len cap, .slice b len' cap'] w fun e w' => e = .returned (.bool (decide (za = zb))) ∧ Below w.heap.size w w' := by
  have HA := hide hA
  have HB := hide hB
  have HLA := hide ha
  have HLB := hide hb
  clear hA hB ha hb
  by_cases c : len = len'
  · subst c
    go_enter Try.func11, Try.ntmps11
    go_wp2_with fail
    go_loopw [5] (fun u wr => ∃ i : Nat, i ≤ len ∧ u = .int .i64 i ∧ za.take i = zb.take i ∧ Below w.heap.size w wr) (fun u _ => len - (intOf u).toNat)
    case atStart => exact ⟨0, Nat.zero_le _, rfl, rfl, Below.refl _ _⟩
    case round =>
      obtain ⟨i, hi, rfl, hd, hb⟩ := hrel
      have HD := hide hd
      have HBW := hide hb
      clear hd
      by_cases hlt : i < len
      · obtain ⟨x, hx⟩ : ∃ x, za[i]? = some x := ⟨_, List.getElem?_eq_getElem (by rw [HLA.out]; exact hlt)⟩
        obtain ⟨y, hy⟩ : ∃ y, zb[i]? = some y := ⟨_, List.getElem?_eq_getElem (by rw [HLB.out]; exact hlt)⟩
        obtain ⟨b1, o1, rfl, k1⟩ := wd_below hb HA.out i x hx
        obtain ⟨b2, o2, rfl, k2⟩ := wd_below hb HB.out i y hy
        have i3 : (0 : Int) ≤ (i : Int) := by omega
        have i4 : (i : Int) < (len : Int) := by omega
        have HX := hide hx
        have HY := hide hy
        clear hx hy hb
        by_cases e : x = y
        · have d : (x == y) = true := by simp [e]
          subst e
          go_wp2
          go_quiet (fail)
          go_wp2
          go_roundw
          case rel => exact ⟨i + 1, by omega, by go_num, by rw [take_at HX.out, take_at HY.out, HD.out], below_drewN HBW.out _⟩
          case measure => simp [intOf]; omega
        · have d : (x == y) = false := by simp [e]
          have HNE := hide e
          clear e
          go_wp2
          go_quiet (fail)
          go_wp2
          go_ret
          exact ⟨by rw [decide_eq_false (fun q => HNE.out (by have h1 := HX.out; rw [q, HY.out] at h1; exact (Option.some.inj h1).symm))]; rfl, below_drewN HBW.out _⟩
      · have e : i = len := by omega
        subst e
        have HT := hide (show za = zb from by have := HD.out; rw [List.take_of_length_le (by have := HLA.out; omega), List.take_of_length_le (by have := HLB.out; omega)] at this; exact this)
        clear hb
        go_wp2
        go_ret
        exact ⟨by rw [decide_eq_true HT.out]; rfl, HBW.out⟩
  · have d : ((len : Int) == (len' : Int)) = false := by simp; omega
    have HC := hide c
    clear c
    go_enter Try.func11, Try.ntmps11
    go_wp2
    go_ret
    exact ⟨by rw [decide_eq_false (fun q => HC.out (by rw [← HLA.out, ← HLB.out, q]))]; rfl, Below.refl _ _⟩
end Go.Proofs.Ytldeofdjhpfdaaa.A

/- The law's own program: what every right program answers. -/
namespace Go.Proofs.Ytldeofdjhpfdaaa.A
open Go.RowKit

/-- The expression of one set. -/
def one1 : Ex 1 := (1, 2, [])
theorem one_rx (w : World) : Rx w 1 one1 (.agg #[.int .u8 1, .int .u16 2, .slice none 0 0]) := ⟨none, 0, 0, rfl, by decide, by decide, Nat.le_refl _, by decide, rfl, .inl rfl⟩
theorem one_kids (w : World) : Kids (w.alloc (.cells #[.int .u8 1, .int .u16 2, .slice none 0 0] 51)) 1 (some ⟨w.heap.size, 0, none⟩) 1 [one1] := exs_kids (fun i x hx => by
  match i with
  | 0 =>
    have e : one1 = x := by simpa using hx
    subst e
    exact ⟨_, _, _, _, _, rfl, by simp, by simp, by simp, one_rx _⟩
  | i + 1 => simp at hx) rfl
theorem one_may : mayB [one1] = true := by decide
theorem one_pos : posE 1 [one1] 1 = 3 := by decide
theorem one_full : ∀ x ∈ [one1], full 1 x := fun x hx => by
  rw [List.mem_singleton] at hx
  subst hx
  exact fun y hy => by cases hy
theorem one_shapes : ∀ x ∈ [one1], shapesE 1 x = true := fun x hx => by
  rw [List.mem_singleton] at hx
  subst hx
  decide
theorem one_lay (p : Nat × Ex 1) (h : p ∈ layE 1 [one1]) : p = (1, one1) := by
  simpa [layE] using h
theorem one_fr (i j : Nat) : FrA [one1] i j ↔ i = 0 ∧ j = 1 := by
  constructor
  · rintro ⟨p, hp, h⟩
    rw [one_lay p hp] at h
    rcases h with h | h
    · exact h
    · rcases h with ⟨q, hq, _⟩ | ⟨h, _⟩ | ⟨h, _⟩ | ⟨h, _⟩ | ⟨h, _⟩ | ⟨h, _⟩
      · cases hq
      all_goals exact absurd h (by decide)
  · rintro ⟨rfl, rfl⟩
    exact ⟨(1, one1), by show (1, one1) ∈ [(1, one1)]; simp, .inl ⟨rfl, rfl⟩⟩
theorem one_sp (i u j : Nat) : SpA [one1] i u j ↔ i = 1 ∧ u = 2 ∧ j = 2 := by
  constructor
  · rintro ⟨p, hp, h⟩
    rw [one_lay p hp] at h
    rcases h with ⟨_, h1, h2, h3⟩ | ⟨q, hq, _⟩
    · exact ⟨h1, h2, h3⟩
    · cases hq
  · rintro ⟨rfl, rfl, rfl⟩
    exact ⟨(1, one1), by show (1, one1) ∈ [(1, one1)]; simp, .inl ⟨rfl, rfl, rfl, rfl⟩⟩
/-- Its machine, list by list. -/
theorem one_lists {fs : List (List Int)} {ss : List Nat} {ts rs : List Int} (hi : Is (FrA [one1]) (SpA [one1]) 3 fs ss ts) (hr : RsI [one1] 1 rs) (hl : rs.length = 3) : fs = [[1], [], []] ∧ ss = [0, 2, 0] ∧ ts = [0, 2, 0] ∧ rs = [-1, -1, 0] := by
  obtain ⟨lf, ls, lt, up, mem, set⟩ := hi
  match fs, lf, ss, ls, ts, lt, rs, hl with
  | [f0, f1, f2], _, [s0, s1, s2], _, [t0, t1, t2], _, [r0, r1, r2], _ =>
    have no : ∀ (i : Nat) (l : List Int), i ≠ 0 → [f0, f1, f2][i]? = some l → l = [] := fun i l h0 hl => by
      rw [List.eq_nil_iff_forall_not_mem]
      intro z hz
      obtain ⟨j, _, h⟩ := (mem i l hl z).1 hz
      exact h0 ((one_fr i j).1 h).1
    have e0 : f0 = [1] := rising_eq (up 0 f0 rfl) (by simp) (fun z => by
      rw [mem 0 f0 rfl z, List.mem_singleton]
      constructor
      · rintro ⟨j, rfl, h⟩; rw [((one_fr 0 j).1 h).2]; rfl
      · rintro rfl; exact ⟨1, rfl, (one_fr 0 1).2 ⟨rfl, rfl⟩⟩)
    have e1 := no 1 f1 (by decide) rfl
    have e2 := no 2 f2 (by decide) rfl
    have st : ∀ (i s : Nat) (t : Int), [s0, s1, s2][i]? = some s → [t0, t1, t2][i]? = some t → if i = 1 then s = 2 ∧ t = 2 else s = 0 ∧ t = 0 := fun i s t h1 h2 => by
      rcases set i s t h1 h2 with ⟨j, h, e⟩ | ⟨h, e⟩
      · obtain ⟨q1, q2, q3⟩ := (one_sp i s j).1 h
        rw [if_pos q1, e, q3]
        exact ⟨q2, rfl⟩
      · split
        · rename_i q; exact absurd ((one_sp i 2 2).2 ⟨q, rfl, rfl⟩) (h 2 2)
        · exact e
    have g0 : s0 = 0 ∧ t0 = 0 := by simpa using st 0 s0 t0 rfl rfl
    have g1 : s1 = 2 ∧ t1 = 2 := by simpa using st 1 s1 t1 rfl rfl
    have g2 : s2 = 0 ∧ t2 = 0 := by simpa using st 2 s2 t2 rfl rfl
    have ru : ∀ (i : Nat) (r : Int), [r0, r1, r2][i]? = some r → if i = 2 then r = 0 else r = -1 := fun i r h => by
      rcases hr i r h with ⟨m, p, hm, hp, e, e'⟩ | ⟨h', e⟩
      · obtain rfl : m = 0 := by omega
        rw [one_lay p (List.mem_of_getElem? hp)] at e
        rw [if_pos (show i = 2 from e), e']; rfl
      · split
        · rename_i q; exact absurd (show i = en ((1 : Nat), one1) from q) (h' 0 (1, one1) (by omega) rfl)
        · exact e
    have h0 : r0 = -1 := by simpa using ru 0 r0 rfl
    have h1 : r1 = -1 := by simpa using ru 1 r1 rfl
    have h2 : r2 = 0 := by simpa using ru 2 r2 rfl
    rw [e0, e1, e2, g0.1, g0.2, g1.1, g1.2, g2.1, g2.2, h0, h1, h2]
    exact ⟨rfl, rfl, rfl, rfl⟩
theorem one_close {g : Nat → Bool} (h : IsCl [[1], [], []] 3 (tblB [0] 1) g) : (lstL g 3).length = 2 := by
  have h2 : IsCl [[1], [], []] 3 (tblB [0] 1) (fun j => decide (j < 2)) := fun j hj => by
    constructor
    · intro e
      have e' : j < 2 := by simpa using e
      have r0 : Rch [[1], [], []] 3 (tblB [0] 1) 0 := .here (by decide) (by decide)
      match j, e' with
      | 0, _ => exact r0
      | 1, _ => exact .on r0 rfl (by simp)
    · intro e
      have key : ∀ j, Rch [[1], [], []] 3 (tblB [0] 1) j → j < 2 := fun j e => by
        induction e with
        | @here j hj h =>
          have : j = 0 := by
            have := h
            simp [tblB] at this
            omega
          omega
        | @on i j l _ hl hj ih =>
          match i, ih with
          | 0, _ =>
            have e : ([1] : List Int) = l := by simpa using hl
            subst e
            have : (j : Int) = 1 := by simpa using hj
            omega
          | 1, _ =>
            have e : ([] : List Int) = l := by simpa using hl
            subst e
            cases hj
      simpa using key j e
  rw [lst_congr (isCl_one h h2)]
  rfl
theorem one_match {ss : List Nat} {ts rs : List Int} {fs : List (List Int)} (word : List Int) (hi : Is (FrA [one1]) (SpA [one1]) 3 fs ss ts) (hr : RsI [one1] 1 rs) (hl : rs.length = 3) (g : Nat → Bool) (hg : IsRun fs ss ts 3 word word.length g) : endR rs g 3 = leastR (hasN [one1] word) 1 0 :=
  match_rule word one_full one_shapes rfl (by decide) hi hr hl one_pos.symm (by decide) g hg

theorem one_has1 : leastR (hasN [one1] [1]) 1 0 = 0 := by decide +kernel
theorem one_has0 : leastR (hasN [one1] []) 1 0 = -1 := by decide +kernel
theorem one_step : (lstL (stpB [0, 2, 0] [0, 2, 0] 1 (tblB [1] 1) 3) 3).length = 1 := by decide +kernel
end Go.Proofs.Ytldeofdjhpfdaaa.A

/- The law's own program: what every right program answers, walked. -/
namespace Go.Proofs.Ytldeofdjhpfdaaa.A
open Go.RowKit

theorem bx_of {w : World} {p : Nat} {x0 x1 x2 x3 : Value} (h : Bx w p x0 x1 x2 x3) : w.cell? ⟨p, 0, none⟩ = some x0 ∧ w.cell? ⟨p, 1, none⟩ = some x1 ∧ w.cell? ⟨p, 2, none⟩ = some x2 ∧ w.cell? ⟨p, 3, none⟩ = some x3 := h
set_option maxRecDepth 100000 in
set_option maxHeartbeats 6400000 in
theorem alive_any (w : World) : Calls Try.prog 7 #[] w fun e w' => e = .returned (.bool true) ∧ Below w.heap.size w w' := by
  have HB0 := hide ((Below.refl w.heap.size w).alloc (Nat.le_refl _) (.cells #[.int .u8 1, .int .u16 2, .slice none 0 0] 51))
  have HK0 := hide (one_kids w)
  go_enter Try.func7, Try.ntmps7
  go_wp2_with fail
  refine (build_yes 1 _ 1 1 [one1] _ (by decide) rfl HK0.out one_may).mono ?_
  rintro e w1 ⟨a0, a1, a2, a3, N, c0, c1, c2, c3, fs, ss, ts, rs, rfl, hnm, hi, hr, hrl, hN, hN3, hb1⟩
  rw [one_pos] at hN
  subst hN
  have HM := hide (build_mach one_full rfl (by decide) hi hr hrl one_pos.symm hN3)
  have HI := hide hi
  have HR := hide hr
  have HRL := hide hrl
  have hls := one_lists hi hr hrl
  have HLS := hide hls
  have HB1 := hide (HB0.out.trans (hb1.mono HB0.out.size))
  have hba := (Below.refl w1.heap.size w1).alloc (Nat.le_refl _) (.cells #[.slice a0 3 c0, .slice a1 3 c1, .slice a2 3 c2, .slice a3 3 c3] 29)
  have HN2 := hide (nm_below hba hnm)
  have HX2 := hide (bx_new w1 (.slice a0 3 c0) (.slice a1 3 c1) (.slice a2 3 c2) (.slice a3 3 c3))
  have HB2 := hide (HB1.out.alloc HB1.out.size (.cells #[.slice a0 3 c0, .slice a1 3 c1, .slice a2 3 c2, .slice a3 3 c3] 29))
  have HZ2 := hide (show w1.heap.size < (w1.alloc (.cells #[.slice a0 3 c0, .slice a1 3 c1, .slice a2 3 c2, .slice a3 3 c3] 29)).heap.size by simp)
  obtain ⟨ba, oa, rfl, k1, -⟩ := HN2.out.set 1 2 (by rw [hls.2.1]; rfl)
  obtain ⟨bb, ob, rfl, k2⟩ := HN2.out.to 1 2 (by rw [hls.2.2.1]; rfl)
  obtain ⟨bc, oc, rfl, k3⟩ := HN2.out.rule 2 0 (by rw [hls.2.2.2]; rfl)
  clear hnm hi hr hrl hN3 hb1 hba hls HB0 HK0
  obtain ⟨p0, p1, p2, p3⟩ := bx_of HX2.out
  have HMO := hide HM.out.most
  go_wp2_with fail
  generalize w1.alloc (.cells #[.slice a0 3 c0, .slice (some ⟨ba, oa, none⟩) 3 c1, .slice (some ⟨bb, ob, none⟩) 3 c2, .slice (some ⟨bc, oc, none⟩) 3 c3] 29) = W at *
  generalize w1.heap.size = P at *
  have HWW := hide (show w.heap.size ≤ W.heap.size from HB2.out.size)
  clear k1 k2 k3 p0 p1 p2 p3
  refine (pright_any a0 _ _ _ 3 3 3 3 c0 c1 c2 c3 fs ss ts rs W HM.out.lf HM.out.ls HM.out.lt HM.out.lr HN2.out.len HN2.out.free HN2.out.set HN2.out.to HN2.out.rule).mono ?_
  rintro e w3 ⟨rfl, hb⟩
  rw [mach_right HM.out]
  have HB3 := hide hb
  obtain ⟨p0, p1, p2, p3⟩ := bx_of (bx_below hb HZ2.out HX2.out)
  have HWA := hide (wd_one w3 1)
  have HNA := hide (nm_below ((Below.refl w3.heap.size w3).alloc (Nat.le_refl _) (.cells #[.int .i64 1] 3)) (nm_below hb HN2.out))
  have HBA := hide (hb.alloc hb.size (.cells #[.int .i64 1] 3))
  clear hb
  go_wp2_with fail
  clear p0 p1 p2 p3
  generalize w3.alloc (.cells #[.int .i64 1] 3) = w3A at *
  refine (pmatch_yes a0 _ _ _ 3 c0 c1 c2 c3 fs ss ts rs _ 1 1 [1] w3A HM.out HNA.out rfl (by decide) HWA.out).mono ?_
  rintro e w4 ⟨g, hg, rfl, hb⟩
  rw [one_match [1] HI.out HR.out HRL.out g hg, one_has1]
  have HB4 := hide (HBA.out.trans (hb.mono HBA.out.size))
  obtain ⟨p0, p1, p2, p3⟩ := bx_of (bx_below HB4.out HZ2.out HX2.out)
  have HN4 := hide (nm_below HB4.out HN2.out)
  clear hb hg
  go_wp2_with fail
  clear p0 p1 p2 p3
  refine (pmatch_yes a0 _ _ _ 3 c0 c1 c2 c3 fs ss ts rs none 0 0 [] w4 HM.out HN4.out rfl (by decide) (fun i c hc => by simp at hc)).mono ?_
  rintro e w5 ⟨g5, hg, rfl, hb⟩
  rw [one_match [] HI.out HR.out HRL.out g5 hg, one_has0]
  have HB5 := hide (HB4.out.trans (hb.mono HB4.out.size))
  obtain ⟨p0, p1, p2, p3⟩ := bx_of (bx_below HB5.out HZ2.out HX2.out)
  have HW5 := hide (wd_one w5 0)
  have HB5A := hide (HB5.out.alloc HB5.out.size (.cells #[.int .i64 0] 3))
  have HN5 := hide (nm_below HB5A.out HN2.out)
  clear hb hg
  go_wp2_with fail
  clear p0 p1 p2 p3
  generalize w5.alloc (.cells #[.int .i64 0] 3) = w5A at *
  refine (pclose_yes a0 _ _ _ 3 c0 c1 c2 c3 fs ss ts rs _ 1 1 [0] w5A HM.out HN5.out rfl (by decide) HW5.out).mono ?_
  rintro e w6 ⟨g6, v6, hg, rfl, ho, hb⟩
  rw [HLS.out.1] at hg
  obtain ⟨a6, c6, rfl, -⟩ := own_slice ho
  rw [one_close hg]
  have HB6 := hide (HB5A.out.trans (hb.mono HB5A.out.size))
  obtain ⟨p0, p1, p2, p3⟩ := bx_of (bx_below HB6.out HZ2.out HX2.out)
  have HW6 := hide (wd_one w6 1)
  have HB6A := hide (HB6.out.alloc HB6.out.size (.cells #[.int .i64 1] 3))
  have HN6 := hide (nm_below HB6A.out HN2.out)
  clear hb hg ho
  go_wp2_with fail
  clear p0 p1 p2 p3
  generalize w6.alloc (.cells #[.int .i64 1] 3) = w6A at *
  refine (pstep_yes a0 _ _ _ 3 c0 c1 c2 c3 fs ss ts rs _ 1 1 [1] 1 w6A HM.out HN6.out rfl (by decide) HW6.out).mono ?_
  rintro e w7 ⟨v7, rfl, ho, hb⟩
  rw [HLS.out.2.1, HLS.out.2.2.1] at ho
  obtain ⟨a7, c7, rfl, -⟩ := own_slice ho
  rw [one_step]
  have HB7 := hide (HB6A.out.trans (hb.mono HB6A.out.size))
  clear hb ho
  go_wp2
  go_ret
  exact ⟨rfl, HB2.out.trans (HB7.out.mono HWW.out)⟩
end Go.Proofs.Ytldeofdjhpfdaaa.A

/- Expressions that may have a machine. -/
namespace Go.Proofs.Ytldeofdjhpfdaaa.A
open Go.RowKit

theorem kids_full {w : World} {n : Nat} {a : Option Addr} {len : Nat} {l : List (Ex n)} (h : Kids w n a len l) (h6 : l.length = len) : ∀ x ∈ l, full n x := fun x hx => by
  obtain ⟨i, hi, e⟩ := List.getElem_of_mem hx
  obtain ⟨x', b, off, c0, c1, c2, _, hx', _, _, _, hr⟩ := h w (Below.refl _ _) i (by omega)
  rw [List.getElem?_eq_getElem hi, e] at hx'
  cases hx'
  exact rx_full n x _ hr
theorem may_open {w : World} {n : Nat} {a : Option Addr} {len : Nat} {l : List (Ex n)} (h : mayB l = true) (hk : Kids w n a len l) (h6 : l.length = len) : 1 ≤ len ∧ len ≤ 16 ∧ (∀ x ∈ l, full n x) ∧ ∀ x ∈ l, shapesE n x = true := by
  unfold mayB at h
  simp only [Bool.and_eq_true, decide_eq_true_eq, List.all_eq_true] at h
  have hf := kids_full hk h6
  exact ⟨by omega, by omega, hf, fun x hx => ((right_iff (hf x hx)).1 (h.2.2 x hx)).2.2⟩
theorem least_back {p : Int → Bool} {len k : Nat} (hk : k < len) : leastR p (len - k) (k : Int) = if p (k : Int) then (k : Int) else leastR p (len - (k + 1)) ((k + 1 : Nat) : Int) := by
  rw [show len - k = (len - (k + 1)) + 1 by omega]
  rfl
theorem hasN_at {n : Nat} {l : List (Ex n)} {k : Nat} {x : Ex n} (word : List Int) (h : l[k]? = some x) : hasN l word (k : Int) = hasE n x word := by
  unfold hasN
  rw [show ((k : Nat) : Int).toNat = k by omega, h]
end Go.Proofs.Ytldeofdjhpfdaaa.A

/- What is closed, closed again: plain mathematics. -/
namespace Go.Proofs.Ytldeofdjhpfdaaa.A
open Go.RowKit

theorem cl_self {fs : List (List Int)} {N : Nat} {o g : Nat → Bool} (h : IsCl fs N o g) (hok : ∀ (i : Nat) (l : List Int), fs[i]? = some l → ∀ z ∈ l, 0 ≤ z ∧ z < (N : Int)) : IsCl fs N g g := fun j hj => by
  have key : ∀ j, Rch fs N g j → j < N ∧ g j = true := fun j r => by
    induction r with
    | here hn h => exact ⟨hn, h⟩
    | @on i j l _ hl hm ih =>
      have hj : j < N := by have := hok _ _ hl _ hm; omega
      exact ⟨hj, (h j hj).2 (.on ((h i ih.1).1 ih.2) hl hm)⟩
  exact ⟨fun e => .here hj e, fun r => (key j r).2⟩
theorem cl_again {fs : List (List Int)} {N : Nat} {o g g2 : Nat → Bool} (h : IsCl fs N o g) (hok : ∀ (i : Nat) (l : List Int), fs[i]? = some l → ∀ z ∈ l, 0 ≤ z ∧ z < (N : Int)) (h2 : IsCl fs N (tblB (lstL g N) (lstL g N).length) g2) : lstL g2 N = lstL g N :=
  lst_congr (isCl_one (isCl_congr (fun j hj => tbl_lst g N j hj) h2) (cl_self h hok))
theorem cl_has {fs : List (List Int)} {N : Nat} {zs : List Int} {g : Nat → Bool} (h : IsCl fs N (tblB zs zs.length) g) {z : Int} (hz : z ∈ zs) (h0 : 0 ≤ z) (hN : z < (N : Int)) : z ∈ lstL g N := by
  obtain ⟨j, rfl⟩ : ∃ j : Nat, z = j := ⟨z.toNat, by omega⟩
  have hj : j < N := by omega
  exact (lst_mem g N _).2 ⟨j, rfl, hj, (h j hj).2 (.here hj (by rw [tbl_mem]; exact hz))⟩
end Go.Proofs.Ytldeofdjhpfdaaa.A

/- A machine that came in. -/
namespace Go.Proofs.Ytldeofdjhpfdaaa.A
open Go.RowKit Go.ChangeShapes Go.WideShapes Go.Deep

theorem cells25 : Try.prog.cellsOf 25 = 1 := by kernel_rfl
theorem cells26 : Try.prog.cellsOf 26 = 1 := by kernel_rfl
theorem cells27 : Try.prog.cellsOf 27 = 1 := by kernel_rfl
theorem cells29 : Try.prog.cellsOf 29 = 4 := by kernel_rfl
theorem add_at {b off : Nat} (j : Nat) : (⟨b, off, none⟩ : Addr).add j = ⟨b, off + j, none⟩ := by
  simp only [Addr.add]
  split
  · rename_i h; rw [h]; rfl
  · rfl
theorem open_sets {H : Type} {enc : TypeId × Value → H} {W : World} {sp : Nat → Bool} {fuel : Nat} {v : Value} {x : DataW H × List MemPlace} (h : DataW.trod enc Try.prog W 0 sp true fuel 26 [v] = some x) :
    ∃ (a : Option Addr) (len cap : Nat) (ss : List Nat), v = .slice a len cap ∧ Sts W a ss ∧ ss.length = len ∧ len ≤ maxLen := by
  rcases open_slice Try.underlying26 h with ⟨hcs, _⟩ | ⟨a', len', cap', m, n, D, Pl, hcs, _, hl, hm, hmm, _, hx⟩
  · simp only [List.cons.injEq, and_true] at hcs
    subst hcs
    exact ⟨none, 0, 0, [], rfl, fun i c hc => by simp at hc, rfl, by unfold maxLen; omega⟩
  · simp only [List.cons.injEq, and_true] at hcs
    subst hcs
    have hlm : len' ≤ m := by rw [hmm]; split <;> omega
    have each : ∀ i, i < len' → ∃ r : Nat, W.cell? (a'.add i) = some (.int .u16 (r : Int)) ∧ r < 65536 := by
      intro i hi
      obtain ⟨cs', h1, h2⟩ := hx i (by omega)
      rw [cells36] at h1
      obtain ⟨_, hlen, hcell⟩ := World.cells?_some h1
      match cs', hlen with
      | [v0], _ =>
        obtain ⟨s, e0, d0, w0⟩ := DataW.trod_int Try.underlying36 h2
        simp only [List.cons.injEq, and_true] at e0
        subst e0
        have b0 := bounds_u16 w0
        obtain ⟨k, rfl⟩ : ∃ k : Nat, s = (k : Int) := ⟨s.toNat, by omega⟩
        have c0 := hcell 0 (by omega)
        rw [add_add] at c0
        exact ⟨k, by simpa using c0, by omega⟩
    obtain ⟨q, hq⟩ := choose_lt each
    refine ⟨_, len', cap', (List.range len').map fun i => q i, rfl, fun i c hc => ?_, by simp, by omega⟩
    have hi : i < len' := by have := (List.getElem?_eq_some_iff.1 hc).1; simpa using this
    simp only [List.getElem?_map, List.getElem?_range hi, Option.map_some, Option.some.injEq] at hc
    subst hc
    obtain ⟨b, off, spot⟩ := a'
    have hspot : spot = none := by simpa [Addr.add] using World.cell?_spot (hq 0 (by omega)).1
    subst hspot
    refine ⟨b, off, rfl, ?_, (hq i hi).2⟩
    rw [← (hq i hi).1, add_at]
theorem open_ints' {H : Type} {enc : TypeId × Value → H} {W : World} {sp : Nat → Bool} {fuel : Nat} {v : Value} {x : DataW H × List MemPlace} (h : DataW.trod enc Try.prog W 0 sp true fuel 27 [v] = some x) :
    ∃ (a : Option Addr) (len cap : Nat) (zs : List Int), v = .slice a len cap ∧ Wd W a zs ∧ zs.length = len ∧ len ≤ maxLen := by
  have hv : ∃ a len cap, v = .slice a len cap := by
    rcases open_slice Try.underlying27 h with ⟨hcs, _⟩ | ⟨a', len', cap', m, n, D, Pl, hcs, _⟩
    · simp only [List.cons.injEq, and_true] at hcs
      exact ⟨_, _, _, hcs⟩
    · simp only [List.cons.injEq, and_true] at hcs
      exact ⟨_, _, _, hcs⟩
  obtain ⟨a, len, cap, rfl⟩ := hv
  obtain ⟨zs, h1, h2, h3, h4⟩ := open_words h
  exact ⟨a, len, cap, zs, rfl, h1, h2, by omega⟩
theorem open_frees {H : Type} {enc : TypeId × Value → H} {W : World} {sp : Nat → Bool} {fuel : Nat} {v : Value} {x : DataW H × List MemPlace} (h : DataW.trod enc Try.prog W 0 sp true fuel 25 [v] = some x) :
    ∃ (a : Option Addr) (len cap : Nat) (fs : List (List Int)), v = .slice a len cap ∧ Fs W a fs ∧ fs.length = len ∧ len ≤ maxLen ∧ ∀ (i : Nat) (l : List Int), fs[i]? = some l → l.length ≤ maxLen := by
  rcases open_slice Try.underlying25 h with ⟨hcs, _⟩ | ⟨a', len', cap', m, n, D, Pl, hcs, _, hl, hm, hmm, _, hx⟩
  · simp only [List.cons.injEq, and_true] at hcs
    subst hcs
    exact ⟨none, 0, 0, [], rfl, fun i c hc => by simp at hc, rfl, by unfold maxLen; omega, fun i l hl => by simp at hl⟩
  · simp only [List.cons.injEq, and_true] at hcs
    subst hcs
    have hlm : len' ≤ m := by rw [hmm]; split <;> omega
    have each : ∀ i, i < len' → ∃ l : List Int, ∃ (a2 : Option Addr) (c2 : Nat), W.cell? (a'.add i) = some (.slice a2 l.length c2) ∧ Wd W a2 l ∧ l.length ≤ maxLen := by
      intro i hi
      obtain ⟨cs', h1, h2⟩ := hx i (by omega)
      rw [cells27] at h1
      obtain ⟨_, hlen, hcell⟩ := World.cells?_some h1
      match cs', hlen with
      | [v0], _ =>
        obtain ⟨a2, l2, c2, zs, rfl, hw, e, hle⟩ := open_ints' h2
        have c0 := hcell 0 (by omega)
        rw [add_add] at c0
        exact ⟨zs, a2, c2, by rw [e]; simpa using c0, hw, by omega⟩
    obtain ⟨q, hq⟩ := choose_lt each
    refine ⟨_, len', cap', (List.range len').map fun i => q i, rfl, fun i l hc => ?_, by simp, by omega, fun i l hc => ?_⟩
    · have hi : i < len' := by have := (List.getElem?_eq_some_iff.1 hc).1; simpa using this
      simp only [List.getElem?_map, List.getElem?_range hi, Option.map_some, Option.some.injEq] at hc
      subst hc
      obtain ⟨b, off, spot⟩ := a'
      obtain ⟨_, _, z0, _⟩ := hq 0 (by omega)
      have hspot : spot = none := by simpa [Addr.add] using World.cell?_spot z0
      subst hspot
      obtain ⟨a2, c2, h1, h2, _⟩ := hq i hi
      refine ⟨b, off, a2, c2, rfl, ?_, h2⟩
      rw [← h1, add_at]
    · have hi : i < len' := by have := (List.getElem?_eq_some_iff.1 hc).1; simpa using this
      simp only [List.getElem?_map, List.getElem?_range hi, Option.map_some, Option.some.injEq] at hc
      subst hc
      obtain ⟨_, _, _, _, h⟩ := hq i hi
      exact h
/-- A machine by value. -/
def Nv (W : World) (v : Value) (fs : List (List Int)) (ss : List Nat) (ts rs : List Int) : Prop := ∃ a0 a1 a2 a3 c0 c1 c2 c3, v = .agg #[.slice a0 fs.length c0, .slice a1 ss.length c1, .slice a2 ts.length c2, .slice a3 rs.length c3] ∧ Nm W a0 a1 a2 a3 fs ss ts rs ∧ fs.length ≤ maxLen ∧ ss.length ≤ maxLen ∧ ts.length ≤ maxLen ∧ rs.length ≤ maxLen
theorem okWide_nfa {W : World} {base : Nat} {v : Value} (h : Value.okWide Try.prog W .any base 29 v) : ∃ cs, v = .agg cs := by
  unfold Value.okWide at h
  rw [Try.underlying29] at h
  obtain ⟨cs, rfl, _⟩ := h
  exact ⟨cs, rfl⟩
set_option maxRecDepth 100000 in
theorem open_nfa {H : Type} {enc : TypeId × Value → H} {W : World} {sp : Nat → Bool} {fuel : Nat} {cs : Array Value} {x : DataW H × List MemPlace} (h : DataW.trod enc Try.prog W 0 sp true fuel 29 (Value.agg cs).cells.toList = some x) :
    ∃ (fs : List (List Int)) (ss : List Nat) (ts rs : List Int), Nv W (.agg cs) fs ss ts rs := by
  have h' : DataW.trod enc Try.prog W 0 sp true fuel 29 cs.toList = some x := h
  obtain ⟨xs, n, hfuel, _, hlen, hxs, hf⟩ := DataW.trod_struct Try.underlying29 h'
  rw [cells29] at hlen
  obtain ⟨l⟩ := cs
  simp only at hlen hf
  match l, hlen with
  | [d0, d1, d2, d3], _ =>
    have u0 : DataW.trod enc Try.prog W 0 sp true n 25 [d0] = xs[0]? := by
      have this : DataW.trod enc Try.prog W 0 sp true n 25 (List.take (Try.prog.cellsOf 25) (List.drop 0 [d0, d1, d2, d3])) = xs[0]? := hf 0 _ rfl
      rw [cells25] at this
      exact this
    have u1 : DataW.trod enc Try.prog W 0 sp true n 26 [d1] = xs[1]? := by
      have this : DataW.trod enc Try.prog W 0 sp true n 26 (List.take (Try.prog.cellsOf 26) (List.drop 1 [d0, d1, d2, d3])) = xs[1]? := hf 1 _ rfl
      rw [cells26] at this
      exact this
    have u2 : DataW.trod enc Try.prog W 0 sp true n 27 [d2] = xs[2]? := by
      have this : DataW.trod enc Try.prog W 0 sp true n 27 (List.take (Try.prog.cellsOf 27) (List.drop 2 [d0, d1, d2, d3])) = xs[2]? := hf 2 _ rfl
      rw [cells27] at this
      exact this
    have u3 : DataW.trod enc Try.prog W 0 sp true n 27 [d3] = xs[3]? := by
      have this : DataW.trod enc Try.prog W 0 sp true n 27 (List.take (Try.prog.cellsOf 27) (List.drop 3 [d0, d1, d2, d3])) = xs[3]? := hf 3 _ rfl
      rw [cells27] at this
      exact this
    have hxs4 : xs.length = 4 := hxs
    match xs, hxs4 with
    | [y0, y1, y2, y3], _ =>
      simp only [List.getElem?_cons_zero, List.getElem?_cons_succ] at u0 u1 u2 u3
      obtain ⟨a0, l0, c0, fs, rfl, f1, f2, f3, f4⟩ := open_frees u0
      obtain ⟨a1, l1, c1, ss, rfl, s1, s2, s3⟩ := open_sets u1
      obtain ⟨a2, l2, c2, ts, rfl, t1, t2, t3⟩ := open_ints' u2
      obtain ⟨a3, l3, c3, rs, rfl, r1, r2, r3⟩ := open_ints' u3
      subst f2; subst s2; subst t2; subst r2
      exact ⟨fs, ss, ts, rs, a0, a1, a2, a3, c0, c1, c2, c3, rfl, ⟨f4, f1, s1, t1, r1⟩, f3, s3, t3, r3⟩
end Go.Proofs.Ytldeofdjhpfdaaa.A
