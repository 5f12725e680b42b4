/- Right of rules. -/
import Derived.Deep.RegionHeld3
import Derived.WalkKit
import Derived.ProofKit
import Derived.Outline
import Derived.BigQuiet
import Derived.Deep.QuietTactic
import Derived.Below
import Derived.OpenShut
import Derived.Deep.Slices
import Derived.Deep.Strs
import Derived.Deep.OwnRows
import Derived.Deep.WholeRow
import Derived.Deep.Heap
import Derived.Deep.AppendSrc
import Derived.Deep.AppendLies
import Derived.Deep.RegionLaw
import Derived.Laws.AppendOwnNone
import Derived.WalkLawsBesides
import Derived.Laws.AppendOwn
import Derived.Shelf.Small.Strs
import Derived.Shelf.Strconv.Itoa0
import Derived.Shelf.Strconv.Itoa1
import Derived.Shelf.LaysM
import Derived.Shelf.Strconv.Itoa2
import Derived.Shelf.Strconv.Clone
import Derived.Shelf.Strings.Search1
import Derived.Shelf.Strings.Search2
import Derived.Shelf.Strings.Search3
import Derived.Shelf.Strings.Count
import Derived.Shelf.Strings.Shaped
import Derived.Shelf.Strconv.AppendUint10
import Derived.Shelf.Strconv.AppendInt10
import Derived.Shelf.Strconv.AppendIntPublic10
import Derived.Shelf.Strings.Split
import Derived.Shelf.Strings.SplitShaped
import Derived.Shelf.Bits.Mul64
import Derived.Shelf.Unicode.DecodeSlow
import Derived.Ground.Names2Prog
import Derived.Shelf.Slices.Clone
import Derived.Ground.SlgnProg
import Derived.Shelf.SlicesE.Clone
import Derived.Laws.OwnMore
import Derived.OwnWalk
import Derived.Maps.OwnSet
import Derived.Maps.OwnOps
import Derived.Laws.IdiomStrings
import Derived.Laws.BytesArg
import Derived.Deep.Cut
import Derived.Deep.CutRange
import Derived.Deep.MidRow
import Derived.LaidMore
import Derived.HandedShaped
import Derived.Shelf.Vars
import Derived.MakeChecks
import Derived.Stop.LaidErr
import Derived.Defers
import Derived.Recover
import Derived.Lib.SplitLaws
import Derived.Test.YtbbfjjjnifomgaaGreatDoorK1
import Derived.Test.YtbbfjjjnifomgaaGreatDoorK8
import Derived.Test.YtbbfjjjnifomgaaGreatDoorK11
import Derived.Test.YtbbfjjjnifomgaaGreatDoorK13
import Derived.Test.YtbbfjjjnifomgaaGreatDoorK22
import Derived.Test.YtbbfjjjnifomgaaGreatDoorK24
import Derived.Test.YtbbfjjjnifomgaaGreatDoorK29
import Derived.Test.YtbbfjjjnifomgaaGreatDoorK4
import Derived.Test.YtbbfjjjnifomgaaGreatDoorK5
import Derived.Test.YtbbfjjjnifomgaaGreatDoorK17
namespace Go.Proofs.YtbbfjjjnifomgaaGreatDoor.A
open Go.RowKit
set_option linter.unusedVariables false

set_option maxHeartbeats 3200000 in
theorem rightG_any (a : Option Addr) (len cap : Nat) (l : List Rl) (w : World) (hlc : len ≤ cap) (hcm : cap ≤ maxLen) (h : Rs w a len l) :
    Calls Tryz.prog 25 #[.slice a len cap] w fun e w' => e = .returned (.bool (rightG l)) ∧ Below w.heap.size w w' := by
  have hlm := Nat.le_trans hlc hcm
  have HLM := hide hlm
  unfold maxLen at hcm hlm
  have HRS := hide h
  have HL := hide h.1
  have HG := hide (show rightG l = (decide (1 ≤ len) && decide (len ≤ 16) && goodL [] l) by unfold rightG; rw [h.1])
  clear h
  by_cases h1 : 1 ≤ len
  · have h1' : ¬ (len : Int) < 1 := by omega
    by_cases h16 : len ≤ 16
    · have h16' : ¬ (16 : Int) < (len : Int) := by omega
      have HG2 := hide (show rightG l = goodL [] l by rw [HG.out]; simp [h1, h16])
      clear HG
      go_enter Tryz.func25, Tryz.ntmps25
      go_wp2_with fail
      go_loopw [3, 4, 15] (fun _ _ u wr => ∃ i : Nat, i ≤ len ∧ u = .int .i64 i ∧ goodL (l.take i) (l.drop i) = goodL [] l ∧ Below w.heap.size w wr) (fun _ _ u _ => len - (intOf u).toNat)
      case atStart => exact ⟨0, Nat.zero_le _, rfl, by simp, Below.refl _ _⟩
      case round =>
        obtain ⟨i, hi, rfl, hd, hb⟩ := hrel
        have HD := hide hd
        have HBW := hide hb
        clear hd
        by_cases hlt : i < len
        · have hrs := rs_below hb HRS.out
          obtain ⟨x, b, off, k, s, a', l', c, rfl, hx, p0, p1, p2, p3, p4, p5, p6⟩ := rs_open hrs hlt
          have hbA := (Below.refl wr.heap.size wr).alloc (Nat.le_refl _) (.cells #[.string x.nm, .int .u8 k, .int .u16 s, .slice a' l' c, .bool x.br] 57)
          have HRT := hide (rs_below hbA (rs_take hrs i (by omega)))
          have HRU := hide (ru_below hbA (x := x) (v := .agg #[.string x.nm, .int .u8 k, .int .u16 s, .slice a' l' c, .bool x.br]) ⟨k, s, a', l', c, rfl, p5, p6⟩)
          have HST := hide (st5_new wr x.nm k s a' l' c x.br)
          have HBA := hide (hb.alloc hb.size (.cells #[.string x.nm, .int .u8 k, .int .u16 s, .slice a' l' c, .bool x.br] 57))
          have HD2 := hide (show (umayB (l.take i) x && goodL (l.take (i + 1)) (l.drop (i + 1))) = goodL [] l from by rw [← HD.out, drop_at hx, take_at hx]; rfl)
          have i3 : (0 : Int) ≤ (i : Int) := by omega
          have i4 : (i : Int) < (len : Int) := by omega
          have i5 : (i : Int) ≤ (cap : Int) := by omega
          clear hx p6 hb hrs hbA HD
          go_wp2_with fail
          generalize wr.alloc (.cells #[.string x.nm, .int .u8 k, .int .u16 s, .slice a' l' c, .bool x.br] 57) = V at *
          generalize wr.heap.size = z at *
          obtain ⟨q0, q1, q2, q3, q4, -⟩ := st5_cells HST.out
          clear p0 p1 p2 p3 p4
          go_region_held3 (fun w' => w'.cell? ⟨z, 0, none⟩ = some (.string x.nm) ∧ w'.cell? ⟨z, 1, none⟩ = some (.int .u8 k) ∧ w'.cell? ⟨z, 2, none⟩ = some (.int .u16 s) ∧ w'.cell? ⟨z, 3, none⟩ = some (.slice a' l' c) ∧ w'.cell? ⟨z, 4, none⟩ = some (.bool x.br)) (first | assumption | go_keep) ((go_at_call 48; refine (may_any _ i cap (l.take i) x _ _ (by have := HLM.out; omega) (rs_below (below_drew1 V) HRT.out) (ru_below (below_drew1 V) HRU.out)).mono ?_; rintro e w2 ⟨rfl, hb2⟩; have k9 := And.intro ((hb2.cell (p := ⟨z, 0, none⟩) (cell_lt q0)).trans q0) (And.intro ((hb2.cell (p := ⟨z, 1, none⟩) (cell_lt q1)).trans q1) (And.intro ((hb2.cell (p := ⟨z, 2, none⟩) (cell_lt q2)).trans q2) (And.intro ((hb2.cell (p := ⟨z, 3, none⟩) (cell_lt q3)).trans q3) ((hb2.cell (p := ⟨z, 4, none⟩) (cell_lt q4)).trans q4))))))
          have HB3 := hide (HBA.out.trans (((below_drew1 V).mono HBA.out.size).trans (hb2.mono HBA.out.size)))
          clear hb2 k9 q0 q1 q2 q3 q4
          cases hm : umayB (l.take i) x with
          | false =>
            rw [hm] at HD2
            have HF := hide (show rightG l = false by rw [HG2.out, ← HD2.out]; rfl)
            clear hm HD2
            go_wp2
            go_ret
            exact ⟨by rw [HF.out]; rfl, HB3.out⟩
          | true =>
            rw [hm] at HD2
            have HF := hide (show goodL (l.take (i + 1)) (l.drop (i + 1)) = goodL [] l from HD2.out)
            clear hm HD2
            go_wp2
            go_roundw
            case rel => exact ⟨i + 1, by omega, by go_num, HF.out, HB3.out⟩
            case measure => simp [intOf]; omega
        · have e : i = len := by omega
          subst e
          have HF := hide (show rightG l = true by rw [HG2.out, ← HD.out, List.drop_of_length_le (by have := HL.out; omega)]; rfl)
          clear hb HD
          go_wp2
          go_ret
          exact ⟨by rw [HF.out]; rfl, HBW.out⟩
    · have h16' : (16 : Int) < (len : Int) := by omega
      have HF := hide (show rightG l = false by rw [HG.out]; simp [h16])
      clear HG
      go_enter Tryz.func25, Tryz.ntmps25
      go_wp2
      go_ret
      exact ⟨by rw [HF.out]; rfl, Below.refl _ _⟩
  · have h1' : (len : Int) < 1 := by omega
    have HF := hide (show rightG l = false by rw [HG.out]; simp [h1])
    clear HG
    go_enter Tryz.func25, Tryz.ntmps25
    go_wp2
    go_ret
    exact ⟨by rw [HF.out]; rfl, Below.refl _ _⟩
end Go.Proofs.YtbbfjjjnifomgaaGreatDoor.A



/- Rules that came in; the document's Great, Name. -/
namespace Go.Proofs.YtbbfjjjnifomgaaGreatDoor.A
open Go.RowKit Go.ChangeShapes Go.WideShapes Go.Deep
set_option linter.unusedVariables false

theorem cells57 : Tryz.prog.cellsOf 57 = 5 := by kernel_rfl
theorem cells9 : Tryz.prog.cellsOf 9 = 1 := by kernel_rfl
theorem cells4 : Tryz.prog.cellsOf 4 = 1 := by kernel_rfl
set_option maxRecDepth 100000 in
theorem open_rule {H : Type} {enc : TypeId × Value → H} {W : World} {sp : Nat → Bool} {fuel : Nat} {cs : List Value} {x : DataW H × List MemPlace} (h : DataW.trod enc Tryz.prog W 0 sp true fuel 57 cs = some x) :
    ∃ (r : Rl) (k s : Nat) (a : Option Addr) (l c : Nat), cs = [.string r.nm, .int .u8 k, .int .u16 s, .slice a l c, .bool r.br] ∧ r.nm.size ≤ maxLen ∧ Rx W r.n r.t (.agg #[.int .u8 k, .int .u16 s, .slice a l c]) := by
  obtain ⟨xs, n, hfuel, _, hlen, hxs, hf⟩ := DataW.trod_struct Tryz.underlying57 h
  rw [cells57] at hlen
  match cs, hlen with
  | [c0, c1, c2, c3, c4], _ =>
    have u0 : DataW.trod enc Tryz.prog W 0 sp true n 9 [c0] = xs[0]? := by
      have this : DataW.trod enc Tryz.prog W 0 sp true n 9 (List.take (Tryz.prog.cellsOf 9) (List.drop 0 [c0, c1, c2, c3, c4])) = xs[0]? := hf 0 _ rfl
      rw [cells9] at this
      exact this
    have u1 : DataW.trod enc Tryz.prog W 0 sp true n 55 [c1, c2, c3] = xs[1]? := by
      have this : DataW.trod enc Tryz.prog W 0 sp true n 55 (List.take (Tryz.prog.cellsOf 55) (List.drop 1 [c0, c1, c2, c3, c4])) = xs[1]? := hf 1 _ rfl
      rw [cells55] at this
      exact this
    have u2 : DataW.trod enc Tryz.prog W 0 sp true n 4 [c4] = xs[2]? := by
      have this : DataW.trod enc Tryz.prog W 0 sp true n 4 (List.take (Tryz.prog.cellsOf 4) (List.drop 4 [c0, c1, c2, c3, c4])) = xs[2]? := hf 2 _ rfl
      rw [cells4] at this
      exact this
    have hxs3 : xs.length = 3 := hxs
    match xs, hxs3 with
    | [y0, y1, y2], _ =>
      simp only [List.getElem?_cons_zero, List.getElem?_cons_succ] at u0 u1 u2
      obtain ⟨s0, e0, _, hs0⟩ := DataW.trod_string Tryz.underlying9 u0
      obtain ⟨b0, e2, _⟩ := DataW.trod_bool Tryz.underlying4 u2
      obtain ⟨d0, d1, d2, e1, t, ht⟩ := open_ex n _ _ u1
      simp only [List.cons.injEq, and_true] at e0 e1 e2
      obtain ⟨rfl, rfl, rfl⟩ := e1
      subst e0; subst e2
      obtain ⟨kx, sx, ax, lx, cx, rfl, rfl, rfl⟩ := rx_cells ht
      exact ⟨⟨s0, n, t, b0⟩, kx, sx, ax, lx, cx, rfl, hs0, ht⟩
theorem open_rules {H : Type} {enc : TypeId × Value → H} {W : World} {sp : Nat → Bool} {fuel : Nat} {a : Option Addr} {len cap : Nat} {x : DataW H × List MemPlace} (h : DataW.trod enc Tryz.prog W 0 sp true fuel 35 [.slice a len cap] = some x) :
    ∃ zs : List Rl, Rs W a len zs ∧ len ≤ cap ∧ cap ≤ maxLen := by
  rcases open_slice Tryz.underlying35 h with ⟨hcs, _⟩ | ⟨a', len', cap', m, n, D, Pl, hcs, _, hl, hm, hmm, _, hx⟩
  · simp at hcs
    obtain ⟨rfl, rfl, rfl⟩ := hcs
    exact ⟨[], ⟨rfl, .inl rfl⟩, Nat.le_refl _, by unfold maxLen; omega⟩
  · simp at hcs
    obtain ⟨rfl, rfl, rfl⟩ := hcs
    have hlm : len ≤ m := by rw [hmm]; split <;> omega
    have each : ∀ i, i < len → ∃ r : Rl, ∃ (k s : Nat) (a2 : Option Addr) (l c : Nat), W.cell? (a'.add (i * 5)) = some (.string r.nm) ∧ W.cell? (a'.add (i * 5 + 1)) = some (.int .u8 k) ∧ W.cell? (a'.add (i * 5 + 2)) = some (.int .u16 s) ∧ W.cell? (a'.add (i * 5 + 3)) = some (.slice a2 l c) ∧ W.cell? (a'.add (i * 5 + 4)) = some (.bool r.br) ∧ r.nm.size ≤ maxLen ∧ Rx W r.n r.t (.agg #[.int .u8 k, .int .u16 s, .slice a2 l c]) := by
      intro i hi
      obtain ⟨cs', h1, h2⟩ := hx i (by omega)
      rw [cells57] at h1
      obtain ⟨_, hlen, hcell⟩ := World.cells?_some h1
      obtain ⟨r, k, s, a2, l, c, rfl, hs, hr⟩ := open_rule h2
      have q0 := hcell 0 (by omega)
      have q1 := hcell 1 (by omega)
      have q2 := hcell 2 (by omega)
      have q3 := hcell 3 (by omega)
      have q4 := hcell 4 (by omega)
      rw [add_add] at q0 q1 q2 q3 q4
      exact ⟨r, k, s, a2, l, c, by simpa using q0, by simpa using q1, by simpa using q2, by simpa using q3, by simpa using q4, hs, hr⟩
    obtain ⟨g, hg⟩ := @choose_lt Rl ⟨⟨{ data := #[] }, 0, (), false⟩⟩ len _ each
    refine ⟨(List.range len).map g, ⟨by simp, ?_⟩, hl, hm⟩
    by_cases h0 : len = 0
    · exact .inl h0
    · obtain ⟨b, off, spot⟩ := a'
      obtain ⟨_, _, _, _, _, z0, _⟩ := hg 0 (by omega)
      have hspot : spot = none := by simpa [Addr.add] using World.cell?_spot z0
      subst hspot
      refine .inr ⟨b, off, rfl, fun i x hx => ?_⟩
      have hi : i < len := by have := (List.getElem?_eq_some_iff.1 hx).1; simpa using this
      simp only [List.getElem?_map, List.getElem?_range hi, Option.map_some, Option.some.injEq] at hx
      subst hx
      obtain ⟨k, s, a2, l, c, q0, q1, q2, q3, q4, q5, q6⟩ := hg i hi
      have ha : ∀ j, (⟨b, off, none⟩ : Addr).add j = ⟨b, off + j, none⟩ := fun j => by
        simp only [Addr.add]
        split
        · rename_i h; rw [h]; rfl
        · rfl
      rw [ha] at q0 q1 q2 q3 q4
      exact ⟨k, s, a2, l, c, q0, by rw [Nat.add_assoc]; exact q1, by rw [Nat.add_assoc]; exact q2, by rw [Nat.add_assoc]; exact q3, by rw [Nat.add_assoc]; exact q4, q5, q6⟩

/-- Is a grammar more than is looked at? -/
def greatR (x : Rl) : Bool := decide (100 < x.nm.size) || greatE x.n x.t 20
def greatG (l : List Rl) : Bool := decide (20 < l.length) || l.any greatR
theorem rs_trim {w : World} {a : Option Addr} {len : Nat} {l : List Rl} (h : Rs w a len l) (hg : greatG l = false) : ∃ l' : List Rl, Rs w a len l' ∧ ∀ x ∈ l', x.n = 20 := by
  unfold greatG at hg
  simp only [Bool.or_eq_false_iff] at hg
  rcases h.2 with h0 | ⟨b, off, e, h2⟩
  · exact ⟨[], ⟨h0.symm, .inl h0⟩, fun x hx => by cases hx⟩
  · have each : ∀ i, i < len → ∃ x : Rl, x.n = 20 ∧ ∃ (k s : Nat) (a' : Option Addr) (l' c : Nat),
        w.cell? ⟨b, off + i * 5, none⟩ = some (.string x.nm) ∧ w.cell? ⟨b, off + i * 5 + 1, none⟩ = some (.int .u8 k) ∧ w.cell? ⟨b, off + i * 5 + 2, none⟩ = some (.int .u16 s) ∧ w.cell? ⟨b, off + i * 5 + 3, none⟩ = some (.slice a' l' c) ∧ w.cell? ⟨b, off + i * 5 + 4, none⟩ = some (.bool x.br) ∧ x.nm.size ≤ maxLen ∧ Rx w x.n x.t (.agg #[.int .u8 k, .int .u16 s, .slice a' l' c]) := by
      intro i hi
      have hx : l[i]? = some (l[i]'(by rw [h.1]; exact hi)) := by simp
      obtain ⟨k, s, a', l', c, p0, p1, p2, p3, p4, p5, p6⟩ := h2 i _ hx
      have hgr : greatR (l[i]'(by rw [h.1]; exact hi)) = false := by
        have := hg.2
        rw [Bool.eq_false_iff, ne_eq, List.any_eq_true] at this
        cases hq : greatR (l[i]'(by rw [h.1]; exact hi)) with
        | false => rfl
        | true => exact (this ⟨_, List.mem_of_getElem? hx, hq⟩).elim
      unfold greatR at hgr
      simp only [Bool.or_eq_false_iff] at hgr
      obtain ⟨t', ht'⟩ := rx_trim 20 _ _ _ p6 hgr.2
      exact ⟨⟨(l[i]'(by rw [h.1]; exact hi)).nm, 20, t', (l[i]'(by rw [h.1]; exact hi)).br⟩, rfl, k, s, a', l', c, p0, p1, p2, p3, p4, p5, ht'⟩
    obtain ⟨g, hgf⟩ := @choose_lt Rl ⟨⟨{ data := #[] }, 0, (), false⟩⟩ len _ each
    refine ⟨(List.range len).map g, ⟨by simp, .inr ⟨b, off, e, fun i x hx => ?_⟩⟩, fun x hx => ?_⟩
    · have hi : i < len := by have := (List.getElem?_eq_some_iff.1 hx).1; simpa using this
      simp only [List.getElem?_map, List.getElem?_range hi, Option.map_some, Option.some.injEq] at hx
      subst hx
      exact (hgf i hi).2
    · simp only [List.mem_map, List.mem_range] at hx
      obtain ⟨i, hi, rfl⟩ := hx
      exact (hgf i hi).1
set_option maxHeartbeats 1600000 in
theorem rgreatG_any (a : Option Addr) (len cap : Nat) (l : List Rl) (w : World) (hlc : len ≤ cap) (hcm : cap ≤ maxLen) (h : Rs w a len l) :
    Calls Tryz.prog 13 #[.slice a len cap] w fun e w' => e = .returned (.bool (greatG l)) ∧ Below w.heap.size w w' := by
  have hlm := Nat.le_trans hlc hcm
  unfold maxLen at hlm
  have HRS := hide h
  have HG := hide (show greatG l = (decide (20 < len) || l.any greatR) by unfold greatG; rw [h.1])
  clear h
  by_cases h20 : 20 < len
  · have h20' : (20 : Int) < (len : Int) := by omega
    have HF := hide (show greatG l = true by rw [HG.out]; simp [h20])
    go_enter Tryz.func13, Tryz.ntmps13
    go_wp2
    go_ret
    exact ⟨by rw [HF.out]; rfl, Below.refl _ _⟩
  · have h20' : ¬ (20 : Int) < (len : Int) := by omega
    have HG2 := hide (show greatG l = l.any greatR by rw [HG.out]; simp [h20])
    clear HG
    go_enter Tryz.func13, Tryz.ntmps13
    go_wp2_with fail
    go_loopw [3] (fun u wr => ∃ i : Nat, i ≤ len ∧ u = .int .i64 i ∧ (l.take i).any greatR = false ∧ Below w.heap.size w wr) (fun u _ => len - (intOf u).toNat)
    case atStart => exact ⟨0, Nat.zero_le _, rfl, rfl, Below.refl _ _⟩
    case round =>
      obtain ⟨i, hi, rfl, hd, hb⟩ := hrel
      have HD := hide hd
      have HBW := hide hb
      clear hd
      by_cases hlt : i < len
      · obtain ⟨x, b, off, k, s, a', l', c, rfl, hx, p0, p1, p2, p3, p4, p5, p6⟩ := rs_open (rs_below hb HRS.out) hlt
        have HN := hide (show (l.take (i + 1)).any greatR = greatR x from by rw [take_at hx, List.any_append, HD.out]; simp)
        have HIN := hide (show greatR x = true → greatG l = true from fun g => by rw [HG2.out]; exact List.any_eq_true.2 ⟨x, List.mem_of_getElem? hx, g⟩)
        have HGR := hide (show greatR x = (decide (100 < x.nm.size) || greatE x.n x.t 20) from rfl)
        have HC := hide (rgreat_any x.n x.t _ 20 wr (by omega) p6)
        have i3 : (0 : Int) ≤ (i : Int) := by omega
        have i4 : (i : Int) < (len : Int) := by omega
        unfold maxLen at p5
        clear hx p6 hb
        by_cases h100 : 100 < x.nm.size
        · have h100' : (100 : Int) < (x.nm.size : Int) := by omega
          have HF := hide (HIN.out (by rw [HGR.out]; simp [h100]))
          go_wp2
          go_ret
          exact ⟨by rw [HF.out]; rfl, HBW.out⟩
        · have h100' : ¬ (100 : Int) < (x.nm.size : Int) := by omega
          have HGR2 := hide (show greatR x = greatE x.n x.t 20 by rw [HGR.out]; simp [h100])
          clear HGR
          go_wp2_with fail
          refine HC.out.mono ?_
          rintro e w2 ⟨rfl, hb2⟩
          have HB2 := hide (HBW.out.trans (hb2.mono HBW.out.size))
          clear hb2
          cases hge : greatE x.n x.t 20 with
          | false =>
            rw [hge] at HGR2
            clear hge
            go_wp2
            go_roundw
            case rel => exact ⟨i + 1, by omega, by go_num, by rw [HN.out, HGR2.out], HB2.out⟩
            case measure => simp [intOf]; omega
          | true =>
            rw [hge] at HGR2
            have HF := hide (HIN.out HGR2.out)
            clear hge
            go_wp2
            go_ret
            exact ⟨by rw [HF.out]; rfl, HB2.out⟩
      · have e : i = len := by omega
        subst e
        have HF := hide (show greatG l = false by rw [HG2.out]; have := HD.out; rw [List.take_of_length_le (by rw [HRS.out.1]; exact Nat.le_refl _)] at this; exact this)
        clear hb
        go_wp2
        go_ret
        exact ⟨by rw [HF.out]; rfl, HBW.out⟩
end Go.Proofs.YtbbfjjjnifomgaaGreatDoor.A


