/- Right of rules. -/
import Derived.Test.YtgjjmcgmdlfdaaaDoorTa
import Derived.Deep.RegionHeld3
namespace Go.Proofs.YtgjjmcgmdlfdaaaDoor.A
open Go.RowKit
set_option linter.unusedVariables false

/-- Each may follow those ahead. -/
def goodL (ahead : List Rl) : List Rl → Bool
  | [] => true
  | x :: r => mayB ahead x && goodL (ahead ++ [x]) r
def rightG (l : List Rl) : Bool := decide (1 ≤ l.length) && decide (l.length ≤ 16) && goodL [] l
theorem drop_at {α : Type} {l : List α} {i : Nat} {x : α} (h : l[i]? = some x) : l.drop i = x :: l.drop (i + 1) := by
  obtain ⟨hi, e⟩ := List.getElem?_eq_some_iff.1 h
  rw [List.drop_eq_getElem_cons hi, e]
/-- A rule's block. -/
def St5 (w : World) (b : Nat) (nm : ByteArray) (k s : Nat) (a : Option Addr) (l c : Nat) (br : Bool) : Prop := w.heap[b]? = some (.cells #[.string nm, .int .u8 k, .int .u16 s, .slice a l c, .bool br] 42 (0, 0))
theorem st5_cells {w : World} {b : Nat} {nm : ByteArray} {k s : Nat} {a : Option Addr} {l c : Nat} {br : Bool} (h : St5 w b nm k s a l c br) : w.cell? ⟨b, 0, none⟩ = some (.string nm) ∧ w.cell? ⟨b, 1, none⟩ = some (.int .u8 k) ∧ w.cell? ⟨b, 2, none⟩ = some (.int .u16 s) ∧ w.cell? ⟨b, 3, none⟩ = some (.slice a l c) ∧ w.cell? ⟨b, 4, none⟩ = some (.bool br) ∧ ∀ j, w.frozen? ⟨b, j, none⟩ = false := by
  unfold St5 at h
  refine ⟨?_, ?_, ?_, ?_, ?_, fun j => ?_⟩ <;> simp [World.cell?, World.frozen?, h]
theorem st5_new (w : World) (nm : ByteArray) (k s : Nat) (a : Option Addr) (l c : Nat) (br : Bool) : St5 (w.alloc (.cells #[.string nm, .int .u8 k, .int .u16 s, .slice a l c, .bool br] 42)) w.heap.size nm k s a l c br := heap_alloc_last w _
theorem st5_lt {w : World} {b : Nat} {nm : ByteArray} {k s : Nat} {a : Option Addr} {l c : Nat} {br : Bool} (h : St5 w b nm k s a l c br) : b < w.heap.size := (Array.getElem?_eq_some_iff.1 h).1
theorem st5_below {w w' : World} {b : Nat} {nm : ByteArray} {k s : Nat} {a : Option Addr} {l c B : Nat} {br : Bool} (h : St5 w b nm k s a l c br) (hb : Below B w w') (hB : b < B) : St5 w' b nm k s a l c br := (hb.block b hB).trans h

set_option maxHeartbeats 3200000 in
theorem rightG_any (a : Option Addr) (len cap : Nat) (l : List Rl) (w : World) (hlc : len ≤ cap) (hcm : cap ≤ maxLen) (h : Rs w a len l) :
    Calls Tryd.prog 9 #[.slice a len cap] w fun e w' => e = .returned (.bool (rightG l)) ∧ Below w.heap.size w w' := by
  have hlm := Nat.le_trans hlc hcm
  have HLM := hide hlm
  unfold maxLen at hcm hlm
  have HRS := hide h
  have HL := hide h.1
  have HG := hide (show rightG l = (decide (1 ≤ len) && decide (len ≤ 16) && goodL [] l) by unfold rightG; rw [h.1])
  clear h
  by_cases h1 : 1 ≤ len
  · have h1' : ¬ (len : Int) < 1 := by omega
    by_cases h16 : len ≤ 16
    · have h16' : ¬ (16 : Int) < (len : Int) := by omega
      have HG2 := hide (show rightG l = goodL [] l by rw [HG.out]; simp [h1, h16])
      clear HG
      go_enter Tryd.func9, Tryd.ntmps9
      go_wp2_with fail
      go_loopw [3, 4, 15] (fun _ _ u wr => ∃ i : Nat, i ≤ len ∧ u = .int .i64 i ∧ goodL (l.take i) (l.drop i) = goodL [] l ∧ Below w.heap.size w wr) (fun _ _ u _ => len - (intOf u).toNat)
      case atStart => exact ⟨0, Nat.zero_le _, rfl, by simp, Below.refl _ _⟩
      case round =>
        obtain ⟨i, hi, rfl, hd, hb⟩ := hrel
        have HD := hide hd
        have HBW := hide hb
        clear hd
        by_cases hlt : i < len
        · have hrs := rs_below hb HRS.out
          obtain ⟨x, b, off, k, s, a', l', c, rfl, hx, p0, p1, p2, p3, p4, p5, p6⟩ := rs_open hrs hlt
          have hbA := (Below.refl wr.heap.size wr).alloc (Nat.le_refl _) (.cells #[.string x.nm, .int .u8 k, .int .u16 s, .slice a' l' c, .bool x.br] 42)
          have HRT := hide (rs_below hbA (rs_take hrs i (by omega)))
          have HRU := hide (ru_below hbA (x := x) (v := .agg #[.string x.nm, .int .u8 k, .int .u16 s, .slice a' l' c, .bool x.br]) ⟨k, s, a', l', c, rfl, p5, p6⟩)
          have HST := hide (st5_new wr x.nm k s a' l' c x.br)
          have HBA := hide (hb.alloc hb.size (.cells #[.string x.nm, .int .u8 k, .int .u16 s, .slice a' l' c, .bool x.br] 42))
          have HD2 := hide (show (mayB (l.take i) x && goodL (l.take (i + 1)) (l.drop (i + 1))) = goodL [] l from by rw [← HD.out, drop_at hx, take_at hx]; rfl)
          have i3 : (0 : Int) ≤ (i : Int) := by omega
          have i4 : (i : Int) < (len : Int) := by omega
          have i5 : (i : Int) ≤ (cap : Int) := by omega
          clear hx p6 hb hrs hbA HD
          go_wp2_with fail
          generalize wr.alloc (.cells #[.string x.nm, .int .u8 k, .int .u16 s, .slice a' l' c, .bool x.br] 42) = V at *
          generalize wr.heap.size = z at *
          obtain ⟨q0, q1, q2, q3, q4, -⟩ := st5_cells HST.out
          clear p0 p1 p2 p3 p4
          go_region_held3 (fun w' => w'.cell? ⟨z, 0, none⟩ = some (.string x.nm) ∧ w'.cell? ⟨z, 1, none⟩ = some (.int .u8 k) ∧ w'.cell? ⟨z, 2, none⟩ = some (.int .u16 s) ∧ w'.cell? ⟨z, 3, none⟩ = some (.slice a' l' c) ∧ w'.cell? ⟨z, 4, none⟩ = some (.bool x.br)) (first | assumption | go_keep) ((go_at_call 19; refine (may_any _ i cap (l.take i) x _ _ (by have := HLM.out; omega) (rs_below (below_drew1 V) HRT.out) (ru_below (below_drew1 V) HRU.out)).mono ?_; rintro e w2 ⟨rfl, hb2⟩; have k9 := And.intro ((hb2.cell (p := ⟨z, 0, none⟩) (cell_lt q0)).trans q0) (And.intro ((hb2.cell (p := ⟨z, 1, none⟩) (cell_lt q1)).trans q1) (And.intro ((hb2.cell (p := ⟨z, 2, none⟩) (cell_lt q2)).trans q2) (And.intro ((hb2.cell (p := ⟨z, 3, none⟩) (cell_lt q3)).trans q3) ((hb2.cell (p := ⟨z, 4, none⟩) (cell_lt q4)).trans q4))))))
          have HB3 := hide (HBA.out.trans (((below_drew1 V).mono HBA.out.size).trans (hb2.mono HBA.out.size)))
          clear hb2 k9 q0 q1 q2 q3 q4
          cases hm : mayB (l.take i) x with
          | false =>
            rw [hm] at HD2
            have HF := hide (show rightG l = false by rw [HG2.out, ← HD2.out]; rfl)
            clear hm HD2
            go_wp2
            go_ret
            exact ⟨by rw [HF.out]; rfl, HB3.out⟩
          | true =>
            rw [hm] at HD2
            have HF := hide (show goodL (l.take (i + 1)) (l.drop (i + 1)) = goodL [] l from HD2.out)
            clear hm HD2
            go_wp2
            go_roundw
            case rel => exact ⟨i + 1, by omega, by go_num, HF.out, HB3.out⟩
            case measure => simp [intOf]; omega
        · have e : i = len := by omega
          subst e
          have HF := hide (show rightG l = true by rw [HG2.out, ← HD.out, List.drop_of_length_le (by have := HL.out; omega)]; rfl)
          clear hb HD
          go_wp2
          go_ret
          exact ⟨by rw [HF.out]; rfl, HBW.out⟩
    · have h16' : (16 : Int) < (len : Int) := by omega
      have HF := hide (show rightG l = false by rw [HG.out]; simp [h16])
      clear HG
      go_enter Tryd.func9, Tryd.ntmps9
      go_wp2
      go_ret
      exact ⟨by rw [HF.out]; rfl, Below.refl _ _⟩
  · have h1' : (len : Int) < 1 := by omega
    have HF := hide (show rightG l = false by rw [HG.out]; simp [h1])
    clear HG
    go_enter Tryd.func9, Tryd.ntmps9
    go_wp2
    go_ret
    exact ⟨by rw [HF.out]; rfl, Below.refl _ _⟩
end Go.Proofs.YtgjjmcgmdlfdaaaDoor.A
