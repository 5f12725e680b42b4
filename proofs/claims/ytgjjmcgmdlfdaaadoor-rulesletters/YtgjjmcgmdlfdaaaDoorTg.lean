/- Letters, words, categories. -/
import Derived.Test.YtgjjmcgmdlfdaaaDoorTf
import Derived.Lib.Builder
import Derived.Lib.AppendStr
import Derived.Laws.Externs
import Derived.Laws.DeepStrings4
namespace Go.Proofs.YtgjjmcgmdlfdaaaDoor.A
open Go.RowKit
set_option linter.unusedVariables false

def letB : ByteArray := { data := #[79, 67, 86, 78, 72, 77, 83, 82, 74, 87, 68, 75, 71, 84, 81, 88] }
/-- A category's letter. -/
def letS (c : Int) : ByteArray := if 0 ≤ c ∧ c < 16 then letB.extract c.toNat (c.toNat + 1) else { data := #[] }
set_option maxRecDepth 100000 in
set_option maxHeartbeats 800000 in
theorem letter_cat (c : Int) (w : World) : Calls Tryd.prog 15 #[.int .i64 c] w fun e w' => e = .returned (.string (letS c)) ∧ w' = w := by
  by_cases h0 : 0 ≤ c
  · have h0' : ¬ c < 0 := by omega
    by_cases h16 : c < 16
    · have h16' : ¬ (16 : Int) ≤ c := by omega
      obtain ⟨k, rfl⟩ : ∃ k : Nat, c = (k : Int) := ⟨c.toNat, by omega⟩
      have HL := hide (show letS (k : Int) = ({ data := #[79, 67, 86, 78, 72, 77, 83, 82, 74, 87, 68, 75, 71, 84, 81, 88] } : ByteArray).extract k (k + 1) by unfold letS; rw [if_pos ⟨h0, h16⟩]; rfl)
      have hsl : ∀ u : World, (Instr.slice 9 (.string ({ data := #[79, 67, 86, 78, 72, 77, 83, 82, 74, 87, 68, 75, 71, 84, 81, 88] } : ByteArray)) (some (.int .i64 (k : Int))) (some (.int .i64 ((k : Int) + 1))) none).run Tryd.prog u = .ok (.string (({ data := #[79, 67, 86, 78, 72, 77, 83, 82, 74, 87, 68, 75, 71, 84, 81, 88] } : ByteArray).extract k (k + 1))) u := fun u => by
        rw [run_slice_string_if u 9 _ .i64 .i64 _ _ Tryd.underlying9]
        have hsz : (({ data := #[79, 67, 86, 78, 72, 77, 83, 82, 74, 87, 68, 75, 71, 84, 81, 88] } : ByteArray).size) = 16 := rfl
        rw [if_pos ⟨by omega, by rw [hsz]; omega⟩, if_pos ⟨by omega, by omega⟩]
        rfl
      go_enter Tryd.func15, Tryd.ntmps15
      go_wp2
      go_ret
      exact ⟨by rw [HL.out]; rfl, rfl⟩
    · have h16' : (16 : Int) ≤ c := by omega
      have HL := hide (show letS c = { data := #[] } by unfold letS; rw [if_neg (by omega)])
      go_enter Tryd.func15, Tryd.ntmps15
      go_wp2
      go_ret
      exact ⟨by rw [HL.out]; rfl, rfl⟩
  · have h0' : c < 0 := by omega
    have HL := hide (show letS c = { data := #[] } by unfold letS; rw [if_neg (by omega)])
    go_enter Tryd.func15, Tryd.ntmps15
    go_wp2
    go_ret
    exact ⟨by rw [HL.out]; rfl, rfl⟩

theorem size50 : (Tryd.prog.info? 50).map (·.size) = some 2 := by kernel_rfl
theorem lies50 : liesAt Tryd.prog Tryd.prog.depth 50 (2 / Tryd.prog.cellsOf 50) 0 50 1 = true := by kernel_rfl
theorem info5 : (Tryd.prog.info? 5).map (fun i => (i.zero, i.size, i.bytes)) = some (some (.int .u8 0), 1, 1) := by kernel_rfl
set_option maxHeartbeats 1600000 in
set_option maxRecDepth 100000 in
theorem check_any (B b : Nat) (bs : List Value) (w : World) (h : Lib.IsBuilder 50 5 B b bs w) :
    Calls Tryd.prog 36 #[.pointer (some ⟨b, 0, none⟩)] w fun e w' => e = .returned (.tuple #[]) ∧ Lib.BuilderAt 50 5 B b (.pointer (some ⟨b, 0, none⟩)) bs w' ∧ Below B w w' := by
  obtain ⟨j, hj, hjs⟩ := Option.map_eq_some_iff.1 size50
  rcases h with h | h
  · have c0 := h.cell0
    have hsh := h.shape
    have f0 := h.frozen0
    have HH := hide h
    clear h
    go_enter Tryd.func36, Tryd.ntmps36
    go_wp2
    rw [Lib.run_to_unsafe w ⟨b, 0, none⟩ Tryd.underlying48 Tryd.underlying80 hj (by rw [hjs]; decide) hsh (Nat.zero_lt_succ 1)]
    simp only [Result.andThen]
    rw [Oper.upon_value]
    go_wp2
    rw [run_callFunc_extern Tryd.func52 (by kernel_rfl) (by kernel_rfl) (by kernel_rfl) (e := Extern.AbiNoEscape.same) (by kernel_rfl), Lib.run_noEscape]
    simp only [Result.andThen]
    rw [Oper.upon_value]
    go_wp2
    rw [Lib.run_from_unsafe w ⟨b, 0, none⟩ Tryd.underlying80 Tryd.underlying48 hj hsh lies50]
    simp only [Result.andThen]
    rw [Oper.upon_value]
    go_wp2
    go_end0
    exact ⟨rfl, HH.out.used _, (Below.refl B w).setCell (p := ⟨b, 0, none⟩) HH.out.1 _⟩
  · have c0 := h.cell0
    have HH := hide h
    clear h
    go_enter Tryd.func36, Tryd.ntmps36
    go_wp2
    rw [Lib.run_neq_ptr_same w _ Tryd.underlying48 hj]
    go_wp2
    go_end0
    exact ⟨rfl, HH.out, Below.refl B _⟩
set_option maxHeartbeats 1600000 in
set_option maxRecDepth 100000 in
theorem writes_any (B b : Nat) (bs : List Value) (s : ByteArray) (w : World) (h : Lib.IsBuilder 50 5 B b bs w) (hlen : bs.length + s.size ≤ 100000) (hBw : B ≤ w.heap.size) :
    Calls Tryd.prog 22 #[.pointer (some ⟨b, 0, none⟩), .string s] w fun e w' => e = .returned (.tuple #[.int .i64 s.size, .nilIface]) ∧ Lib.IsBuilder 50 5 B b (bs ++ Lib.strCells s) w' ∧ Below B w w' := by
  obtain ⟨i0, hi0, hz0, hz1, hz2⟩ := info_parts info5
  have HH := hide h
  clear h
  go_enter Tryd.func22, Tryd.ntmps22
  go_wp2_with fail
  refine (check_any B b bs w HH.out).mono ?_
  rintro e w1 ⟨rfl, h1, hb1⟩
  have hlt := h1.lt
  obtain ⟨hB, v, hbk, hown, hne⟩ := h1
  have c1 : w1.cell? ⟨b, 1, none⟩ = some v := by simp [World.cell?, hbk]
  have HO := hide hown
  have HK := hide hbk
  have HB1 := hide hb1
  have hsz : B ≤ w1.heap.size := Nat.le_trans hBw hb1.size
  clear hbk hown hb1
  go_wp2_with (at_builtin; refine Lib.wpList_append_own_string _ rfl _ _ 46 9 rfl B 5 i0 Tryd.underlying46 Tryd.underlying9 hi0 hz0 hz1 hz2 _ _ _ rfl HO.out s rfl (by unfold maxLen; omega) (by omega) hsz ?_)
  intro v' w2 hown' hgrow hnil
  obtain ⟨a', n', c', rfl⟩ : ∃ a n c, v' = .slice a n c := by
    rcases hown'.2 with ⟨rfl, _⟩ | ⟨g, cap, cur, rfl, _⟩
    · exact ⟨_, _, _, rfl⟩
    · exact ⟨_, _, _, rfl⟩
  have hk2 : w2.heap[b]? = some (.cells #[.pointer (some ⟨b, 0, none⟩), v] 50 (0, 0)) := (hgrow.block b hlt (fun e => hne e.symm)).trans HK.out
  have d1 : w2.cell? ⟨b, 1, none⟩ = some v := by simp [World.cell?, hk2]
  have d2 : w2.frozen? ⟨b, 1, none⟩ = false := by simp [World.frozen?, hk2]
  have HF := hide (show Lib.BuilderAt 50 5 B b (.pointer (some ⟨b, 0, none⟩)) (bs ++ Lib.strCells s) (w2.setCell ⟨b, 1, none⟩ (.slice a' n' c')) from Lib.BuilderAt.put hB hk2 (by rw [List.length_append, Lib.strCells_length]; exact hown') (by decide))
  have HBF := hide (show Below B w (w2.setCell ⟨b, 1, none⟩ (.slice a' n' c')) from (HB1.out.grown hgrow hsz (fun k hk => (HO.out.lt k hk).1)).setCell (p := ⟨b, 1, none⟩) hB _)
  clear hown' hgrow hnil hk2
  go_wp2
  go_ret2
  exact ⟨rfl, .inr HF.out, HBF.out⟩

def catOk (c : Int) : Bool := decide (0 ≤ c) && decide (c < 16)
/-- The letters of categories. -/
def wordL : List Int → List UInt8
  | [] => []
  | c :: r => (letS c).data.toList ++ wordL r
def wordF (l : List Int) : ByteArray := if l.all catOk = true then ⟨(wordL l).toArray⟩ else { data := #[] }
theorem letS_size : ∀ k : Nat, k < 16 → (letS (k : Int)).size = 1 := by decide
theorem letS_ok {c : Int} (h : catOk c = true) : (letS c).size = 1 ∧ (letS c).data.toList.length = 1 := by
  unfold catOk at h
  simp only [Bool.and_eq_true, decide_eq_true_eq] at h
  obtain ⟨k, rfl⟩ : ∃ k : Nat, c = (k : Int) := ⟨c.toNat, by omega⟩
  have := letS_size k (by omega)
  exact ⟨this, this⟩
theorem letS_no {c : Int} (h : catOk c = false) : letS c = { data := #[] } := by
  unfold catOk at h
  unfold letS
  rw [if_neg]
  intro hc
  simp [hc.1, hc.2] at h
theorem empty_toList : ({ data := #[] } : ByteArray).toList = [] := by rw [ByteArray.toList_eq]
theorem isEmpty_no {b : ByteArray} (h : b.size = 1) : b.toList.isEmpty = false := by
  rw [ByteArray.toList_eq]
  have : b.data.toList.length = 1 := h
  cases hb : b.data.toList with
  | nil => rw [hb] at this; cases this
  | cons x r => rfl
theorem wordL_app (a b : List Int) : wordL (a ++ b) = wordL a ++ wordL b := by
  induction a with
  | nil => rfl
  | cons c r ih => simp [wordL, ih]
theorem wordL_len : ∀ l : List Int, l.all catOk = true → (wordL l).length = l.length
  | [], _ => rfl
  | c :: r, h => by
    simp only [List.all_cons, Bool.and_eq_true] at h
    have h2 := wordL_len r h.2
    have h1 := (letS_ok h.1).2
    simp only [wordL, List.length_append, List.length_cons] at *
    omega

set_option maxRecDepth 100000 in
set_option maxHeartbeats 3200000 in
theorem word_any (a : Option Addr) (len cap : Nat) (l : List Int) (w : World) (hl : l.length = len) (hlen : len ≤ 1000) (h : Wd w a l) :
    Calls Tryd.prog 14 #[.slice a len cap] w fun e w' => e = .returned (.string (wordF l)) ∧ Below w.heap.size w w' := by
  have HW := hide h
  have HL := hide hl
  have HB0 := hide ((Below.refl w.heap.size w).alloc (Nat.le_refl _) (.cells #[.pointer none, .slice none 0 0] 50))
  have HIB := hide (Lib.fresh_isBuilder 50 5 w)
  have HZ := hide (show (w.alloc (.cells #[.pointer none, .slice none 0 0] 50)).heap.size = w.heap.size + 1 by simp)
  clear h hl
  go_enter Tryd.func14, Tryd.ntmps14
  go_wp2_with fail
  generalize w.alloc (.cells #[.pointer none, .slice none 0 0] 50) = W at *
  obtain ⟨b, hb⟩ : ∃ b, w.heap.size = b := ⟨_, rfl⟩
  rw [hb] at HIB HZ HB0 ⊢
  have HQ := hide hb
  clear hb
  go_loopw [5, 6, 9] (fun _ _ u wr => ∃ i : Nat, i ≤ len ∧ u = .int .i64 i ∧ (l.take i).all catOk = true ∧ Lib.IsBuilder 50 5 b b (Lib.byteCells (wordL (l.take i))) wr ∧ Below b w wr ∧ b ≤ wr.heap.size) (fun _ _ u _ => len - (intOf u).toNat)
  case atStart => exact ⟨0, Nat.zero_le _, rfl, rfl, HIB.out, HB0.out, by have := HZ.out; omega⟩
  case round =>
    obtain ⟨i, hi, rfl, hall, hib, hbw, hsz⟩ := hrel
    have HALL := hide hall
    have HI := hide hib
    have HBW := hide hbw
    clear hall hib
    by_cases hlt : i < len
    · obtain ⟨c, hc⟩ : ∃ c, l[i]? = some c := ⟨l[i]'(by rw [HL.out]; exact hlt), by simp⟩
      obtain ⟨b', off, rfl, k0⟩ := wd_below (w' := wr) (by rw [HQ.out]; exact hbw) HW.out i c hc
      have HT := hide (take_at hc)
      have HC := hide hc
      have i3 : (0 : Int) ≤ (i : Int) := by omega
      have i4 : (i : Int) < (len : Int) := by omega
      clear hc hbw
      go_wp2_with fail
      refine (letter_cat c wr).mono ?_
      rintro e w1 ⟨rfl, hw⟩
      subst hw
      cases hk : catOk c with
      | false =>
        have he := letS_no hk
        rw [he]
        have HF := hide (show wordF l = { data := #[] } by
          unfold wordF
          rw [if_neg]
          intro q
          rw [List.all_eq_true] at q
          rw [q c (List.mem_of_getElem? HC.out)] at hk
          cases hk)
        clear hk he
        go_wp2
        go_ret
        exact ⟨by rw [HF.out]; rfl, by rw [HQ.out]; exact HBW.out⟩
      | true =>
        have hs := (letS_ok hk).1
        have hem := isEmpty_no hs
        have HLE := hide (wordL_len _ HALL.out)
        have HLS := hide (show Lib.strCells (letS c) = Lib.byteCells ((letS c).data.toList) from rfl)
        have HN := hide (show (l.take (i + 1)).all catOk = true by rw [HT.out, List.all_append, HALL.out]; simp [hk])
        have HWN := hide (show wordL (l.take (i + 1)) = wordL (l.take i) ++ (letS c).data.toList by rw [HT.out, wordL_app]; simp [wordL])
        obtain ⟨x, hx⟩ : ∃ x, letS c = x := ⟨_, rfl⟩
        rw [hx] at hem hs HLS HWN ⊢
        clear hk hx
        go_wp2_with fail
        refine (writes_any b b _ x _ HI.out (by rw [Lib.byteCells_length, HLE.out, hs]; simp; omega) hsz).mono ?_
        rintro e w2 ⟨rfl, h1, h2⟩
        have HI2 := hide (show Lib.IsBuilder 50 5 b b (Lib.byteCells (wordL (l.take (i + 1)))) w2 by rw [HWN.out]; unfold Lib.byteCells; rw [List.map_append]; exact h1)
        have HB2 := hide (HBW.out.trans h2)
        have HZ2 := hide (Nat.le_trans hsz h2.size)
        clear h1 h2
        go_wp2
        go_roundw
        case rel => exact ⟨i + 1, by omega, by go_num, HN.out, HI2.out, HB2.out, HZ2.out⟩
        case measure => simp [intOf]; omega
    · have e : i = len := by omega
      subst e
      have HT := hide (show l.take i = l from List.take_of_length_le (by have := HL.out; omega))
      have HF := hide (show wordF l = ⟨(wordL l).toArray⟩ by
        unfold wordF
        rw [if_pos]
        have := HALL.out
        rw [HT.out] at this
        exact this)
      have HI2 := hide (show Lib.IsBuilder 50 5 b b (Lib.byteCells (wordL l)) wr by have := HI.out; rw [HT.out] at this; exact this)
      clear hbw
      go_wp2_with fail
      refine (Tryd.Builder_String_any b b (wordL l) wr HI2.out hsz).mono ?_
      rintro e w2 ⟨rfl, h2⟩
      rw [← HF.out]
      have HB2 := hide (HBW.out.trans h2)
      clear h2
      go_wp2
      go_ret
      exact ⟨rfl, by rw [HQ.out]; exact HB2.out⟩

/-- The categories of letters. -/
def catsL (L : ByteArray) : List Int := (List.range L.size).map fun k => catB (by8 L k)
def catsOk (L : ByteArray) : Bool := (catsL L).all fun c => decide (0 ≤ c)
/-- What Cats answers. -/
def OutC (w : World) (L : ByteArray) (e : Ending) (w' : World) : Prop :=
  if catsOk L = true then ∃ a cap, e = .returned (.tuple #[.slice a L.size cap, .bool true]) ∧ L.size ≤ cap ∧ cap ≤ maxLen ∧ Wd w' a (catsL L) ∧ Below w.heap.size w w'
  else e = .returned (.tuple #[.slice none 0 0, .bool false]) ∧ Below w.heap.size w w'
theorem info3 : (Tryd.prog.info? 3).map (fun i => (i.zero, i.size, i.bytes)) = some (some (.int .i64 0), 1, 8) := by kernel_rfl
def intCells (l : List Int) : List Value := l.map fun c => Value.int .i64 c
theorem catsL_take {L : ByteArray} {k : Nat} (h : k < L.size) : (catsL L).take (k + 1) = (catsL L).take k ++ [catB (by8 L k)] := by
  refine take_at ?_
  unfold catsL
  rw [List.getElem?_map, List.getElem?_range h]
  rfl
theorem own_wd {w : World} {base n : Nat} {v : Value} {l : List Int} (h : w.ownsRow base 3 1 v n (intCells l)) : ∃ a cap, v = .slice a n cap ∧ n ≤ cap ∧ cap ≤ maxLen ∧ Wd w a l := by
  rcases h.2 with ⟨rfl, h0⟩ | ⟨g, cap, cur, rfl, hg, hcur, q1, q2, q3, q4⟩
  · refine ⟨none, 0, by rw [h0], by omega, by unfold maxLen; omega, fun i c hc => ?_⟩
    have := h.1
    rw [h0] at this
    have hl : l = [] := by simpa [intCells] using this
    rw [hl] at hc
    simp at hc
  · refine ⟨_, cap, rfl, q1, q2, fun i c hc => ⟨g, 0, rfl, ?_⟩⟩
    rw [cell_of_row w g (0 + i) cur 3 (0, 0) hcur]
    have hi : i < l.length := (List.getElem?_eq_some_iff.1 hc).1
    have e : (intCells l)[i]? = some (.int .i64 c) := by unfold intCells; rw [List.getElem?_map, hc]; rfl
    have hn := h.1
    simp [intCells] at hn
    rw [← q4, List.getElem?_take_of_lt (by omega)] at e
    rw [← e]
    simp
theorem int_one' (l : List Int) : ∀ u ∈ intCells l, u.oneCell' = true := by
  intro u h
  simp only [intCells, List.mem_map] at h
  obtain ⟨c, _, rfl⟩ := h
  rfl

set_option maxRecDepth 100000 in
set_option maxHeartbeats 3200000 in
theorem cats_any (L : ByteArray) (w : World) (hL : L.size ≤ 1000) : Calls Tryd.prog 13 #[.string L] w fun e w' => OutC w L e w' := by
  obtain ⟨i0, hi0, hz0, hz1, hz2⟩ := info_parts info3
  have HO := hide (fun (e : Ending) (w' : World) => (Iff.refl (OutC w L e w')))
  go_enter Tryd.func13, Tryd.ntmps13
  go_wp2_with fail
  go_loopw [4, 5, 6, 9] (fun out _ _ u wr => ∃ i : Nat, i ≤ L.size ∧ u = .int .i64 i ∧ ((catsL L).take i).all (fun c => decide (0 ≤ c)) = true ∧ wr.ownsRow w.heap.size 3 1 out i (intCells ((catsL L).take i)) ∧ Below w.heap.size w wr) (fun _ _ _ u _ => L.size - (intOf u).toNat)
  case atStart => exact ⟨0, Nat.zero_le _, rfl, rfl, World.ownsRow_nil _ _ _ _, Below.refl _ _⟩
  case round =>
    obtain ⟨i, hi, rfl, hall, hown, hbw⟩ := hrel
    have HALL := hide hall
    have HOW := hide hown
    have HBW := hide hbw
    clear hall hown hbw
    by_cases hlt : i < L.size
    · have i3 : (0 : Int) ≤ (i : Int) := by omega
      have i4 : (i : Int) < (L.size : Int) := by omega
      have e8 : by8 L i = (L[i]'hlt).toNat := by unfold by8; rw [dif_pos hlt]
      obtain ⟨c, hc⟩ : ∃ c, catB (by8 L i) = c := ⟨_, rfl⟩
      have hcl := catB_le (by8 L i)
      rw [hc] at hcl
      have HK := hide (show ∀ u : World, Calls Tryd.prog 21 #[.string { data := #[79, 67, 86, 78, 72, 77, 83, 82, 74, 87, 68, 75, 71, 84, 81, 88] }, .int .u8 ((L[i]'hlt).toNat : Nat)] u fun e w' => e = .returned (.int .i64 c) ∧ w' = u from fun u => by
        refine (Tryd.strings_IndexByte _ _ _).mono ?_
        rintro e w1 ⟨rfl, rfl⟩
        refine ⟨?_, rfl⟩
        rw [← hc, e8]
        rfl)
      have HT := hide (show (catsL L).take (i + 1) = (catsL L).take i ++ [c] by rw [catsL_take hlt, hc])
      clear hc e8
      go_wp2_with fail
      refine (HK.out _).mono ?_
      rintro e w1 ⟨rfl, hw⟩
      subst hw
      by_cases h0 : c < 0
      · have HF := hide (show catsOk L = false by
          unfold catsOk
          rw [Bool.eq_false_iff]
          intro q
          have hin : c ∈ catsL L := List.mem_of_mem_take (i := i + 1) (by rw [HT.out]; simp)
          rw [List.all_eq_true] at q
          have := q c hin
          simp at this
          omega)
        go_wp2
        go_ret2
        unfold OutC
        rw [HF.out]
        exact ⟨rfl, HBW.out⟩
      · have HN := hide (show ((catsL L).take (i + 1)).all (fun c => decide (0 ≤ c)) = true by rw [HT.out, List.all_append, HALL.out]; simp; omega)
        have HOA := hide (HOW.out.alloc (.cells #[.int .i64 c] 3))
        have HNW := hide (show ∀ j u, (intCells [c])[j]? = some u → (w1.alloc (.cells #[.int .i64 c] 3)).cell? ((⟨w1.heap.size, 0, none⟩ : Addr).add j) = some u from fun j u hj => by
          match j with
          | 0 => simp [intCells] at hj; subst hj; simp [Addr.add]
          | j + 1 => simp [intCells] at hj)
        have HBZ := hide (show w.heap.size ≤ (w1.alloc (.cells #[.int .i64 c] 3)).heap.size by have := HBW.out.size; simp; omega)
        have HBA := hide (HBW.out.alloc HBW.out.size (.cells #[.int .i64 c] 3))
        go_wp2_with (at_builtin; refine wpList_append_lies _ rfl _ _ 25 rfl w.heap.size 3 i0 (.int .i64 0) 1 8 Tryd.underlying25 hi0 hz0 hz1 hz2 rfl (by omega) _ i (intCells ((catsL L).take i)) rfl HOA.out ⟨w1.heap.size, 0, none⟩ 1 1 (intCells [c]) rfl rfl HNW.out (int_one' [c]) (by omega) (by unfold maxLen; omega) (by omega) HBZ.out (w1.heap.size + 1) (by simp) ?_)
        intro g cap w3 hown3 hgrow3 hat3 hlt3
        have HO3 := hide (show w3.ownsRow w.heap.size 3 1 (.slice (some ⟨g, 0, none⟩) (i + 1) cap) (i + 1) (intCells ((catsL L).take (i + 1))) by rw [HT.out]; unfold intCells; rw [List.map_append]; exact hown3)
        have HB3 := hide (HBA.out.grown hgrow3 HBZ.out (fun k hk => (HOA.out.lt k hk).1))
        clear hown3 hgrow3 hat3 hlt3 HNW HBZ HBA HOA
        go_wp2
        go_roundw
        case rel => exact ⟨i + 1, by omega, by go_num, HN.out, HO3.out, HB3.out⟩
        case measure => simp [intOf]; omega
    · have e : i = L.size := by omega
      subst e
      have hT : (catsL L).take L.size = catsL L := List.take_of_length_le (by unfold catsL; simp)
      have HF := hide (show catsOk L = true by
        unfold catsOk
        have := HALL.out
        rw [hT] at this
        exact this)
      rw [hT] at HOW
      obtain ⟨a, cap, rfl, hc1, hc2, hwd⟩ := own_wd HOW.out
      have HW := hide hwd
      have hcc : cap ≤ maxLen := hc2
      clear hwd hT
      go_wp2
      go_ret2
      unfold OutC
      rw [if_pos HF.out]
      exact ⟨a, cap, rfl, hc1, hcc, HW.out, HBW.out⟩
end Go.Proofs.YtgjjmcgmdlfdaaaDoor.A
