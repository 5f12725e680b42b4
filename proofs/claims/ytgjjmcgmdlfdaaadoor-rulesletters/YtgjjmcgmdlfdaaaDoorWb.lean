/- The law on letters, walked. -/
import Derived.Test.YtgjjmcgmdlfdaaaDoorWa
namespace Go.Proofs.YtgjjmcgmdlfdaaaDoor.A
open Go.RowKit
set_option linter.unusedVariables false

theorem cat_str (l : List UInt8) (x : ByteArray) : (⟨l.toArray⟩ : ByteArray) ++ x = ⟨(l ++ x.data.toList).toArray⟩ := by
  apply ByteArray.ext
  rw [ByteArray.data_append]
  simp
theorem let_len (c : Int) : (A.letS c).size ≤ 1 := by
  cases h : A.catOk c with
  | true => rw [(A.letS_ok h).1]; exact Nat.le_refl _
  | false => rw [A.letS_no h]; decide
theorem wordL_le : ∀ l : List Int, (A.wordL l).length ≤ l.length
  | [] => Nat.le_refl _
  | c :: r => by
    have h1 := let_len c
    have h2 := wordL_le r
    have h3 : (A.letS c).data.toList.length = (A.letS c).size := rfl
    simp only [A.wordL, List.length_append, List.length_cons]
    omega

set_option maxRecDepth 100000 in
set_option maxHeartbeats 25600000 in
theorem letters_walk (a0 : Option Addr) (len0 cap0 : Nat) (z0 : List Int) (s1 : ByteArray) (a2 : Int) (m : Int) (w : World) (hm : w.cell? ⟨0, 0, none⟩ = some (.int .i64 m)) (w0 : A.Wd w a0 z0) (e0 : z0.length = len0) (l0 : len0 ≤ cap0) (m0 : cap0 ≤ maxLen) (w1 : s1.size ≤ maxLen) (w2 : (Lit.int .i64 a2).wf = true) :
    Calls Tryd.prog 4 #[.slice a0 len0 cap0, .string s1, .int .i64 a2] w fun e w' => e = .returned (.bool true) ∧ Below w.heap.size w w' := by
  obtain ⟨i0, hi0, hz0, hz1, hz2⟩ := info_parts A.info3
  unfold maxLen at w1 m0
  have HW := A.hide w0
  have HM := A.hide hm
  have HE := A.hide e0
  clear w0 hm e0 w2
  go_enter Tryd.func4, Tryd.ntmps4
  go_wp2_with fail
  refine (A.alive_any m w HM.out).mono ?_
  rintro e u1 ⟨rfl, hb1⟩
  have HW1 := A.hide (A.wd_below hb1 HW.out)
  have HB1 := A.hide hb1
  clear hb1 HW HM
  by_cases h200 : len0 ≤ 200
  · have h200' : ¬ (200 : Int) < (len0 : Int) := by omega
    by_cases hs200 : s1.size ≤ 200
    · have hs200' : ¬ (200 : Int) < (s1.size : Int) := by omega
      go_wp2_with fail
      go_loopw [7, 8, 9, 10] (fun vs va u _ wr => ∃ i : Nat, i ≤ len0 ∧ u = .int .i64 i ∧ vs = .string ⟨(A.wordL (z0.take i)).toArray⟩ ∧ va = .bool ((z0.take i).all A.catOk) ∧ Below u1.heap.size u1 wr) (fun _ _ u _ _ => len0 - (intOf u).toNat)
      case atStart => exact ⟨0, Nat.zero_le _, rfl, rfl, rfl, Below.refl _ _⟩
      case round =>
        obtain ⟨i, hi, rfl, rfl, rfl, hb⟩ := hrel
        have HB := A.hide hb
        by_cases hlt : i < len0
        · obtain ⟨c, hc⟩ : ∃ c, z0[i]? = some c := ⟨z0[i]'(by rw [HE.out]; exact hlt), by simp⟩
          obtain ⟨b', off, rfl, k0⟩ := A.wd_below hb HW1.out i c hc
          have HT := A.hide (A.take_at hc)
          have i3 : (0 : Int) ≤ (i : Int) := by omega
          have i4 : (i : Int) < (len0 : Int) := by omega
          clear hc hb
          go_wp2_with fail
          refine (A.rlet_any c wr).mono ?_
          rintro e w3 ⟨rfl, hb3⟩
          have HB3 := A.hide (HB.out.trans (hb3.mono HB.out.size))
          clear hb3
          have HWN := A.hide (show A.wordL (z0.take (i + 1)) = A.wordL (z0.take i) ++ (A.letS c).data.toList by rw [HT.out, A.wordL_app]; simp [A.wordL])
          have HAN := A.hide (show (z0.take (i + 1)).all A.catOk = ((z0.take i).all A.catOk && A.catOk c) by rw [HT.out, List.all_append]; simp)
          obtain ⟨B, hB⟩ : ∃ B, (z0.take i).all A.catOk = B := ⟨_, rfl⟩
          rw [hB] at HAN ⊢
          have hcs := cat_str (A.wordL (z0.take i)) (A.letS c)
          rw [← HWN.out] at hcs
          obtain ⟨ok, hok⟩ : ∃ ok, A.catOk c = ok := ⟨_, rfl⟩
          have hem : (A.letS c).toList.isEmpty = !ok := by
            cases ok with
            | true => rw [A.isEmpty_no (A.letS_ok hok).1]; rfl
            | false => rw [A.letS_no hok, A.empty_toList]; rfl
          rw [hok] at HAN
          have HSZ := A.hide (show (A.wordL (z0.take i)).length ≤ 200 by have := wordL_le (z0.take i); have h2 : (z0.take i).length ≤ i := by rw [List.length_take]; omega
                                                                         omega)
          clear hB hok
          obtain ⟨x, hx⟩ : ∃ x, A.letS c = x := ⟨_, rfl⟩
          have hxs : x.size ≤ 1 := by rw [← hx]; exact let_len c
          rw [hx] at hem hcs ⊢
          obtain ⟨y, hy⟩ : ∃ y : ByteArray, (⟨(A.wordL (z0.take i)).toArray⟩ : ByteArray) = y := ⟨_, rfl⟩
          have hys : y.size ≤ 200 := by rw [← hy]; exact (by have := HSZ.out; show (A.wordL (z0.take i)).toArray.size ≤ 200; rw [List.size_toArray]; exact this)
          obtain ⟨y2, hy2⟩ : ∃ y2 : ByteArray, (⟨(A.wordL (z0.take (i + 1))).toArray⟩ : ByteArray) = y2 := ⟨_, rfl⟩
          rw [hy, hy2] at hcs
          rw [hy]
          have HY2 := A.hide hy2
          clear hx hy hy2 HWN HSZ
          cases B <;> cases ok
          all_goals
            have hem' := hem
            simp only [Bool.not_true, Bool.not_false] at hem'
            clear hem
            go_wp2
            go_roundw
            case rel => exact ⟨i + 1, by omega, by go_num, by rw [HY2.out], by rw [HAN.out]; rfl, HB3.out⟩
            case measure => simp [intOf]; omega
        · have e : i = len0 := by omega
          rw [e]
          clear hlt hi
          have hT : z0.take len0 = z0 := List.take_of_length_le (by rw [HE.out]; exact Nat.le_refl _)
          rw [hT]
          have HBR := A.hide hb
          clear hb HB hT
          cases hB : z0.all A.catOk with
          | true =>
            obtain ⟨y, hy⟩ : ∃ y : ByteArray, (⟨(A.wordL z0).toArray⟩ : ByteArray) = y := ⟨_, rfl⟩
            have HY := A.hide (show A.wordF z0 = y by unfold A.wordF; rw [if_pos hB]; exact hy)
            rw [hy]
            clear hy hB
            go_wp2_with fail
            go_loopw [11, 12, 13, 14] (fun want ok u _ wr => ∃ i : Nat, i ≤ s1.size ∧ u = .int .i64 i ∧ ok = .bool (((A.catsL s1).take i).all (fun c => decide (0 ≤ c))) ∧ wr.ownsRow u1.heap.size 3 1 want i (A.intCells ((A.catsL s1).take i)) ∧ Below u1.heap.size u1 wr) (fun _ _ u _ _ => s1.size - (intOf u).toNat)
            case atStart => exact ⟨0, Nat.zero_le _, rfl, rfl, World.ownsRow_nil _ _ _ _, HBR.out⟩
            case round =>
              obtain ⟨i, hi, rfl, rfl, hown, hb⟩ := hrel
              have HOW := A.hide hown
              have HB := A.hide hb
              clear hown hb
              by_cases hlt : i < s1.size
              · have i3 : (0 : Int) ≤ (i : Int) := by omega
                have i4 : (i : Int) < (s1.size : Int) := by omega
                have e8 : A.by8 s1 i = (s1[i]'hlt).toNat := by unfold A.by8; rw [dif_pos hlt]
                have hb256 : (s1[i]'hlt).toNat < 256 := (s1[i]'hlt).toNat_lt
                obtain ⟨c, hc⟩ : ∃ c, A.catB (A.by8 s1 i) = c := ⟨_, rfl⟩
                have HT := A.hide (show (A.catsL s1).take (i + 1) = (A.catsL s1).take i ++ [c] by rw [A.catsL_take hlt, hc])
                have hcl := A.catB_le (A.by8 s1 i)
                rw [hc] at hcl
                rw [e8] at hc
                have HC := A.hide hc
                clear hc e8
                go_wp2_with fail
                refine (A.rcat_any (s1[i]'hlt).toNat wr hb256).mono ?_
                rintro e w3 ⟨rfl, hb3⟩
                rw [HC.out]
                have HB3 := A.hide (HB.out.trans (hb3.mono HB.out.size))
                have HOA := A.hide ((A.own_below HOW.out hb3).alloc (.cells #[.int .i64 c] 3))
                have HNW := A.hide (show ∀ j u, (A.intCells [c])[j]? = some u → (w3.alloc (.cells #[.int .i64 c] 3)).cell? ((⟨w3.heap.size, 0, none⟩ : Addr).add j) = some u from fun j u hj => by
                  match j with
                  | 0 => simp [A.intCells] at hj; subst hj; simp [Addr.add]
                  | j + 1 => simp [A.intCells] at hj)
                have HBZ := A.hide (show u1.heap.size ≤ (w3.alloc (.cells #[.int .i64 c] 3)).heap.size by have := HB3.out.size; simp; omega)
                have HBA := A.hide (HB3.out.alloc HB3.out.size (.cells #[.int .i64 c] 3))
                obtain ⟨B, hB⟩ : ∃ B, ((A.catsL s1).take i).all (fun c => decide (0 ≤ c)) = B := ⟨_, rfl⟩
                have HAN := A.hide (show ((A.catsL s1).take (i + 1)).all (fun c => decide (0 ≤ c)) = (B && decide (0 ≤ c)) by rw [HT.out, List.all_append, hB]; simp)
                rw [hB]
                clear hb3 hB HB HB3
                by_cases h0 : 0 ≤ c
                · have hd0 : decide (0 ≤ c) = true := by simpa using h0
                  rw [hd0] at HAN
                  cases B
                  all_goals
                    go_wp2_with (at_builtin; refine wpList_append_lies _ rfl _ _ 25 rfl u1.heap.size 3 i0 (.int .i64 0) 1 8 Tryd.underlying25 hi0 hz0 hz1 hz2 rfl (by omega) _ i (A.intCells ((A.catsL s1).take i)) rfl HOA.out ⟨w3.heap.size, 0, none⟩ 1 1 (A.intCells [c]) rfl rfl HNW.out (A.int_one' [c]) (by omega) (by unfold maxLen; omega) (by omega) HBZ.out (w3.heap.size + 1) (by simp) ?_)
                    intro g cap w4 hown4 hgrow4 hat4 hlt4
                    have HO4 := A.hide (show w4.ownsRow u1.heap.size 3 1 (.slice (some ⟨g, 0, none⟩) (i + 1) cap) (i + 1) (A.intCells ((A.catsL s1).take (i + 1))) by rw [HT.out]; unfold A.intCells; rw [List.map_append]; exact hown4)
                    have HB4 := A.hide (HBA.out.grown hgrow4 HBZ.out (fun k hk => (HOA.out.lt k hk).1))
                    clear hown4 hgrow4 hat4 hlt4
                    go_wp2
                    go_roundw
                    case rel => exact ⟨i + 1, by omega, by go_num, by rw [HAN.out]; rfl, HO4.out, HB4.out⟩
                    case measure => simp [intOf]; omega
                · have hd0 : decide (0 ≤ c) = false := by simpa using h0
                  rw [hd0] at HAN
                  cases B
                  all_goals
                    go_wp2_with (at_builtin; refine wpList_append_lies _ rfl _ _ 25 rfl u1.heap.size 3 i0 (.int .i64 0) 1 8 Tryd.underlying25 hi0 hz0 hz1 hz2 rfl (by omega) _ i (A.intCells ((A.catsL s1).take i)) rfl HOA.out ⟨w3.heap.size, 0, none⟩ 1 1 (A.intCells [c]) rfl rfl HNW.out (A.int_one' [c]) (by omega) (by unfold maxLen; omega) (by omega) HBZ.out (w3.heap.size + 1) (by simp) ?_)
                    intro g cap w4 hown4 hgrow4 hat4 hlt4
                    have HO4 := A.hide (show w4.ownsRow u1.heap.size 3 1 (.slice (some ⟨g, 0, none⟩) (i + 1) cap) (i + 1) (A.intCells ((A.catsL s1).take (i + 1))) by rw [HT.out]; unfold A.intCells; rw [List.map_append]; exact hown4)
                    have HB4 := A.hide (HBA.out.grown hgrow4 HBZ.out (fun k hk => (HOA.out.lt k hk).1))
                    clear hown4 hgrow4 hat4 hlt4
                    go_wp2
                    go_roundw
                    case rel => exact ⟨i + 1, by omega, by go_num, by rw [HAN.out]; rfl, HO4.out, HB4.out⟩
                    case measure => simp [intOf]; omega
              · have e : i = s1.size := by omega
                subst e
                have hT : (A.catsL s1).take s1.size = A.catsL s1 := List.take_of_length_le (by unfold A.catsL; simp)
                rw [hT] at HOW ⊢
                have hOK : (A.catsL s1).all (fun c => decide (0 ≤ c)) = A.catsOk s1 := rfl
                rw [hOK]
                obtain ⟨aw, cw, rfl, hcw1, hcw2, hwd⟩ := A.own_wd HOW.out
                have HWW := A.hide hwd
                have HWA := A.hide (A.wd_below HB.out HW1.out)
                have HBF := A.hide (HB1.out.trans (HB.out.mono HB1.out.size))
                have HLC := A.hide (show (A.catsL s1).length = s1.size by unfold A.catsL; simp)
                clear hT hOK hwd HOW
                cases hB2 : A.catsOk s1 with
                | true =>
                  go_wp2_with fail
                  refine (A.cats_any s1 wr (by omega)).mono ?_
                  intro e u4 hout
                  unfold A.OutC at hout
                  rw [if_pos hB2] at hout
                  obtain ⟨a5, cap5, rfl, hd1, hd2, hwd5, hb4⟩ := hout
                  have HB4 := A.hide (HBF.out.trans (hb4.mono HBF.out.size))
                  have HW4 := A.hide (A.wd_below hb4 HWA.out)
                  have HV4 := A.hide (And.intro hwd5 (A.wd_below hb4 HWW.out))
                  have HLL := A.hide (show (A.catsL s1).length = s1.size from HLC.out)
                  clear hwd5 hb4 hB2 HBF HWA HWW HB HW1
                  go_wp2_with fail
                  refine (A.word_any a0 len0 cap0 z0 u4 HE.out (by omega) HW4.out).mono ?_
                  rintro e u5 ⟨rfl, hb5⟩
                  rw [HY.out]
                  have HB5 := A.hide (HB4.out.trans (hb5.mono HB4.out.size))
                  have HV5 := A.hide (And.intro (A.wd_below hb5 HV4.out.1) (A.wd_below hb5 HV4.out.2))
                  have hyy : (y.toList == y.toList) = true := by simp
                  clear hb5 HB4 HV4 HW4
                  go_wp2_with fail
                  refine (A.letter_cat a2 u5).mono ?_
                  rintro e u6 ⟨rfl, hw⟩
                  subst hw
                  go_wp2_with fail
                  refine (A.rlet_any a2 u6).mono ?_
                  rintro e u7 ⟨rfl, hb7⟩
                  have HB7 := A.hide (HB5.out.trans (hb7.mono HB5.out.size))
                  have HV7 := A.hide (And.intro (A.wd_below hb7 HV5.out.1) (A.wd_below hb7 HV5.out.2))
                  obtain ⟨x2, hx2⟩ : ∃ x2, A.letS a2 = x2 := ⟨_, rfl⟩
                  rw [hx2]
                  have hxx : (x2.toList == x2.toList) = true := by simp
                  clear hb7 HB5 HV5 hx2
                  go_wp2_with fail
                  refine (A.ints_same _ _ _ _ _ _ u7 HLL.out (by omega) HV7.out.1 HV7.out.2).mono ?_
                  rintro e u8 ⟨rfl, hb8⟩
                  have HB8 := A.hide (HB7.out.trans (hb8.mono HB7.out.size))
                  clear hb8
                  go_wp2
                  go_ret
                  exact ⟨rfl, HB8.out⟩
                | false =>
                  go_wp2_with fail
                  refine (A.cats_any s1 wr (by omega)).mono ?_
                  intro e u4 hout
                  unfold A.OutC at hout
                  rw [hB2] at hout
                  obtain ⟨rfl, hb4⟩ := hout
                  have HB4 := A.hide (HBF.out.trans (hb4.mono HBF.out.size))
                  have HW4 := A.hide (A.wd_below hb4 HWA.out)
                  have HV4 := A.hide (show A.Wd u4 none ([] : List Int) ∧ A.Wd u4 none ([] : List Int) from ⟨(fun i c hc => by simp at hc), (fun i c hc => by simp at hc)⟩)
                  have HLL := A.hide (show ([] : List Int).length = 0 from rfl)
                  clear hb4 hB2 HBF HWA HWW HB HW1
                  go_wp2_with fail
                  refine (A.word_any a0 len0 cap0 z0 u4 HE.out (by omega) HW4.out).mono ?_
                  rintro e u5 ⟨rfl, hb5⟩
                  rw [HY.out]
                  have HB5 := A.hide (HB4.out.trans (hb5.mono HB4.out.size))
                  have HV5 := A.hide (And.intro (A.wd_below hb5 HV4.out.1) (A.wd_below hb5 HV4.out.2))
                  have hyy : (y.toList == y.toList) = true := by simp
                  clear hb5 HB4 HV4 HW4
                  go_wp2_with fail
                  refine (A.letter_cat a2 u5).mono ?_
                  rintro e u6 ⟨rfl, hw⟩
                  subst hw
                  go_wp2_with fail
                  refine (A.rlet_any a2 u6).mono ?_
                  rintro e u7 ⟨rfl, hb7⟩
                  have HB7 := A.hide (HB5.out.trans (hb7.mono HB5.out.size))
                  have HV7 := A.hide (And.intro (A.wd_below hb7 HV5.out.1) (A.wd_below hb7 HV5.out.2))
                  obtain ⟨x2, hx2⟩ : ∃ x2, A.letS a2 = x2 := ⟨_, rfl⟩
                  rw [hx2]
                  have hxx : (x2.toList == x2.toList) = true := by simp
                  clear hb7 HB5 HV5 hx2
                  go_wp2_with fail
                  refine (A.ints_same _ _ _ _ _ _ u7 HLL.out (by omega) HV7.out.1 HV7.out.2).mono ?_
                  rintro e u8 ⟨rfl, hb8⟩
                  have HB8 := A.hide (HB7.out.trans (hb8.mono HB7.out.size))
                  clear hb8
                  go_wp2
                  go_ret
                  exact ⟨rfl, HB8.out⟩
          | false =>
            have HY0 := A.hide (show A.wordF z0 = { data := #[] } by unfold A.wordF; rw [hB]; rfl)
            generalize (⟨(A.wordL z0).toArray⟩ : ByteArray) = y0
            clear hB
            obtain ⟨y, hy⟩ : ∃ y : ByteArray, ({ data := #[] } : ByteArray) = y := ⟨_, rfl⟩
            have HY := A.hide (show A.wordF z0 = y from HY0.out.trans hy)
            go_wp2_with fail
            rw [hy]
            clear hy HY0
            go_loopw [11, 12, 13, 14] (fun want ok u _ wr => ∃ i : Nat, i ≤ s1.size ∧ u = .int .i64 i ∧ ok = .bool (((A.catsL s1).take i).all (fun c => decide (0 ≤ c))) ∧ wr.ownsRow u1.heap.size 3 1 want i (A.intCells ((A.catsL s1).take i)) ∧ Below u1.heap.size u1 wr) (fun _ _ u _ _ => s1.size - (intOf u).toNat)
            case atStart => exact ⟨0, Nat.zero_le _, rfl, rfl, World.ownsRow_nil _ _ _ _, HBR.out⟩
            case round =>
              obtain ⟨i, hi, rfl, rfl, hown, hb⟩ := hrel
              have HOW := A.hide hown
              have HB := A.hide hb
              clear hown hb
              by_cases hlt : i < s1.size
              · have i3 : (0 : Int) ≤ (i : Int) := by omega
                have i4 : (i : Int) < (s1.size : Int) := by omega
                have e8 : A.by8 s1 i = (s1[i]'hlt).toNat := by unfold A.by8; rw [dif_pos hlt]
                have hb256 : (s1[i]'hlt).toNat < 256 := (s1[i]'hlt).toNat_lt
                obtain ⟨c, hc⟩ : ∃ c, A.catB (A.by8 s1 i) = c := ⟨_, rfl⟩
                have HT := A.hide (show (A.catsL s1).take (i + 1) = (A.catsL s1).take i ++ [c] by rw [A.catsL_take hlt, hc])
                have hcl := A.catB_le (A.by8 s1 i)
                rw [hc] at hcl
                rw [e8] at hc
                have HC := A.hide hc
                clear hc e8
                go_wp2_with fail
                refine (A.rcat_any (s1[i]'hlt).toNat wr hb256).mono ?_
                rintro e w3 ⟨rfl, hb3⟩
                rw [HC.out]
                have HB3 := A.hide (HB.out.trans (hb3.mono HB.out.size))
                have HOA := A.hide ((A.own_below HOW.out hb3).alloc (.cells #[.int .i64 c] 3))
                have HNW := A.hide (show ∀ j u, (A.intCells [c])[j]? = some u → (w3.alloc (.cells #[.int .i64 c] 3)).cell? ((⟨w3.heap.size, 0, none⟩ : Addr).add j) = some u from fun j u hj => by
                  match j with
                  | 0 => simp [A.intCells] at hj; subst hj; simp [Addr.add]
                  | j + 1 => simp [A.intCells] at hj)
                have HBZ := A.hide (show u1.heap.size ≤ (w3.alloc (.cells #[.int .i64 c] 3)).heap.size by have := HB3.out.size; simp; omega)
                have HBA := A.hide (HB3.out.alloc HB3.out.size (.cells #[.int .i64 c] 3))
                obtain ⟨B, hB⟩ : ∃ B, ((A.catsL s1).take i).all (fun c => decide (0 ≤ c)) = B := ⟨_, rfl⟩
                have HAN := A.hide (show ((A.catsL s1).take (i + 1)).all (fun c => decide (0 ≤ c)) = (B && decide (0 ≤ c)) by rw [HT.out, List.all_append, hB]; simp)
                rw [hB]
                clear hb3 hB HB HB3
                by_cases h0 : 0 ≤ c
                · have hd0 : decide (0 ≤ c) = true := by simpa using h0
                  rw [hd0] at HAN
                  cases B
                  all_goals
                    go_wp2_with (at_builtin; refine wpList_append_lies _ rfl _ _ 25 rfl u1.heap.size 3 i0 (.int .i64 0) 1 8 Tryd.underlying25 hi0 hz0 hz1 hz2 rfl (by omega) _ i (A.intCells ((A.catsL s1).take i)) rfl HOA.out ⟨w3.heap.size, 0, none⟩ 1 1 (A.intCells [c]) rfl rfl HNW.out (A.int_one' [c]) (by omega) (by unfold maxLen; omega) (by omega) HBZ.out (w3.heap.size + 1) (by simp) ?_)
                    intro g cap w4 hown4 hgrow4 hat4 hlt4
                    have HO4 := A.hide (show w4.ownsRow u1.heap.size 3 1 (.slice (some ⟨g, 0, none⟩) (i + 1) cap) (i + 1) (A.intCells ((A.catsL s1).take (i + 1))) by rw [HT.out]; unfold A.intCells; rw [List.map_append]; exact hown4)
                    have HB4 := A.hide (HBA.out.grown hgrow4 HBZ.out (fun k hk => (HOA.out.lt k hk).1))
                    clear hown4 hgrow4 hat4 hlt4
                    go_wp2
                    go_roundw
                    case rel => exact ⟨i + 1, by omega, by go_num, by rw [HAN.out]; rfl, HO4.out, HB4.out⟩
                    case measure => simp [intOf]; omega
                · have hd0 : decide (0 ≤ c) = false := by simpa using h0
                  rw [hd0] at HAN
                  cases B
                  all_goals
                    go_wp2_with (at_builtin; refine wpList_append_lies _ rfl _ _ 25 rfl u1.heap.size 3 i0 (.int .i64 0) 1 8 Tryd.underlying25 hi0 hz0 hz1 hz2 rfl (by omega) _ i (A.intCells ((A.catsL s1).take i)) rfl HOA.out ⟨w3.heap.size, 0, none⟩ 1 1 (A.intCells [c]) rfl rfl HNW.out (A.int_one' [c]) (by omega) (by unfold maxLen; omega) (by omega) HBZ.out (w3.heap.size + 1) (by simp) ?_)
                    intro g cap w4 hown4 hgrow4 hat4 hlt4
                    have HO4 := A.hide (show w4.ownsRow u1.heap.size 3 1 (.slice (some ⟨g, 0, none⟩) (i + 1) cap) (i + 1) (A.intCells ((A.catsL s1).take (i + 1))) by rw [HT.out]; unfold A.intCells; rw [List.map_append]; exact hown4)
                    have HB4 := A.hide (HBA.out.grown hgrow4 HBZ.out (fun k hk => (HOA.out.lt k hk).1))
                    clear hown4 hgrow4 hat4 hlt4
                    go_wp2
                    go_roundw
                    case rel => exact ⟨i + 1, by omega, by go_num, by rw [HAN.out]; rfl, HO4.out, HB4.out⟩
                    case measure => simp [intOf]; omega
              · have e : i = s1.size := by omega
                subst e
                have hT : (A.catsL s1).take s1.size = A.catsL s1 := List.take_of_length_le (by unfold A.catsL; simp)
                rw [hT] at HOW ⊢
                have hOK : (A.catsL s1).all (fun c => decide (0 ≤ c)) = A.catsOk s1 := rfl
                rw [hOK]
                obtain ⟨aw, cw, rfl, hcw1, hcw2, hwd⟩ := A.own_wd HOW.out
                have HWW := A.hide hwd
                have HWA := A.hide (A.wd_below HB.out HW1.out)
                have HBF := A.hide (HB1.out.trans (HB.out.mono HB1.out.size))
                have HLC := A.hide (show (A.catsL s1).length = s1.size by unfold A.catsL; simp)
                clear hT hOK hwd HOW
                cases hB2 : A.catsOk s1 with
                | true =>
                  go_wp2_with fail
                  refine (A.cats_any s1 wr (by omega)).mono ?_
                  intro e u4 hout
                  unfold A.OutC at hout
                  rw [if_pos hB2] at hout
                  obtain ⟨a5, cap5, rfl, hd1, hd2, hwd5, hb4⟩ := hout
                  have HB4 := A.hide (HBF.out.trans (hb4.mono HBF.out.size))
                  have HW4 := A.hide (A.wd_below hb4 HWA.out)
                  have HV4 := A.hide (And.intro hwd5 (A.wd_below hb4 HWW.out))
                  have HLL := A.hide (show (A.catsL s1).length = s1.size from HLC.out)
                  clear hwd5 hb4 hB2 HBF HWA HWW HB HW1
                  go_wp2_with fail
                  refine (A.word_any a0 len0 cap0 z0 u4 HE.out (by omega) HW4.out).mono ?_
                  rintro e u5 ⟨rfl, hb5⟩
                  rw [HY.out]
                  have HB5 := A.hide (HB4.out.trans (hb5.mono HB4.out.size))
                  have HV5 := A.hide (And.intro (A.wd_below hb5 HV4.out.1) (A.wd_below hb5 HV4.out.2))
                  have hyy : (y.toList == y.toList) = true := by simp
                  clear hb5 HB4 HV4 HW4
                  go_wp2_with fail
                  refine (A.letter_cat a2 u5).mono ?_
                  rintro e u6 ⟨rfl, hw⟩
                  subst hw
                  go_wp2_with fail
                  refine (A.rlet_any a2 u6).mono ?_
                  rintro e u7 ⟨rfl, hb7⟩
                  have HB7 := A.hide (HB5.out.trans (hb7.mono HB5.out.size))
                  have HV7 := A.hide (And.intro (A.wd_below hb7 HV5.out.1) (A.wd_below hb7 HV5.out.2))
                  obtain ⟨x2, hx2⟩ : ∃ x2, A.letS a2 = x2 := ⟨_, rfl⟩
                  rw [hx2]
                  have hxx : (x2.toList == x2.toList) = true := by simp
                  clear hb7 HB5 HV5 hx2
                  go_wp2_with fail
                  refine (A.ints_same _ _ _ _ _ _ u7 HLL.out (by omega) HV7.out.1 HV7.out.2).mono ?_
                  rintro e u8 ⟨rfl, hb8⟩
                  have HB8 := A.hide (HB7.out.trans (hb8.mono HB7.out.size))
                  clear hb8
                  go_wp2
                  go_ret
                  exact ⟨rfl, HB8.out⟩
                | false =>
                  go_wp2_with fail
                  refine (A.cats_any s1 wr (by omega)).mono ?_
                  intro e u4 hout
                  unfold A.OutC at hout
                  rw [hB2] at hout
                  obtain ⟨rfl, hb4⟩ := hout
                  have HB4 := A.hide (HBF.out.trans (hb4.mono HBF.out.size))
                  have HW4 := A.hide (A.wd_below hb4 HWA.out)
                  have HV4 := A.hide (show A.Wd u4 none ([] : List Int) ∧ A.Wd u4 none ([] : List Int) from ⟨(fun i c hc => by simp at hc), (fun i c hc => by simp at hc)⟩)
                  have HLL := A.hide (show ([] : List Int).length = 0 from rfl)
                  clear hb4 hB2 HBF HWA HWW HB HW1
                  go_wp2_with fail
                  refine (A.word_any a0 len0 cap0 z0 u4 HE.out (by omega) HW4.out).mono ?_
                  rintro e u5 ⟨rfl, hb5⟩
                  rw [HY.out]
                  have HB5 := A.hide (HB4.out.trans (hb5.mono HB4.out.size))
                  have HV5 := A.hide (And.intro (A.wd_below hb5 HV4.out.1) (A.wd_below hb5 HV4.out.2))
                  have hyy : (y.toList == y.toList) = true := by simp
                  clear hb5 HB4 HV4 HW4
                  go_wp2_with fail
                  refine (A.letter_cat a2 u5).mono ?_
                  rintro e u6 ⟨rfl, hw⟩
                  subst hw
                  go_wp2_with fail
                  refine (A.rlet_any a2 u6).mono ?_
                  rintro e u7 ⟨rfl, hb7⟩
                  have HB7 := A.hide (HB5.out.trans (hb7.mono HB5.out.size))
                  have HV7 := A.hide (And.intro (A.wd_below hb7 HV5.out.1) (A.wd_below hb7 HV5.out.2))
                  obtain ⟨x2, hx2⟩ : ∃ x2, A.letS a2 = x2 := ⟨_, rfl⟩
                  rw [hx2]
                  have hxx : (x2.toList == x2.toList) = true := by simp
                  clear hb7 HB5 HV5 hx2
                  go_wp2_with fail
                  refine (A.ints_same _ _ _ _ _ _ u7 HLL.out (by omega) HV7.out.1 HV7.out.2).mono ?_
                  rintro e u8 ⟨rfl, hb8⟩
                  have HB8 := A.hide (HB7.out.trans (hb8.mono HB7.out.size))
                  clear hb8
                  go_wp2
                  go_ret
                  exact ⟨rfl, HB8.out⟩
    · have hs200' : (200 : Int) < (s1.size : Int) := by omega
      go_wp2
      go_ret
      exact ⟨rfl, HB1.out⟩
  · have h200' : (200 : Int) < (len0 : Int) := by omega
    go_wp2
    go_ret
    exact ⟨rfl, HB1.out⟩
end Go.Proofs.YtgjjmcgmdlfdaaaDoor.A
