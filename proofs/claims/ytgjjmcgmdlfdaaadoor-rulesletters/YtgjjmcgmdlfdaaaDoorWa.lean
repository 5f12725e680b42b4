/- The document's Category and Letter. -/
import Derived.Test.YtgjjmcgmdlfdaaaDoorSf
import Derived.Laws.IdiomStrings
namespace Go.Proofs.YtgjjmcgmdlfdaaaDoor.A
open Go.RowKit
set_option linter.unusedVariables false

def ltA (i : Nat) : Nat := (lets.getD i 0).toNat
theorem cat_hit : ∀ c : Nat, c < 256 → ∀ i : Nat, i < 16 → ltA i = c → (∀ j : Nat, j < i → ltA j ≠ c) → catB c = (i : Int) := by decide +kernel
theorem cat_miss : ∀ c : Nat, c < 256 → (∀ j : Nat, j < 16 → ltA j ≠ c) → catB c = -1 := by decide +kernel
theorem let_of_cat : ∀ c : Nat, c < 256 → 0 ≤ catB c → letS (catB c) = ⟨#[c.toUInt8]⟩ := by decide +kernel
theorem let_in : ∀ k : Nat, k < 16 → ∃ d : Nat, d < 91 ∧ 65 ≤ d ∧ catB d = (k : Int) := by decide +kernel
theorem ltA_lt : ∀ i : Nat, i < 16 → ltA i < 256 := by decide +kernel
def rowA : Array Value := (lets.map fun (b : UInt8) => Value.int .u8 (b.toNat : Nat)).toArray
theorem rowA_at {i : Nat} (h : i < 16) : rowA[i]? = some (.int .u8 (ltA i : Nat)) := by
  have hl : lets.length = 16 := rfl
  unfold rowA ltA
  rw [List.getElem?_toArray, List.getElem?_map, List.getD_eq_getElem?_getD, List.getElem?_eq_getElem (by omega)]
  rfl
set_option maxRecDepth 100000 in
set_option maxHeartbeats 1600000 in
theorem rcat_any (c : Nat) (w : World) (hc : c < 256) : Calls Tryd.prog 12 #[.int .u8 c] w fun e w' => e = .returned (.int .i64 (catB c)) ∧ Below w.heap.size w w' := by
  have HB := hide ((Below.refl w.heap.size w).alloc (Nat.le_refl _) (.cells rowA 5))
  have HR := hide (heap_alloc_last w (.cells rowA 5))
  have HE := hide (show (Obj.cells #[.int .u8 79, .int .u8 67, .int .u8 86, .int .u8 78, .int .u8 72, .int .u8 77, .int .u8 83, .int .u8 82, .int .u8 74, .int .u8 87, .int .u8 68, .int .u8 75, .int .u8 71, .int .u8 84, .int .u8 81, .int .u8 88] 5 (0, 0)) = .cells rowA 5 from rfl)
  go_enter Tryd.func12, Tryd.ntmps12
  go_wp2_with fail
  rw [HE.out]
  generalize w.alloc (.cells rowA 5) = W at *
  obtain ⟨z, hz⟩ : ∃ z, w.heap.size = z := ⟨_, rfl⟩
  rw [hz] at HR HB ⊢
  have HQ := hide hz
  clear hz HE
  go_loopw [4] (fun u wr => ∃ i : Nat, u = .int .i64 i ∧ i ≤ 16 ∧ (∀ j, j < i → ltA j ≠ c) ∧ W = wr) (fun u _ => 16 - (intOf u).toNat)
  case atStart => exact ⟨0, rfl, Nat.zero_le _, fun j hj => by omega, rfl⟩
  case round =>
    obtain ⟨i, rfl, hi, hs, rfl⟩ := hrel
    have HS := hide hs
    have i3 : (0 : Int) ≤ (i : Int) := by omega
    clear hs
    by_cases hlt : i < 16
    · have i4 : (i : Int) < 16 := by omega
      have c0 : W.cell? ⟨z, i, none⟩ = some (.int .u8 (ltA i : Nat)) := by rw [cell_of_row W z i _ _ _ HR.out]; exact rowA_at hlt
      have hl8 := ltA_lt i hlt
      by_cases he : ltA i = c
      · have he' : ((ltA i : Int) == (c : Int)) = true := by simp; omega
        have HC := hide (cat_hit c hc i hlt he HS.out)
        generalize ltA i = t at *
        go_wp2
        go_ret
        exact ⟨by rw [HC.out]; rfl, by rw [HQ.out]; exact HB.out⟩
      · have he' : ((ltA i : Int) == (c : Int)) = false := by simp; omega
        have HN := hide (show ∀ j, j < i + 1 → ltA j ≠ c from fun j hj => by
          by_cases e : j = i
          · subst e; exact he
          · exact HS.out j (by omega))
        clear he
        generalize ltA i = t at *
        go_wp2
        go_roundw
        case rel => exact ⟨i + 1, by go_num, by omega, HN.out, trivial⟩
        case measure => simp [intOf]; omega
    · have e : i = 16 := by omega
      subst e
      have HC := hide (cat_miss c hc HS.out)
      go_wp2
      go_ret
      exact ⟨by rw [HC.out]; rfl, by rw [HQ.out]; exact HB.out⟩
set_option maxRecDepth 100000 in
set_option maxHeartbeats 1600000 in
theorem rlet_any (cat : Int) (w : World) : Calls Tryd.prog 11 #[.int .i64 cat] w fun e w' => e = .returned (.string (letS cat)) ∧ Below w.heap.size w w' := by
  go_enter Tryd.func11, Tryd.ntmps11
  go_wp2_with fail
  go_loopw [3] (fun u wr => ∃ c : Nat, u = .int .i32 c ∧ 65 ≤ c ∧ c ≤ 91 ∧ (0 ≤ cat → ∀ d, 65 ≤ d → d < c → catB d ≠ cat) ∧ Below w.heap.size w wr) (fun u _ => 91 - (intOf u).toNat)
  case atStart => exact ⟨65, rfl, Nat.le_refl _, by omega, fun _ d h1 h2 => by omega, Below.refl _ _⟩
  case round =>
    obtain ⟨c, rfl, hc1, hc2, hs, hb⟩ := hrel
    have HS := hide hs
    have HB := hide hb
    clear hs hb
    by_cases hlt : c ≤ 90
    · have i4 : (c : Int) ≤ 90 := by omega
      have i5 : IntKind.u8.wrap (c : Int) = (c : Int) := by rw [IntKind.wrap_u8]; omega
      have i6 : IntKind.i32.wrap ((c : Int) + 1) = (c : Int) + 1 := by rw [IntKind.wrap_i32]; omega
      by_cases h0 : 0 ≤ cat
      · go_wp2_with fail
        refine (rcat_any c wr (by omega)).mono ?_
        rintro e w2 ⟨rfl, hb2⟩
        have HB2 := hide (HB.out.trans (hb2.mono HB.out.size))
        clear hb2
        by_cases he : catB c = cat
        · have HL := hide (show letS cat = ⟨#[c.toUInt8]⟩ by rw [← he]; exact let_of_cat c (by omega) (by omega))
          have he' : (catB c == cat) = true := by simpa using he
          have hcv : (convert 46 9 (.slice (some ⟨w2.heap.size, 0, none⟩) 1 1)).run Tryd.prog (w2.alloc (.cells #[.int .u8 (c : Int)] 5)) = .ok (.string ⟨#[c.toUInt8]⟩) (w2.alloc (.cells #[.int .u8 (c : Int)] 5)) :=
            run_convert_bytes_back _ 46 9 5 ⟨w2.heap.size, 0, none⟩ 1 [c.toUInt8] Tryd.underlying46 Tryd.underlying5 Tryd.underlying9 (fun i hi => by
              have e : i = 0 := by simpa using hi
              subst e
              simp [Addr.add]
              omega)
          have HB3 := hide (HB2.out.alloc HB2.out.size (.cells #[.int .u8 (c : Int)] 5))
          clear he
          go_wp2
          go_ret
          exact ⟨by rw [HL.out]; rfl, HB3.out⟩
        · have he' : (catB c == cat) = false := by simpa using he
          have HN := hide (show 0 ≤ cat → ∀ d, 65 ≤ d → d < c + 1 → catB d ≠ cat from fun h d h1 h2 => by
            by_cases e : d = c
            · subst e; exact he
            · exact HS.out h d h1 (by omega))
          clear he
          go_wp2
          go_roundw
          case rel => exact ⟨c + 1, by go_num, by omega, by omega, HN.out, HB2.out⟩
          case measure => simp [intOf]; omega
      · go_wp2
        go_roundw
        case rel => exact ⟨c + 1, by go_num, by omega, by omega, fun h => by omega, HB.out⟩
        case measure => simp [intOf]; omega
    · have e : c = 91 := by omega
      subst e
      have HL := hide (show letS cat = { data := #[] } by
        unfold letS
        by_cases hv : 0 ≤ cat ∧ cat < 16
        · obtain ⟨k, rfl⟩ : ∃ k : Nat, cat = (k : Int) := ⟨cat.toNat, by omega⟩
          obtain ⟨d, hd1, hd2, hd3⟩ := let_in k (by omega)
          exact absurd hd3 (HS.out (by omega) d hd2 hd1)
        · rw [if_neg hv])
      go_wp2
      go_ret
      exact ⟨by rw [HL.out]; rfl, HB.out⟩
end Go.Proofs.YtgjjmcgmdlfdaaaDoor.A
