/- The document's Right; a machine that came in. -/
import Derived.OpenShut
import Derived.Lib.LaidTab
import Derived.Test.YthkollnlmnbidaaBa
namespace Go.Proofs.Ythkollnlmnbidaa.A
open Go.RowKit Go.ChangeShapes Go.WideShapes Go.Deep
set_option linter.unusedVariables false
theorem open_ints' {H : Type} {enc : TypeId × Value → H} {W : World} {sp : Nat → Bool} {fuel : Nat} {v : Value} {x : DataW H × List MemPlace} (h : DataW.trod enc Try.prog W 0 sp true fuel 23 [v] = some x) :
    ∃ (a : Option Addr) (len cap : Nat) (zs : List Int), v = .slice a len cap ∧ Wd W a zs ∧ zs.length = len ∧ len ≤ maxLen := by
  have hv : ∃ a len cap, v = .slice a len cap := by
    rcases open_slice Try.underlying23 h with ⟨hcs, _⟩ | ⟨a', len', cap', m, n, D, Pl, hcs, _⟩
    · simp only [List.cons.injEq, and_true] at hcs
      exact ⟨_, _, _, hcs⟩
    · simp only [List.cons.injEq, and_true] at hcs
      exact ⟨_, _, _, hcs⟩
  obtain ⟨a, len, cap, rfl⟩ := hv
  obtain ⟨zs, h1, h2, h3, h4⟩ := open_words h
  exact ⟨a, len, cap, zs, rfl, h1, h2, by omega⟩
set_option maxRecDepth 100000 in
set_option maxHeartbeats 3200000 in
theorem rright_any7 (a0 a1 : Option Addr) (n0 n1 c0 c1 : Nat) (nx : List (List Int)) (ru : List Int) (w : World) (hm : Dm w a0 a1 n0 n1 nx ru) :
    Calls Try.prog 12 #[.agg #[.slice a0 n0 c0, .slice a1 n1 c1]] w fun e w' => e = .returned (.bool (rightD nx ru)) ∧ Below w.heap.size w w' := by
  have HX := hide (dtwo_new w (.slice a0 n0 c0) (.slice a1 n1 c1))
  have hb0 := (Below.refl w.heap.size w).alloc (Nat.le_refl _) (.cells #[.slice a0 n0 c0, .slice a1 n1 c1] 25)
  have HB0 := hide hb0
  have HM := hide (dm_below' hb0 hm)
  have HZ := hide (show w.heap.size < (w.alloc (.cells #[.slice a0 n0 c0, .slice a1 n1 c1] 25)).heap.size by simp)
  have hl0 := hm.m0
  have hl1 := hm.m1
  obtain ⟨p0, p1⟩ := HX.out
  unfold maxLen at hl0 hl1
  clear hb0 hm
  by_cases g0 : n1 < 1
  · have HE := hide (show rightD nx ru = false by
      by_cases h : rightD nx ru = true
      · have := right_open h; have h0 := HM.out.l1; have h1 := HM.out.l0; omega
      · simpa using h)
    have d0 : decide ((n1 : Int) < 1) = true := by simp; omega
    go_enter Try.func12, Try.ntmps12
    go_wp2
    go_ret
    exact ⟨by rw [HE.out]; rfl, HB0.out⟩
  have d0 : decide ((n1 : Int) < 1) = false := by simp; omega
  by_cases g1 : 200 < n1
  · have HE := hide (show rightD nx ru = false by
      by_cases h : rightD nx ru = true
      · have := right_open h; have h0 := HM.out.l1; have h1 := HM.out.l0; omega
      · simpa using h)
    have d1 : decide ((200 : Int) < (n1 : Int)) = true := by simp; omega
    go_enter Try.func12, Try.ntmps12
    go_wp2
    go_ret
    exact ⟨by rw [HE.out]; rfl, HB0.out⟩
  have d1 : decide ((200 : Int) < (n1 : Int)) = false := by simp; omega
  by_cases g2 : n0 ≠ n1
  · have HE := hide (show rightD nx ru = false by
      by_cases h : rightD nx ru = true
      · have := right_open h; have h0 := HM.out.l1; have h1 := HM.out.l0; omega
      · simpa using h)
    have d2 : ((n0 : Int) != (n1 : Int)) = true := by simp; omega
    have d3 : ((n0 : Int) == (n1 : Int)) = false := by simp; omega
    go_enter Try.func12, Try.ntmps12
    go_wp2
    go_ret
    exact ⟨by rw [HE.out]; rfl, HB0.out⟩
  obtain rfl : n0 = n1 := by omega
  go_enter Try.func12, Try.ntmps12
  go_wp2_with fail
  generalize w.alloc (.cells #[.slice a0 n0 c0, .slice a1 n0 c1] 25) = W0 at *
  generalize hB : w.heap.size = B at *
  go_loopw [4, 5] (fun i _ wr => ∃ k : Nat, k ≤ n0 ∧ i = .int .i64 k ∧ (∀ j, j < k → (okRule (ru.getD j 0) && okRow n0 (nx.getD j [])) = true) ∧ wr = W0) (fun i _ _ => n0 - (intOf i).toNat)
  case atStart => exact ⟨0, Nat.zero_le _, rfl, fun j hj => by omega, rfl⟩
  case round =>
    obtain ⟨k, hk, rfl, hok, rfl⟩ := hrel
    have HOK := hide hok
    clear hok
    by_cases hlt : k < n0
    · obtain ⟨row, hr⟩ : ∃ row, nx[k]? = some row := ⟨_, List.getElem?_eq_getElem (by rw [HM.out.l0]; exact hlt)⟩
      obtain ⟨r, hu⟩ : ∃ r, ru[k]? = some r := ⟨_, List.getElem?_eq_getElem (by rw [HM.out.l1]; exact hlt)⟩
      have hrl := (HM.out.dr k row hr).1
      obtain ⟨b2, o2, rfl, k2⟩ := HM.out.wd k r hu
      have i3 : (0 : Int) ≤ (k : Int) := by omega
      have i4 : (k : Int) < (n0 : Int) := by omega
      have HHR := hide hr
      have HHU := hide hu
      have HRL := hide hrl
      clear hr hu hrl
      by_cases r0 : r < -1
      · have d2 : decide (r < -1) = true := by simp [r0]
        have HE := hide (right_stop HHR.out HHU.out (by unfold okRule; rw [show decide (-1 ≤ r) = false by simp; omega]; rfl))
        go_wp2
        go_ret
        exact ⟨by rw [HE.out]; rfl, hB ▸ HB0.out⟩
      have d2 : decide (r < -1) = false := by simp; omega
      by_cases r1 : 15 < r
      · have d3 : decide (15 < r) = true := by simp [r1]
        have HE := hide (right_stop HHR.out HHU.out (by unfold okRule; rw [show decide (r ≤ 15) = false by simp; omega]; simp))
        go_wp2
        go_ret
        exact ⟨by rw [HE.out]; rfl, hB ▸ HB0.out⟩
      have d3 : decide (15 < r) = false := by simp; omega
      have HOKR := hide (show okRule r = true by unfold okRule; rw [Bool.and_eq_true, decide_eq_true_eq, decide_eq_true_eq]; omega)
      go_wp2_with fail
      clear k2
      go_loopw [5] (fun i wi => ∃ j : Nat, j ≤ 16 ∧ i = .int .i64 j ∧ (∀ m, m < j → -1 ≤ row.getD m 0 ∧ row.getD m 0 < (n0 : Int)) ∧ wi = wr) (fun i _ => 16 - (intOf i).toNat)
      case atStart => exact ⟨0, by omega, rfl, fun m hm => by omega, rfl⟩
      case round =>
        obtain ⟨j, hj, rfl, hin, rfl⟩ := hrel
        have HIN := hide hin
        clear hin
        by_cases hjt : j < 16
        · obtain ⟨z, hz⟩ : ∃ z, row[j]? = some z := ⟨_, List.getElem?_eq_getElem (by rw [HRL.out]; exact hjt)⟩
          obtain ⟨b, off, rfl, k0⟩ := dr_cell HM.out.dr HHR.out hz
          have i5 : (0 : Int) ≤ (j : Int) := by omega
          have i6 : (j : Int) < 16 := by omega
          by_cases z0 : z < -1
          · have d5 : decide (z < -1) = true := by simp [z0]
            have HE := hide (right_stop HHR.out HHU.out (by rw [row_bad (n := nx.length) hz (.inl z0)]; simp))
            clear hz
            go_wp2
            go_ret
            exact ⟨by rw [HE.out]; rfl, hB ▸ HB0.out⟩
          have d5 : decide (z < -1) = false := by simp; omega
          by_cases z1 : (n0 : Int) ≤ z
          · have d6 : decide ((n0 : Int) ≤ z) = true := by simp [z1]
            have HE := hide (right_stop HHR.out HHU.out (by rw [row_bad (n := nx.length) hz (.inr (by rw [HM.out.l0]; exact z1))]; simp))
            clear hz
            go_wp2
            go_ret
            exact ⟨by rw [HE.out]; rfl, hB ▸ HB0.out⟩
          have d6 : decide ((n0 : Int) ≤ z) = false := by simp; omega
          have HZZ := hide hz
          clear hz
          go_wp2
          go_roundw
          case rel => exact ⟨j + 1, by omega, by go_num, fun m hm => by
            by_cases e : m = j
            · subst e; rw [List.getD_eq_getElem?_getD, HZZ.out]; exact ⟨by simp; omega, by simp; omega⟩
            · exact HIN.out m (by omega), trivial⟩
          case measure => simp [intOf]; omega
        · have e : j = 16 := by omega
          subst e
          go_wp2
          refine ⟨⟨k + 1, by omega, by go_num, fun m hm => ?_, trivial⟩, ?_⟩
          · by_cases e : m = k
            · subst e
              rw [List.getD_eq_getElem?_getD, List.getD_eq_getElem?_getD, HHU.out, HHR.out, Option.getD_some, Option.getD_some, HOKR.out, Bool.true_and]
              unfold okRow
              rw [List.all_eq_true]
              intro z hz
              obtain ⟨i, hi, e⟩ := List.getElem_of_mem hz
              have := HIN.out i (by rw [HRL.out] at hi; exact hi)
              rw [List.getD_eq_getElem?_getD, List.getElem?_eq_getElem hi, e, Option.getD_some] at this
              simp; omega
            · exact HOK.out m (by omega)
          · simp [intOf]; omega
    · have e : k = n0 := by omega
      subst e
      have HE := hide (show rightD nx ru = true from by
        unfold rightD
        simp only [Bool.and_eq_true, decide_eq_true_eq, List.all_eq_true, List.mem_range]
        exact ⟨by rw [HM.out.l0]; omega, by rw [HM.out.l0]; omega, by rw [HM.out.l0, HM.out.l1], fun i hi => by have := HOK.out i (by rw [HM.out.l0] at hi; exact hi); rw [Bool.and_eq_true] at this; rw [HM.out.l0]; exact this⟩)
      go_wp2
      go_ret
      exact ⟨by rw [HE.out]; rfl, hB ▸ HB0.out⟩

theorem cells22 : Try.prog.cellsOf 22 = 1 := by kernel_rfl
theorem cells23 : Try.prog.cellsOf 23 = 1 := by kernel_rfl
theorem cells25 : Try.prog.cellsOf 25 = 2 := by kernel_rfl
theorem arr16 {H : Type} {enc : TypeId × Value → H} {W : World} {base : Nat} {sp : Nat → Bool} {held : Bool} {fuel : Nat} {cs : List Value} {x : DataW H × List MemPlace}
    (h : DataW.trod enc Try.prog W base sp held fuel 41 cs = some x) : cs.length = 16 ∧ ∀ i, i < 16 → ∃ z : Int, cs[i]? = some (.int .i64 z) := by
  cases fuel with
  | zero => simp [DataW.trod] at h
  | succ fuel =>
    simp only [DataW.trod, Try.underlying41, cells3, cells41, Nat.mul_one] at h
    split at h
    · rename_i hl
      obtain ⟨xs, hm, hx⟩ := Option.map_eq_some_iff.1 h
      refine ⟨hl, fun i hi => ?_⟩
      obtain ⟨b, hb, hf⟩ := Lib.mapM_at hm i i (by simp [hi])
      obtain ⟨z, hc, _, _⟩ := DataW.trod_int Try.underlying3 hf
      refine ⟨z, ?_⟩
      have := congrArg (·[0]?) hc
      simpa [List.getElem?_take, List.getElem?_drop] using this
    · cases h
theorem rows_of {W : World} {b off n : Nat} (h : ∀ i, i < n → ∀ j, j < 16 → ∃ z : Int, W.cell? ⟨b, off + i * 16 + j, none⟩ = some (.int .i64 z)) : ∃ nx : List (List Int), nx.length = n ∧ Dr W (some ⟨b, off, none⟩) nx := by
  obtain ⟨q, hq⟩ := choose_lt (p := fun i (g : Nat → Int) => ∀ j, j < 16 → W.cell? ⟨b, off + i * 16 + j, none⟩ = some (.int .i64 (g j))) (fun i hi => by
    obtain ⟨g, hg⟩ := choose_lt (h i hi)
    exact ⟨g, hg⟩)
  refine ⟨(List.range n).map fun i => (List.range 16).map fun j => q i j, by simp, fun i row hr => ?_⟩
  have hi : i < n := by have := (List.getElem?_eq_some_iff.1 hr).1; simpa using this
  simp only [List.getElem?_map, List.getElem?_range hi, Option.map_some, Option.some.injEq] at hr
  subst hr
  refine ⟨by simp, b, off, rfl, fun j v hj => ?_⟩
  have hj16 : j < 16 := by have := (List.getElem?_eq_some_iff.1 hj).1; simpa [cI] using this
  simp only [cI, List.getElem?_map, List.getElem?_range hj16, Option.map_some, Option.some.injEq] at hj
  subst hj
  exact hq i hi j hj16
theorem open_rows {H : Type} {enc : TypeId × Value → H} {W : World} {sp : Nat → Bool} {fuel : Nat} {v : Value} {x : DataW H × List MemPlace} (h : DataW.trod enc Try.prog W 0 sp true fuel 22 [v] = some x) :
    ∃ (a : Option Addr) (len cap : Nat) (nx : List (List Int)), v = .slice a len cap ∧ Dr W a nx ∧ nx.length = len ∧ len ≤ maxLen := by
  rcases open_slice Try.underlying22 h with ⟨hcs, _⟩ | ⟨a', len', cap', m, n, D, Pl, hcs, _, hl, hm, hmm, _, hx⟩
  · simp only [List.cons.injEq, and_true] at hcs
    subst hcs
    exact ⟨none, 0, 0, [], rfl, fun i c hc => by simp at hc, rfl, by unfold maxLen; omega⟩
  · simp only [List.cons.injEq, and_true] at hcs
    subst hcs
    have hlm : len' ≤ m := by rw [hmm]; split <;> omega
    rcases Nat.eq_zero_or_pos len' with h0 | h0
    · subst h0
      exact ⟨_, 0, cap', [], rfl, fun i c hc => by simp at hc, rfl, by omega⟩
    have each : ∀ i, i < len' → ∀ j, j < 16 → ∃ z : Int, W.cell? (a'.add (i * 16 + j)) = some (.int .i64 z) := by
      intro i hi j hj
      obtain ⟨cs', h1, h2⟩ := hx i (by omega)
      rw [cells41] at h1
      obtain ⟨_, hlen, hcell⟩ := World.cells?_some h1
      obtain ⟨z, hz⟩ := (arr16 h2).2 j hj
      have c0 := hcell j (by omega)
      rw [add_add, hz] at c0
      exact ⟨z, c0⟩
    obtain ⟨b, off, spot⟩ := a'
    have hspot : spot = none := by
      obtain ⟨z, hz⟩ := each 0 h0 0 (by omega)
      simpa [Addr.add] using World.cell?_spot hz
    subst hspot
    obtain ⟨nx, h1, h2⟩ := rows_of (W := W) (b := b) (off := off) (n := len') (fun i hi j hj => by
      have := each i hi j hj
      rw [add_at, ← Nat.add_assoc] at this
      exact this)
    exact ⟨_, len', cap', nx, rfl, h2, h1, by omega⟩
set_option maxRecDepth 100000 in
theorem okWide_dfa {W : World} {base : Nat} {v : Value} (h : Value.okWide Try.prog W .any base 25 v) : ∃ cs, v = .agg cs := by
  unfold Value.okWide at h
  rw [Try.underlying25] at h
  obtain ⟨cs, rfl, _⟩ := h
  exact ⟨cs, rfl⟩
set_option maxRecDepth 100000 in
theorem open_dfa {H : Type} {enc : TypeId × Value → H} {W : World} {sp : Nat → Bool} {fuel : Nat} {cs : Array Value} {x : DataW H × List MemPlace} (h : DataW.trod enc Try.prog W 0 sp true fuel 25 (Value.agg cs).cells.toList = some x) :
    ∃ (a0 a1 : Option Addr) (n0 n1 c0 c1 : Nat) (nx : List (List Int)) (ru : List Int), cs = #[.slice a0 n0 c0, .slice a1 n1 c1] ∧ Dm W a0 a1 n0 n1 nx ru := by
  have h' : DataW.trod enc Try.prog W 0 sp true fuel 25 cs.toList = some x := h
  obtain ⟨xs, n, hfuel, _, hlen, hxs, hf⟩ := DataW.trod_struct Try.underlying25 h'
  rw [cells25] at hlen
  obtain ⟨l⟩ := cs
  simp only at hlen hf
  match l, hlen with
  | [d0, d1], _ =>
    have u0 : DataW.trod enc Try.prog W 0 sp true n 22 [d0] = xs[0]? := by
      have this : DataW.trod enc Try.prog W 0 sp true n 22 (List.take (Try.prog.cellsOf 22) (List.drop 0 [d0, d1])) = xs[0]? := hf 0 _ rfl
      rw [cells22] at this
      exact this
    have u1 : DataW.trod enc Try.prog W 0 sp true n 23 [d1] = xs[1]? := by
      have this : DataW.trod enc Try.prog W 0 sp true n 23 (List.take (Try.prog.cellsOf 23) (List.drop 1 [d0, d1])) = xs[1]? := hf 1 _ rfl
      rw [cells23] at this
      exact this
    have hxs2 : xs.length = 2 := hxs
    match xs, hxs2 with
    | [y0, y1], _ =>
      simp only [List.getElem?_cons_zero, List.getElem?_cons_succ] at u0 u1
      obtain ⟨a0, l0, c0, nx, rfl, f1, f2, f3⟩ := open_rows u0
      obtain ⟨a1, l1, c1, ru, rfl, r1, r2, r3⟩ := open_ints' u1
      exact ⟨a0, a1, l0, l1, c0, c1, nx, ru, rfl, ⟨f2, r2, f1, r1, f3, r3⟩⟩
end Go.Proofs.Ythkollnlmnbidaa.A
