/- What a machine that may be is; the least rule of a list of states; what is come to, once and for all. -/
import Derived.Test.YtccaknabpnpjaaaGreatDoorPk11
import Derived.Test.YtccaknabpnpjaaaGreatDoorPk9
import Derived.Deep.Heap
namespace Go.Proofs.YtccaknabpnpjaaaGreatDoor.A
open Go.RowKit

/-- A machine that may be. -/
structure Mach (fs : List (List Int)) (ss : List Nat) (ts rs : List Int) (N : Nat) : Prop where
  lf : fs.length = N
  ls : ss.length = N
  lt : ts.length = N
  lr : rs.length = N
  pos : 1 ≤ N
  most : N ≤ 3300
  free : ∀ (i : Nat) (l : List Int), fs[i]? = some l → ∀ z ∈ l, 0 ≤ z ∧ z < (N : Int)
  to : ∀ (i s : Nat) (t : Int), ss[i]? = some s → ts[i]? = some t → 0 < s → 0 ≤ t ∧ t < N
  rule : ∀ (i : Nat) (r : Int), rs[i]? = some r → -1 ≤ r ∧ r ≤ 15
theorem right_mach {fs : List (List Int)} {ss : List Nat} {ts rs : List Int} (h : rightN fs ss ts rs = true) : Mach fs ss ts rs fs.length := by
  unfold rightN at h
  simp only [Bool.and_eq_true, decide_eq_true_eq, List.all_eq_true, List.mem_range] at h
  obtain ⟨h1, h2, h3, h4, h5, h6⟩ := h
  have key : ∀ i, i < fs.length → ∃ r s t l, rs[i]? = some r ∧ ss[i]? = some s ∧ ts[i]? = some t ∧ fs[i]? = some l ∧ okS fs.length r s t l = true := fun i hi =>
    ⟨_, _, _, _, List.getElem?_eq_getElem (by omega), List.getElem?_eq_getElem (by omega), List.getElem?_eq_getElem (by omega), List.getElem?_eq_getElem hi, by
      rw [← okSt_at (List.getElem?_eq_getElem (by omega)) (List.getElem?_eq_getElem (by omega)) (List.getElem?_eq_getElem (by omega)) (List.getElem?_eq_getElem hi)]; exact h6 i hi⟩
  have ok : ∀ {r : Int} {s : Nat} {t : Int} {l : List Int}, okS fs.length r s t l = true → -1 ≤ r ∧ r ≤ 15 ∧ (s = 0 ∨ (0 ≤ t ∧ t < fs.length)) ∧ ∀ z ∈ l, 0 ≤ z ∧ z < (fs.length : Int) := fun {r s t l} h => by
    unfold okS at h
    simp only [Bool.and_eq_true, Bool.or_eq_true, decide_eq_true_eq, List.all_eq_true, beq_iff_eq] at h
    exact ⟨h.1, h.2.1, h.2.2.1, h.2.2.2⟩
  refine ⟨rfl, h3, h4, h5, h1, h2, fun i l hl z hz => ?_, fun i s t hs ht hp => ?_, fun i r hr => ?_⟩
  · obtain ⟨r, s, t, l', _, _, _, e, o⟩ := key i (List.getElem?_eq_some_iff.1 hl).1
    rw [hl] at e; cases e
    exact (ok o).2.2.2 z hz
  · obtain ⟨r, s', t', l', _, e1, e2, _, o⟩ := key i (by rw [← h3]; exact (List.getElem?_eq_some_iff.1 hs).1)
    rw [hs] at e1; rw [ht] at e2; cases e1; cases e2
    rcases (ok o).2.2.1 with e | e
    · omega
    · exact e
  · obtain ⟨r', s', t', l', e, _, _, _, o⟩ := key i (by rw [← h5]; exact (List.getElem?_eq_some_iff.1 hr).1)
    rw [hr] at e; cases e
    exact ⟨(ok o).1, (ok o).2.1⟩
theorem mach_right {fs : List (List Int)} {ss : List Nat} {ts rs : List Int} {N : Nat} (h : Mach fs ss ts rs N) : rightN fs ss ts rs = true := by
  obtain ⟨lf, ls, lt, lr, h1, h2, h3, h4, h5⟩ := h
  subst lf
  refine right_yes h1 h2 ls lt lr (fun i hi => ?_)
  have e1 : rs[i]? = some rs[i] := List.getElem?_eq_getElem (by omega)
  have e2 : ss[i]? = some ss[i] := List.getElem?_eq_getElem (by omega)
  have e3 : ts[i]? = some ts[i] := List.getElem?_eq_getElem (by omega)
  have e4 : fs[i]? = some fs[i] := List.getElem?_eq_getElem hi
  rw [okSt_at e1 e2 e3 e4]
  unfold okS
  simp only [Bool.and_eq_true, Bool.or_eq_true, decide_eq_true_eq, List.all_eq_true, beq_iff_eq]
  refine ⟨(h5 i _ e1).1, (h5 i _ e1).2, ?_, h3 i _ e4⟩
  by_cases z : ss[i] = 0
  · exact .inl z
  · exact .inr (h4 i _ _ e2 e3 (by omega))

theorem lst_mem (g : Nat → Bool) (N : Nat) (z : Int) : z ∈ lstL g N ↔ ∃ j : Nat, z = j ∧ j < N ∧ g j = true := by
  unfold lstL
  simp only [List.mem_map, List.mem_filter, List.mem_range]
  constructor
  · rintro ⟨j, ⟨h1, h2⟩, e⟩; exact ⟨j, e.symm, h1, h2⟩
  · rintro ⟨j, e, h1, h2⟩; exact ⟨j, ⟨h1, h2⟩, e.symm⟩
theorem tbl_lst (g : Nat → Bool) (N j : Nat) (hj : j < N) : tblB (lstL g N) (lstL g N).length j = g j := by
  rw [Bool.eq_iff_iff, tbl_mem, lst_mem]
  constructor
  · rintro ⟨i, e, _, h⟩; have : j = i := by omega
    subst this; exact h
  · intro h; exact ⟨j, rfl, hj, h⟩
theorem lst_congr {g h : Nat → Bool} {N : Nat} (e : ∀ j, j < N → g j = h j) : lstL g N = lstL h N := by
  unfold lstL
  congr 1
  exact List.filter_congr (fun j hj => e j (by simpa using hj))
theorem lst_nil {g : Nat → Bool} {N : Nat} (h : (lstL g N).length = 0) (j : Nat) (hj : j < N) : g j = false := by
  rw [Bool.eq_false_iff]
  intro e
  have : (j : Int) ∈ lstL g N := (lst_mem g N _).2 ⟨j, rfl, hj, e⟩
  rw [List.eq_nil_of_length_eq_zero h] at this
  cases this

theorem least_spec (p : Int → Bool) : ∀ (m : Nat) (r : Int), (leastR p m r = -1 ∧ ∀ j : Nat, j < m → p (r + j) = false) ∨ ∃ j : Nat, j < m ∧ leastR p m r = r + j ∧ p (r + j) = true ∧ ∀ i : Nat, i < j → p (r + i) = false
  | 0, r => .inl ⟨rfl, fun j hj => by omega⟩
  | m + 1, r => by
    unfold leastR
    cases hp : p r
    · rw [if_neg (by simp)]
      rcases least_spec p m (r + 1) with ⟨h1, h2⟩ | ⟨j, h1, h2, h3, h4⟩
      · refine .inl ⟨h1, fun j hj => ?_⟩
        cases j with
        | zero => simpa using hp
        | succ j => have := h2 j (by omega); rw [show r + ((j + 1 : Nat) : Int) = r + 1 + (j : Int) by omega]; exact this
      · refine .inr ⟨j + 1, by omega, by rw [h2]; omega, by rw [show r + ((j + 1 : Nat) : Int) = r + 1 + (j : Int) by omega]; exact h3, fun i hi => ?_⟩
        cases i with
        | zero => simpa using hp
        | succ i => have := h4 i (by omega); rw [show r + ((i + 1 : Nat) : Int) = r + 1 + (i : Int) by omega]; exact this
    · rw [if_pos rfl]
      exact .inr ⟨0, by omega, by omega, by simpa using hp, fun i hi => by omega⟩
theorem at_iff (rs : List Int) (o : Nat → Bool) (r : Int) (N : Nat) : atB rs o r N = true ↔ ∃ i, i < N ∧ o i = true ∧ rs[i]? = some r := by
  unfold atB
  rw [List.any_eq_true]
  constructor
  · rintro ⟨i, hi, h⟩
    rw [Bool.and_eq_true, beq_iff_eq] at h
    exact ⟨i, by simpa using hi, h.1, h.2⟩
  · rintro ⟨i, hi, h1, h2⟩
    exact ⟨i, by simpa using hi, by rw [Bool.and_eq_true, beq_iff_eq]; exact ⟨h1, h2⟩⟩
/-- The least rule, told otherwise. -/
def IsLeast (rs : List Int) (P : Nat → Prop) (m : Int) : Prop := (m = -1 ∧ ∀ i r, P i → rs[i]? = some r → r = -1) ∨ (0 ≤ m ∧ (∃ i, P i ∧ rs[i]? = some m) ∧ ∀ i r, P i → rs[i]? = some r → r = -1 ∨ m ≤ r)
theorem isLeast_one {rs : List Int} {P : Nat → Prop} {m m' : Int} (h : IsLeast rs P m) (h' : IsLeast rs P m') : m = m' := by
  rcases h with ⟨h1, h2⟩ | ⟨h1, ⟨i, hi, hr⟩, h3⟩
  · rcases h' with ⟨k1, k2⟩ | ⟨k1, ⟨i, hi, hr⟩, k3⟩
    · omega
    · have := h2 i _ hi hr; omega
  · rcases h' with ⟨k1, k2⟩ | ⟨k1, ⟨i', hi', hr'⟩, k3⟩
    · have := k2 i _ hi hr; omega
    · rcases h3 i' _ hi' hr' with e | e
      · omega
      · rcases k3 i _ hi hr with e' | e' <;> omega
theorem endR_is {rs : List Int} {o : Nat → Bool} {N : Nat} (hr : ∀ (i : Nat) (r : Int), rs[i]? = some r → -1 ≤ r ∧ r ≤ 15) : IsLeast rs (fun i => i < N ∧ o i = true) (endR rs o N) := by
  unfold endR
  rcases least_spec (fun r => atB rs o r N) 16 0 with ⟨h1, h2⟩ | ⟨j, h1, h2, h3, h4⟩
  · refine .inl ⟨h1, fun i r ⟨hi, ho⟩ e => ?_⟩
    have b := hr i r e
    rcases Int.lt_or_le r 0 with q | q
    · omega
    · have := h2 r.toNat (by omega)
      rw [show (0 : Int) + (r.toNat : Int) = r by omega] at this
      have k := (at_iff rs o r N).2 ⟨i, hi, ho, e⟩
      rw [this] at k; cases k
  · right
    rw [h2]
    obtain ⟨i, hi, ho, e⟩ := (at_iff _ _ _ _).1 h3
    refine ⟨by omega, ⟨i, ⟨hi, ho⟩, e⟩, fun i' r ⟨hi', ho'⟩ e' => ?_⟩
    have b := hr i' r e'
    rcases Int.lt_or_le r 0 with q | q
    · left; omega
    · right
      rcases Int.lt_or_le r (0 + (j : Int)) with q' | q'
      · have := h4 r.toNat (by omega)
        rw [show (0 : Int) + (r.toNat : Int) = r by omega] at this
        have k := (at_iff rs o r N).2 ⟨i', hi', ho', e'⟩
        rw [this] at k; cases k
      · exact q'
theorem lstR_is {rs : List Int} {N : Nat} (hl : rs.length = N) (hr : ∀ (i : Nat) (r : Int), rs[i]? = some r → -1 ≤ r ∧ r ≤ 15) (zs : List Int) (hz : ∀ z ∈ zs, 0 ≤ z ∧ z < (N : Int)) : ∀ k, k ≤ zs.length → IsLeast rs (fun i => (i : Int) ∈ zs.take k) (lstR rs (zs.take k))
  | 0, _ => .inl ⟨rfl, fun i r h _ => by cases h⟩
  | k + 1, hk => by
    have ih := lstR_is hl hr zs hz k (by omega)
    have e : zs[k]? = some zs[k] := List.getElem?_eq_getElem (by omega)
    have hzk := hz _ (List.mem_of_getElem? e)
    rw [lstR_step e]
    generalize zs[k] = z at *
    obtain ⟨y, rfl⟩ : ∃ y : Nat, z = y := ⟨z.toNat, by omega⟩
    obtain ⟨r, er⟩ : ∃ r, rs[y]? = some r := ⟨_, List.getElem?_eq_getElem (by rw [hl]; omega)⟩
    have er' : rs[(y : Int).toNat]? = some r := er
    have mem : ∀ i : Nat, ((i : Int) ∈ zs.take (k + 1)) ↔ ((i : Int) ∈ zs.take k ∨ i = y) := fun i => by
      rw [take_at e, List.mem_append, List.mem_singleton]
      exact ⟨fun h => h.imp id (fun h => by omega), fun h => h.imp id (fun h => by omega)⟩
    have hb := hr y r er
    generalize lstR rs (zs.take k) = m at *
    by_cases c : r ≠ -1 ∧ (m = -1 ∨ r < m)
    · rw [lst1_yes er' c]
      refine .inr ⟨by omega, ⟨y, (mem y).2 (.inr rfl), er⟩, fun i r' hi hr' => ?_⟩
      rcases (mem i).1 hi with hi | rfl
      · rcases ih with ⟨h1, h2⟩ | ⟨h1, h2, h3⟩
        · exact .inl (h2 i r' hi hr')
        · rcases h3 i r' hi hr' with q | q
          · exact .inl q
          · right; rcases c.2 with c | c <;> omega
      · rw [er] at hr'; cases hr'; right; omega
    · rw [lst1_no er' c]
      rcases ih with ⟨h1, h2⟩ | ⟨h1, ⟨i0, hi0, e0⟩, h3⟩
      · refine .inl ⟨h1, fun i r' hi hr' => ?_⟩
        rcases (mem i).1 hi with hi | rfl
        · exact h2 i r' hi hr'
        · rw [er] at hr'; cases hr'
          by_cases q : r = -1
          · exact q
          · exact absurd ⟨q, .inl h1⟩ c
      · refine .inr ⟨h1, ⟨i0, (mem i0).2 (.inl hi0), e0⟩, fun i r' hi hr' => ?_⟩
        rcases (mem i).1 hi with hi | rfl
        · exact h3 i r' hi hr'
        · rw [er] at hr'; cases hr'
          by_cases q : r = -1
          · exact .inl q
          · right
            rcases Int.lt_or_le r m with q' | q'
            · exact absurd ⟨q, .inr q'⟩ c
            · exact q'
theorem least_same {rs : List Int} {N : Nat} {g : Nat → Bool} (hl : rs.length = N) (hr : ∀ (i : Nat) (r : Int), rs[i]? = some r → -1 ≤ r ∧ r ≤ 15) : lstR rs (lstL g N) = endR rs g N := by
  have h := lstR_is hl hr (lstL g N) (fun z hz => by obtain ⟨j, e, hj, _⟩ := (lst_mem g N z).1 hz; omega) (lstL g N).length (Nat.le_refl _)
  rw [List.take_length] at h
  refine isLeast_one h ?_
  have h2 := endR_is (o := g) (N := N) hr
  have mem : ∀ i : Nat, ((i : Int) ∈ lstL g N) ↔ (i < N ∧ g i = true) := fun i => by
    rw [lst_mem]
    constructor
    · rintro ⟨j, e, h1, h2⟩; have : i = j := by omega
      subst this; exact ⟨h1, h2⟩
    · rintro ⟨h1, h2⟩; exact ⟨i, rfl, h1, h2⟩
  rcases h2 with ⟨h1, h2⟩ | ⟨h1, ⟨i, hi, e⟩, h3⟩
  · exact .inl ⟨h1, fun i r hi => h2 i r ((mem i).1 hi)⟩
  · exact .inr ⟨h1, ⟨i, (mem i).2 hi, e⟩, fun i r hi => h3 i r ((mem i).1 hi)⟩
theorem endR_congr {rs : List Int} {g h : Nat → Bool} {N : Nat} (e : ∀ j, j < N → g j = h j) : endR rs g N = endR rs h N := by
  unfold endR
  have : (fun r => atB rs g r N) = fun r => atB rs h r N := by
    funext r
    rw [Bool.eq_iff_iff, at_iff, at_iff]
    constructor
    · rintro ⟨i, hi, ho, k⟩; exact ⟨i, hi, by rw [← e i hi]; exact ho, k⟩
    · rintro ⟨i, hi, ho, k⟩; exact ⟨i, hi, by rw [e i hi]; exact ho, k⟩
  rw [this]
theorem stp_congr {ss : List Nat} {ts : List Int} {c : Int} {o o' : Nat → Bool} {N : Nat} (e : ∀ j, j < N → o j = o' j) (j : Nat) : stpB ss ts c o N j = stpB ss ts c o' N j := by
  rw [Bool.eq_iff_iff, stpB_iff, stpB_iff]
  constructor
  · rintro ⟨i, s, hi, ho, h⟩; exact ⟨i, s, hi, by rw [← e i hi]; exact ho, h⟩
  · rintro ⟨i, s, hi, ho, h⟩; exact ⟨i, s, hi, by rw [e i hi]; exact ho, h⟩
theorem run_one {fs : List (List Int)} {ss : List Nat} {ts : List Int} {N : Nat} {word : List Int} : ∀ (k : Nat) (g g' : Nat → Bool), IsRun fs ss ts N word k g → IsRun fs ss ts N word k g' → ∀ j, j < N → g j = g' j
  | 0, _, _, h, h' => isCl_one h h'
  | k + 1, _, _, ⟨f, hf, h⟩, ⟨f', hf', h'⟩ => isCl_one h (isCl_congr (fun j _ => stp_congr (fun i hi => (run_one k f f' hf hf' i hi).symm) j) h')
theorem run_stop {fs : List (List Int)} {ss : List Nat} {ts : List Int} {N : Nat} {word : List Int} {k : Nat} {g : Nat → Bool} (h : IsRun fs ss ts N word k g) (h0 : ∀ j, j < N → g j = false) : ∀ m, ∃ g', IsRun fs ss ts N word (k + m) g' ∧ ∀ j, j < N → g' j = false
  | 0 => ⟨g, h, h0⟩
  | m + 1 => by
    obtain ⟨f, hf, f0⟩ := run_stop h h0 m
    have none : ∀ j, ¬ Rch fs N (stpB ss ts (word.getD (k + m) 0) f N) j := fun j e => by
      induction e with
      | here hn e =>
        obtain ⟨i, s, hi, ho, _⟩ := (stpB_iff _ _ _ _ _ _).1 e
        rw [f0 i hi] at ho; cases ho
      | on _ _ _ ih => exact ih
    exact ⟨fun _ => false, ⟨f, hf, fun j _ => Iff.intro (fun e => absurd e (by simp)) (fun e => (none j e).elim)⟩, fun _ _ => rfl⟩

end Go.Proofs.YtccaknabpnpjaaaGreatDoor.A

/- Ahead of layer 6: a row of numbers at a value, and 'into' upon it. -/
namespace Go.Proofs.YtccaknabpnpjaaaGreatDoor.A
open Go.RowKit

/-- Numbers at a slice, nil or not. -/
def Row (w : World) (base : Nat) (v : Value) (l : List Int) : Prop := (v = .slice none 0 0 ∧ l = []) ∨ ∃ b off cap, base ≤ b ∧ v = .slice (some ⟨b, off, none⟩) l.length cap ∧ l.length ≤ cap ∧ Wd w (some ⟨b, off, none⟩) l
theorem row_below {w w' : World} {base : Nat} {v : Value} {l : List Int} (hb : Below w.heap.size w w') (h : Row w base v l) : Row w' base v l := by
  rcases h with h | ⟨b, off, cap, h0, h1, h2, h3⟩
  · exact .inl h
  · exact .inr ⟨b, off, cap, h0, h1, h2, wd_below hb h3⟩
theorem row_base {w : World} {base base' : Nat} {v : Value} {l : List Int} (hb : base' ≤ base) (h : Row w base v l) : Row w base' v l := by
  rcases h with h | ⟨b, off, cap, h0, h1, h2, h3⟩
  · exact .inl h
  · exact .inr ⟨b, off, cap, by omega, h1, h2, h3⟩
/-- What is written below its base leaves a row as it is. -/
theorem row_set {w : World} {base B i : Nat} {v u : Value} {l : List Int} (hB : B < base) (h : Row w base v l) : Row (w.setCell ⟨B, i, none⟩ u) base v l := by
  rcases h with h | ⟨b, off, cap, h0, h1, h2, h3⟩
  · exact .inl h
  · refine .inr ⟨b, off, cap, h0, h1, h2, fun j c hc => ?_⟩
    obtain ⟨b', off', e, k⟩ := h3 j c hc
    refine ⟨b', off', e, ?_⟩
    have hb' : b' = b := by simp only [Option.some.injEq, Addr.mk.injEq] at e; exact e.1.symm
    rw [← k]
    unfold World.cell?
    rw [Go.Deep.blk_setCell_other _ _ _ _ (show b' ≠ B by omega)]
theorem own_row {w : World} {base : Nat} {v : Value} {l : List Int} (h : w.ownsRow base 3 1 v l.length (l.map (Value.int .i64))) : Row w base v l := by
  obtain ⟨_, h | ⟨g, cap, cur, h1, h2, h3, h4, _, _, h7⟩⟩ := h
  · exact .inl ⟨h.1, List.eq_nil_of_length_eq_zero h.2⟩
  · refine .inr ⟨g, 0, cap, h2, h1, h4, fun i c hc => ⟨g, 0, rfl, ?_⟩⟩
    rw [cell_of_row _ _ (0 + i) _ _ _ h3, Nat.zero_add, ← Array.getElem?_toList]
    have hlt := (List.getElem?_eq_some_iff.1 hc).1
    have e : (cur.toList.take (l.length * 1))[i]? = (l.map (Value.int .i64))[i]? := by rw [h7]
    rw [List.getElem?_take_of_lt (by omega), List.getElem?_map, hc] at e
    exact e
theorem into_row (base : Nat) (v : Value) (l : List Int) (x : Int) (w : World) (hl : l.length ≤ 10000) (h : Row w base v l) :
    Calls Tryz.prog 49 #[v, .int .i64 x] w fun e w' => ∃ v', e = .returned v' ∧ Row w' w.heap.size v' (intoL l x) ∧ Below w.heap.size w w' := by
  rcases h with ⟨rfl, rfl⟩ | ⟨b, off, cap, _, rfl, h2, h3⟩
  · refine (into_nil x w).mono ?_
    rintro e w' ⟨v', rfl, ho, hb⟩
    exact ⟨v', rfl, own_row (l := [x]) ho, hb⟩
  · refine (into_some b off l.length cap l x w rfl hl h2 h3).mono ?_
    rintro e w' ⟨v', rfl, ho, hb⟩
    exact ⟨v', rfl, own_row ho, hb⟩

end Go.Proofs.YtccaknabpnpjaaaGreatDoor.A

/- The program's Close, Step, Match. -/
namespace Go.Proofs.YtccaknabpnpjaaaGreatDoor.A
open Go.RowKit

/-- A machine in memory. -/
structure Nm (w : World) (a0 a1 a2 a3 : Option Addr) (fs : List (List Int)) (ss : List Nat) (ts rs : List Int) : Prop where
  len : ∀ (i : Nat) (l : List Int), fs[i]? = some l → l.length ≤ maxLen
  free : Fs w a0 fs
  set : Sts w a1 ss
  to : Wd w a2 ts
  rule : Wd w a3 rs
theorem nm_below {w w' : World} {a0 a1 a2 a3 : Option Addr} {fs : List (List Int)} {ss : List Nat} {ts rs : List Int} (hb : Below w.heap.size w w') (h : Nm w a0 a1 a2 a3 fs ss ts rs) : Nm w' a0 a1 a2 a3 fs ss ts rs :=
  ⟨h.len, fs_below hb h.free, sts_below hb h.set, wd_below hb h.to, wd_below hb h.rule⟩
/-- A row of one's own, as a slice that can be read. -/
theorem own_slice {w : World} {base : Nat} {v : Value} {l : List Int} (h : w.ownsRow base 3 1 v l.length (l.map (Value.int .i64))) : ∃ a cap, v = .slice a l.length cap ∧ Wd w a l := by
  rcases own_row h with ⟨rfl, rfl⟩ | ⟨b, off, cap, _, rfl, _, hw⟩
  · exact ⟨none, 0, rfl, fun i c hc => by simp at hc⟩
  · exact ⟨_, _, rfl, hw⟩

set_option maxHeartbeats 1600000 in
theorem pclose_no (a0 a1 a2 a3 : Option Addr) (n0 n1 n2 n3 c0 c1 c2 c3 : Nat) (fs : List (List Int)) (ss : List Nat) (ts rs : List Int) (v : Value) (w : World) (h0 : fs.length = n0) (h1 : ss.length = n1) (h2 : ts.length = n2) (h3 : rs.length = n3) (hn : Nm w a0 a1 a2 a3 fs ss ts rs) (hr : rightN fs ss ts rs = false) :
    Calls Tryz.prog 21 #[.agg #[.slice a0 n0 c0, .slice a1 n1 c1, .slice a2 n2 c2, .slice a3 n3 c3], v] w fun e w' => e = .returned (.slice none 0 0) ∧ Below w.heap.size w w' := by
  obtain ⟨p0, p1, p2, p3⟩ := bx_new w (.slice a0 n0 c0) (.slice a1 n1 c1) (.slice a2 n2 c2) (.slice a3 n3 c3)
  have hb0 := ((Below.refl w.heap.size w).alloc (Nat.le_refl _) (.cells #[.slice a0 n0 c0, .slice a1 n1 c1, .slice a2 n2 c2, .slice a3 n3 c3] 55))
  have HN := hide (nm_below hb0 hn)
  have HB := hide hb0
  clear hn hb0
  go_enter Tryz.func21, Tryz.ntmps21
  go_wp2_with fail
  refine (pright_any a0 a1 a2 a3 n0 n1 n2 n3 c0 c1 c2 c3 fs ss ts rs _ h0 h1 h2 h3 HN.out.len HN.out.free HN.out.set HN.out.to HN.out.rule).mono ?_
  rintro e w1 ⟨rfl, hb1⟩
  have HB1 := hide (HB.out.trans (hb1.mono HB.out.size))
  clear hb1 p0 p1 p2 p3 HN
  rw [hr]
  go_wp2
  go_ret
  exact ⟨rfl, HB1.out⟩
set_option maxHeartbeats 1600000 in
theorem pstep_no (a0 a1 a2 a3 : Option Addr) (n0 n1 n2 n3 c0 c1 c2 c3 : Nat) (fs : List (List Int)) (ss : List Nat) (ts rs : List Int) (v u : Value) (w : World) (h0 : fs.length = n0) (h1 : ss.length = n1) (h2 : ts.length = n2) (h3 : rs.length = n3) (hn : Nm w a0 a1 a2 a3 fs ss ts rs) (hr : rightN fs ss ts rs = false) :
    Calls Tryz.prog 47 #[.agg #[.slice a0 n0 c0, .slice a1 n1 c1, .slice a2 n2 c2, .slice a3 n3 c3], v, u] w fun e w' => e = .returned (.slice none 0 0) ∧ Below w.heap.size w w' := by
  obtain ⟨p0, p1, p2, p3⟩ := bx_new w (.slice a0 n0 c0) (.slice a1 n1 c1) (.slice a2 n2 c2) (.slice a3 n3 c3)
  have hb0 := ((Below.refl w.heap.size w).alloc (Nat.le_refl _) (.cells #[.slice a0 n0 c0, .slice a1 n1 c1, .slice a2 n2 c2, .slice a3 n3 c3] 55))
  have HN := hide (nm_below hb0 hn)
  have HB := hide hb0
  clear hn hb0
  go_enter Tryz.func47, Tryz.ntmps47
  go_wp2_with fail
  refine (pright_any a0 a1 a2 a3 n0 n1 n2 n3 c0 c1 c2 c3 fs ss ts rs _ h0 h1 h2 h3 HN.out.len HN.out.free HN.out.set HN.out.to HN.out.rule).mono ?_
  rintro e w1 ⟨rfl, hb1⟩
  have HB1 := hide (HB.out.trans (hb1.mono HB.out.size))
  clear hb1 p0 p1 p2 p3 HN
  rw [hr]
  go_wp2
  go_ret
  exact ⟨rfl, HB1.out⟩
set_option maxHeartbeats 1600000 in
theorem pclose_yes (a0 a1 a2 a3 : Option Addr) (N c0 c1 c2 c3 : Nat) (fs : List (List Int)) (ss : List Nat) (ts rs : List Int) (a : Option Addr) (len cap : Nat) (zs : List Int) (w : World) (hm : Mach fs ss ts rs N) (hn : Nm w a0 a1 a2 a3 fs ss ts rs) (hz : zs.length = len) (hl : len ≤ maxLen) (hW : Wd w a zs) :
    Calls Tryz.prog 21 #[.agg #[.slice a0 N c0, .slice a1 N c1, .slice a2 N c2, .slice a3 N c3], .slice a len cap] w fun e w' =>
      ∃ g v, IsCl fs N (tblB zs len) g ∧ e = .returned v ∧ w'.ownsRow w.heap.size 3 1 v (lstL g N).length ((lstL g N).map (Value.int .i64)) ∧ Below w.heap.size w w' := by
  have HBX := hide (bx_new w (.slice a0 N c0) (.slice a1 N c1) (.slice a2 N c2) (.slice a3 N c3))
  obtain ⟨p0, p1, p2, p3⟩ := HBX.out
  have hb0 := ((Below.refl w.heap.size w).alloc (Nat.le_refl _) (.cells #[.slice a0 N c0, .slice a1 N c1, .slice a2 N c2, .slice a3 N c3] 55))
  have HN := hide (nm_below hb0 hn)
  have HW := hide (wd_below hb0 hW)
  have HB := hide hb0
  have HZ := hide (show w.heap.size < (w.alloc (.cells #[.slice a0 N c0, .slice a1 N c1, .slice a2 N c2, .slice a3 N c3] 55)).heap.size by simp)
  have HM := hide hm
  have HL := hide hl
  clear hn hb0 hW hm hl
  go_enter Tryz.func21, Tryz.ntmps21
  go_wp2_with fail
  refine (pright_any a0 a1 a2 a3 N N N N c0 c1 c2 c3 fs ss ts rs _ HM.out.lf HM.out.ls HM.out.lt HM.out.lr HN.out.len HN.out.free HN.out.set HN.out.to HN.out.rule).mono ?_
  rintro e w1 ⟨rfl, hb1⟩
  have HB1 := hide (HB.out.trans (hb1.mono HB.out.size))
  have HN1 := hide (nm_below hb1 HN.out)
  have HW1 := hide (wd_below hb1 HW.out)
  obtain ⟨q0, q1, q2, q3⟩ := bx_below hb1 HZ.out HBX.out
  clear hb1 p0 p1 p2 p3 HN HW HBX
  rw [mach_right HM.out]
  go_wp2_with fail
  refine (closed_any a0 N c0 _ _ _ a len cap fs zs w1 (by have := HM.out.most; omega) HM.out.lf HN1.out.len HN1.out.free HM.out.free hz HL.out HW1.out).mono ?_
  rintro e w2 ⟨g, v, hcl, rfl, ho, hb2⟩
  have HC := hide hcl
  have HO := hide (own_low ho HB1.out.size)
  have HB2 := hide (HB1.out.trans (hb2.mono HB1.out.size))
  clear hcl ho hb2 q0 q1 q2 q3
  go_wp2
  go_ret
  exact ⟨g, v, HC.out, rfl, HO.out, HB2.out⟩
set_option maxHeartbeats 1600000 in
theorem pstep_yes (a0 a1 a2 a3 : Option Addr) (N c0 c1 c2 c3 : Nat) (fs : List (List Int)) (ss : List Nat) (ts rs : List Int) (a : Option Addr) (len cap : Nat) (zs : List Int) (c : Int) (w : World) (hm : Mach fs ss ts rs N) (hn : Nm w a0 a1 a2 a3 fs ss ts rs) (hz : zs.length = len) (hl : len ≤ maxLen) (hW : Wd w a zs) :
    Calls Tryz.prog 47 #[.agg #[.slice a0 N c0, .slice a1 N c1, .slice a2 N c2, .slice a3 N c3], .slice a len cap, .int .i64 c] w fun e w' =>
      ∃ v, e = .returned v ∧ w'.ownsRow w.heap.size 3 1 v (lstL (stpB ss ts c (tblB zs len) N) N).length ((lstL (stpB ss ts c (tblB zs len) N) N).map (Value.int .i64)) ∧ Below w.heap.size w w' := by
  have HBX := hide (bx_new w (.slice a0 N c0) (.slice a1 N c1) (.slice a2 N c2) (.slice a3 N c3))
  obtain ⟨p0, p1, p2, p3⟩ := HBX.out
  have hb0 := ((Below.refl w.heap.size w).alloc (Nat.le_refl _) (.cells #[.slice a0 N c0, .slice a1 N c1, .slice a2 N c2, .slice a3 N c3] 55))
  have HN := hide (nm_below hb0 hn)
  have HW := hide (wd_below hb0 hW)
  have HB := hide hb0
  have HZ := hide (show w.heap.size < (w.alloc (.cells #[.slice a0 N c0, .slice a1 N c1, .slice a2 N c2, .slice a3 N c3] 55)).heap.size by simp)
  have HM := hide hm
  have HL := hide hl
  clear hn hb0 hW hm hl
  go_enter Tryz.func47, Tryz.ntmps47
  go_wp2_with fail
  refine (pright_any a0 a1 a2 a3 N N N N c0 c1 c2 c3 fs ss ts rs _ HM.out.lf HM.out.ls HM.out.lt HM.out.lr HN.out.len HN.out.free HN.out.set HN.out.to HN.out.rule).mono ?_
  rintro e w1 ⟨rfl, hb1⟩
  have HB1 := hide (HB.out.trans (hb1.mono HB.out.size))
  have HN1 := hide (nm_below hb1 HN.out)
  have HW1 := hide (wd_below hb1 HW.out)
  obtain ⟨q0, q1, q2, q3⟩ := bx_below hb1 HZ.out HBX.out
  clear hb1 p0 p1 p2 p3 HN HW HBX
  rw [mach_right HM.out]
  go_wp2_with fail
  refine (stepped_any a0 a1 a2 N c0 c1 c2 _ a len cap ss ts zs c w1 (by have := HM.out.most; omega) HM.out.ls HM.out.lt HN1.out.set HN1.out.to HM.out.to hz HL.out HW1.out).mono ?_
  rintro e w2 ⟨v, rfl, ho, hb2⟩
  have HO := hide (own_low ho HB1.out.size)
  have HB2 := hide (HB1.out.trans (hb2.mono HB1.out.size))
  clear ho hb2 q0 q1 q2 q3
  go_wp2
  go_ret
  exact ⟨v, rfl, HO.out, HB2.out⟩

end Go.Proofs.YtccaknabpnpjaaaGreatDoor.A
