/- A machine without free steps that came in: where it goes, what may be, what it matches: plain mathematics; one step of the program's. -/
import Derived.WalkKit
import Derived.ProofKit
import Derived.Outline
import Derived.BigQuiet
import Derived.Deep.QuietTactic
import Derived.Below
import Derived.Deep.RegionHeld3
import Derived.OpenShut
import Derived.Deep.Slices
import Derived.Deep.Strs
import Derived.Deep.OwnRows
import Derived.Deep.WholeRow
import Derived.Deep.AppendSrc
import Derived.Deep.Heap
import Derived.Laws.AppendOwnNone
import Derived.Deep.AppendLies
import Derived.Deep.RegionLaw
import Derived.Shelf.Small.Strs
import Derived.Shelf.Strconv.Itoa0
import Derived.Shelf.Strconv.Itoa1
import Derived.Shelf.LaysM
import Derived.Shelf.Strconv.Itoa2
import Derived.Shelf.Strconv.Clone
import Derived.Shelf.Strings.Search1
import Derived.Shelf.Strings.Search2
import Derived.Shelf.Strings.Search3
import Derived.Shelf.Strings.Count
import Derived.Shelf.Strings.Shaped
import Derived.Shelf.Strconv.AppendUint10
import Derived.Shelf.Strconv.AppendInt10
import Derived.Shelf.Strconv.AppendIntPublic10
import Derived.Shelf.Strings.Split
import Derived.Shelf.Strings.SplitShaped
import Derived.Shelf.Bits.Mul64
import Derived.Shelf.Unicode.DecodeSlow
import Derived.Ground.Names2Prog
import Derived.Shelf.Slices.Clone
import Derived.Ground.SlgnProg
import Derived.Shelf.SlicesE.Clone
import Derived.Laws.IdiomStrings
import Derived.Laws.BytesArg
import Derived.Maps.OwnSet
import Derived.Maps.OwnOps
import Derived.Deep.MidRow
import Derived.WalkLawsBesides
import Derived.Laws.AppendOwn
import Derived.Test.YtbbfjjjnifomgaaGreatDoorK1
import Derived.Test.YtbbfjjjnifomgaaGreatDoorK11
import Derived.Test.YtbbfjjjnifomgaaGreatDoorK13
import Derived.Test.YtbbfjjjnifomgaaGreatDoorK20
import Derived.Test.YtbbfjjjnifomgaaGreatDoorK24
import Derived.Test.YtbbfjjjnifomgaaGreatDoorK4
import Derived.Test.YtbbfjjjnifomgaaGreatDoorK8
import Derived.Test.YtbbfjjjnifomgaaGreatDoorK17
import Derived.Test.YtbbfjjjnifomgaaGreatDoorK2
import Derived.Test.YtbbfjjjnifomgaaGreatDoorK3
import Derived.Test.YtbbfjjjnifomgaaGreatDoorK6
import Derived.Test.YtbbfjjjnifomgaaGreatDoorK7
import Derived.Test.YtbbfjjjnifomgaaGreatDoorK9
import Derived.Test.YtbbfjjjnifomgaaGreatDoorK10
import Derived.Test.YtbbfjjjnifomgaaGreatDoorK16
import Derived.Test.YtbbfjjjnifomgaaGreatDoorK23
namespace Go.Proofs.YtbbfjjjnifomgaaGreatDoor.A
open Go.RowKit

/-- One step. -/
def stepF (nx : List (List Int)) (a c : Int) : Int := if 0 ≤ a ∧ 0 ≤ c ∧ c < 16 then (nx.getD a.toNat []).getD c.toNat 0 else -1
/-- Where the machine is behind k letters. -/
def runF (nx : List (List Int)) (word : List Int) : Nat → Int
  | 0 => 0
  | k + 1 => stepF nx (runF nx word k) (word.getD k 0)
/-- The last place of a rule's end, and that rule, of the first k places. -/
def lgF (nx : List (List Int)) (ru word : List Int) (from_ : Int) : Nat → Int × Int
  | 0 => (-1, -1)
  | k + 1 => if 0 ≤ runF nx word (k + 1) ∧ ru.getD (runF nx word (k + 1)).toNat 0 ≠ -1 then (from_ + (k : Int) + 1, ru.getD (runF nx word (k + 1)).toNat 0) else lgF nx ru word from_ k
/-- May a row be? -/
def okRow (n : Nat) (row : List Int) : Bool := row.all fun z => decide (-1 ≤ z) && decide (z < (n : Int))
def okRule (r : Int) : Bool := decide (-1 ≤ r) && decide (r ≤ 15)
/-- May a machine be? -/
def rightD (nx : List (List Int)) (ru : List Int) : Bool := decide (1 ≤ nx.length) && (decide (nx.length ≤ 200) && (decide (ru.length = nx.length) && ((List.range nx.length).all fun i => okRule (ru.getD i 0) && okRow nx.length (nx.getD i []))))
theorem right_open {nx : List (List Int)} {ru : List Int} (h : rightD nx ru = true) : 1 ≤ nx.length ∧ nx.length ≤ 200 ∧ ru.length = nx.length ∧ (∀ (i : Nat) (r : Int), ru[i]? = some r → -1 ≤ r ∧ r ≤ 15) ∧ ∀ (i : Nat) (row : List Int), nx[i]? = some row → ∀ z ∈ row, -1 ≤ z ∧ z < (nx.length : Int) := by
  unfold rightD at h
  simp only [Bool.and_eq_true, decide_eq_true_eq, List.all_eq_true, List.mem_range] at h
  obtain ⟨h1, h2, h3, h4⟩ := h
  refine ⟨h1, h2, h3, fun i r hr => ?_, fun i row hr z hz => ?_⟩
  · have := (h4 i (by rw [← h3]; exact (List.getElem?_eq_some_iff.1 hr).1)).1
    unfold okRule at this
    rw [List.getD_eq_getElem?_getD, hr, Bool.and_eq_true, decide_eq_true_eq, decide_eq_true_eq] at this
    exact this
  · have := (h4 i (List.getElem?_eq_some_iff.1 hr).1).2
    unfold okRow at this
    rw [List.getD_eq_getElem?_getD, hr, Option.getD_some, List.all_eq_true] at this
    simpa using this z hz
/-- A machine's step stays within it. -/
theorem step_rng {nx : List (List Int)} {ru : List Int} (h : rightD nx ru = true) (h16 : ∀ x ∈ nx, x.length = 16) (a c : Int) (ha : a < (nx.length : Int)) : -1 ≤ stepF nx a c ∧ stepF nx a c < (nx.length : Int) := by
  obtain ⟨h1, _, _, _, h5⟩ := right_open h
  unfold stepF
  split
  · rename_i hc
    have e : nx[a.toNat]? = some (nx[a.toNat]'(by omega)) := List.getElem?_eq_getElem _
    have hl := h16 _ (List.mem_of_getElem? e)
    rw [show nx.getD a.toNat [] = nx[a.toNat]'(by omega) from by rw [List.getD_eq_getElem?_getD, e]; rfl]
    have e2 : (nx[a.toNat]'(by omega))[c.toNat]? = some ((nx[a.toNat]'(by omega))[c.toNat]'(by omega)) := List.getElem?_eq_getElem _
    rw [List.getD_eq_getElem?_getD, e2, Option.getD_some]
    exact h5 _ _ e _ (List.mem_of_getElem? e2)
  · omega
theorem run_rng {nx : List (List Int)} {ru : List Int} (h : rightD nx ru = true) (h16 : ∀ x ∈ nx, x.length = 16) (word : List Int) : ∀ k, -1 ≤ runF nx word k ∧ runF nx word k < (nx.length : Int)
  | 0 => by obtain ⟨h1, _⟩ := right_open h; unfold runF; omega
  | k + 1 => step_rng h h16 _ _ (run_rng h h16 word k).2
theorem run_dead {nx : List (List Int)} {word : List Int} {k : Nat} (h : runF nx word k < 0) : ∀ m, runF nx word (k + m + 1) = -1
  | 0 => by show stepF nx (runF nx word k) _ = -1; unfold stepF; rw [if_neg (by omega)]
  | m + 1 => by
    have := run_dead h m
    show stepF nx (runF nx word (k + m + 1)) _ = -1
    unfold stepF; rw [if_neg (by omega)]
theorem run_dead' {nx : List (List Int)} {word : List Int} {k m : Nat} (h : runF nx word k = -1) (hm : k ≤ m) : runF nx word m = -1 := by
  by_cases e : m = k
  · subst e; exact h
  · have := run_dead (word := word) (k := k) (nx := nx) (by omega) (m - k - 1)
    rw [show k + (m - k - 1) + 1 = m by omega] at this
    exact this
theorem lg_dead {nx : List (List Int)} {ru word : List Int} {f : Int} {k : Nat} (h : runF nx word k = -1) : ∀ m, k ≤ m + 1 → ∀ j, lgF nx ru word f (m + j) = lgF nx ru word f m
  | m, hm, 0 => rfl
  | m, hm, j + 1 => by
    show (if 0 ≤ runF nx word (m + j + 1) ∧ _ then _ else lgF nx ru word f (m + j)) = _
    rw [if_neg (fun e => by have := run_dead' (nx := nx) (word := word) h (show k ≤ m + j + 1 by omega); omega), lg_dead h m hm j]
theorem step_out {nx : List (List Int)} {a c : Int} (h : ¬ (0 ≤ c ∧ c < 16)) : stepF nx a c = -1 := by
  unfold stepF; rw [if_neg (fun e => h e.2)]
theorem dstep_in {nx : List (List Int)} {i j : Nat} {row : List Int} {z : Int} (hr : nx[i]? = some row) (hz : row[j]? = some z) (hj : j < 16) : stepF nx i j = z := by
  unfold stepF
  rw [if_pos ⟨by omega, by omega, by omega⟩, show ((i : Nat) : Int).toNat = i by omega, show ((j : Nat) : Int).toNat = j by omega, List.getD_eq_getElem?_getD, List.getD_eq_getElem?_getD, hr, Option.getD_some, hz, Option.getD_some]

theorem dtwo_new (w : World) (x y : Value) : (w.alloc (.cells #[x, y] 25)).cell? ⟨w.heap.size, 0, none⟩ = some x ∧ (w.alloc (.cells #[x, y] 25)).cell? ⟨w.heap.size, 1, none⟩ = some y := by
  have h := d_cells (heap_alloc_last w (.cells #[x, y] 25))
  exact ⟨h.1, h.2.1⟩
theorem dr_cell {w : World} {a : Option Addr} {nx : List (List Int)} (h : Dr w a nx) {i j : Nat} {row : List Int} {z : Int} (hr : nx[i]? = some row) (hz : row[j]? = some z) : ∃ b off, a = some ⟨b, off, none⟩ ∧ w.cell? ⟨b, off + i * 16 + j, none⟩ = some (.int .i64 z) := by
  obtain ⟨_, b, off, e, h2⟩ := h i row hr
  exact ⟨b, off, e, h2 j _ (by simp [cI, hz])⟩

set_option maxRecDepth 100000 in
set_option maxHeartbeats 1600000 in
theorem dstep_any (a0 : Option Addr) (n0 c0 : Nat) (x1 : Value) (nx : List (List Int)) (st : Nat) (c : Int) (w : World) (hn : nx.length = n0) (hD : Dr w a0 nx) (hs : st < n0) :
    Calls Tryz.prog 76 #[.agg #[.slice a0 n0 c0, x1], .int .i64 st, .int .i64 c] w fun e w' => e = .returned (.int .i64 (stepF nx st c)) ∧ Below w.heap.size w w' := by
  obtain ⟨p0, p1⟩ := dtwo_new w (.slice a0 n0 c0) x1
  have hb0 := (Below.refl w.heap.size w).alloc (Nat.le_refl _) (.cells #[.slice a0 n0 c0, x1] 25)
  have HB0 := hide hb0
  have HD := hide (dr_below hb0 hD)
  have HN := hide hn
  clear hb0 hD hn
  by_cases cc : ¬ (0 ≤ c ∧ c < 16)
  · have HE := hide (step_out (nx := nx) (a := st) cc)
    by_cases c0' : c < 0
    · have y0 : decide (c < 0) = true := by simp [c0']
      go_enter Tryz.func76, Tryz.ntmps76
      go_wp2
      go_ret
      exact ⟨by rw [HE.out]; rfl, HB0.out⟩
    · have y0 : decide (c < 0) = false := by simp; omega
      have y1 : decide (16 ≤ c) = true := by simp; omega
      go_enter Tryz.func76, Tryz.ntmps76
      go_wp2
      go_ret
      exact ⟨by rw [HE.out]; rfl, HB0.out⟩
  obtain ⟨j, rfl⟩ : ∃ j : Nat, c = j := ⟨c.toNat, by omega⟩
  have hj : j < 16 := by omega
  have y0 : decide ((j : Int) < 0) = false := decide_eq_false (by omega)
  have y1 : decide ((16 : Int) ≤ (j : Int)) = false := decide_eq_false (by omega)
  obtain ⟨row, hr⟩ : ∃ row, nx[st]? = some row := ⟨_, List.getElem?_eq_getElem (by rw [HN.out]; exact hs)⟩
  have hl := (HD.out st row hr).1
  obtain ⟨z, hz⟩ : ∃ z, row[j]? = some z := ⟨_, List.getElem?_eq_getElem (by omega)⟩
  obtain ⟨b, off, rfl, k0⟩ := dr_cell HD.out hr hz
  have HE := hide (dstep_in hr hz hj)
  have i3 : (0 : Int) ≤ (st : Int) := by omega
  have i4 : (st : Int) < (n0 : Int) := by omega
  have i5 : (0 : Int) ≤ (j : Int) := by omega
  have i6 : (j : Int) < 16 := by omega
  clear cc hr hz hl
  go_enter Tryz.func76, Tryz.ntmps76
  go_wp2
  go_ret
  exact ⟨by rw [HE.out]; rfl, HB0.out⟩
end Go.Proofs.YtbbfjjjnifomgaaGreatDoor.A



/- The program's Right of a machine without free steps. -/
namespace Go.Proofs.YtbbfjjjnifomgaaGreatDoor.A
open Go.RowKit

/-- 16 cells at a pointer. -/
def rowM (w : World) : Value → List Value
  | .pointer (some ⟨b, o, none⟩) => (List.range 16).map fun (j : Nat) => (w.cell? ⟨b, o + j, none⟩).getD undef
  | _ => []
def rowMok (w : World) : Value → Bool
  | .pointer (some ⟨b, o, none⟩) => (List.range 16).all fun (j : Nat) => (w.cell? ⟨b, o + j, none⟩).isSome
  | _ => false
theorem rowM_drew (w : World) (v : Value) : rowM w.drew v = rowM w v := rfl
theorem rowMok_drew (w : World) (v : Value) : rowMok w.drew v = rowMok w v := rfl
theorem rowM_at {w : World} {b o : Nat} {cs : List Value} (h : w.rangeAt b o cs) (hl : cs.length = 16) : rowM w (.pointer (some ⟨b, o, none⟩)) = cs ∧ rowMok w (.pointer (some ⟨b, o, none⟩)) = true := by
  have hc : ∀ j, (hj : j < 16) → w.cell? ⟨b, o + j, none⟩ = some (cs[j]'(by omega)) := fun j hj => h j _ (List.getElem?_eq_getElem (by omega))
  constructor
  · apply List.ext_getElem
    · simp [rowM, hl]
    · intro j h1 h2
      simp only [rowM, List.getElem_map, List.getElem_range]
      rw [hc j (by omega)]; rfl
  · simp only [rowMok, List.all_eq_true, List.mem_range]
    intro j hj
    rw [hc j hj]; rfl
theorem wp_load63s {d : Tmp} {x : Operand} {t : TypeId} {p : String} {af : Array Edge} {g : Option (Nat × Bool)} {a : Act} {w : World} {K : Act → World → Prop} {Q : Exit → Act → World → Prop} (hc : rowMok w (a.eval x) = true) :
    Oper.wp Tryz.prog { dst := some d, op := Op.load 66 x, type := t, pos := p, after := af, guard := g } a w K Q = K (a.put (some d) (.agg (rowM w (a.eval x)).toArray)) w := by
  obtain ⟨_, hi63⟩ := zero_of_info zero63
  unfold rowMok at hc
  split at hc
  · rename_i b o hx
    have hl : (rowM w (.pointer (some ⟨b, o, none⟩))).length = 16 := by simp [rowM]
    have hr : w.rangeAt b o (rowM w (.pointer (some ⟨b, o, none⟩))) := fun j v hj => by
      have hj2 : j < 16 := by have := (List.getElem?_eq_some_iff.1 hj).1; omega
      have hs := List.all_eq_true.1 hc j (by simpa using hj2)
      simp only [rowM, List.getElem?_map, List.getElem?_range hj2, Option.map_some, Option.some.injEq] at hj
      obtain ⟨u, hu⟩ := Option.isSome_iff_exists.1 hs
      rw [hu] at hj ⊢
      rw [← hj]; rfl
    have hrun := run_loadAt_mid (P := Tryz.prog) w b o 66 _ _ hr Tryz.underlying66 rfl (by rw [hl]; exact hi63)
    unfold Oper.wp execOp
    simp only [hx, Sem.run_bind, hrun, Result.andThen_ok, Sem.run_pure]
    rw [Oper.upon_value]
  · cases hc
theorem cI_one (row : List Int) : (cI row).toArray.all (·.oneCell') = true := by
  rw [Array.all_eq_true_iff_forall_mem]
  intro v hv
  simp only [cI, List.mem_toArray, List.mem_map] at hv
  obtain ⟨z, _, rfl⟩ := hv
  rfl
theorem right_stop {nx : List (List Int)} {ru : List Int} {i : Nat} {row : List Int} {r : Int} (hr : nx[i]? = some row) (hu : ru[i]? = some r) (h : (okRule r && okRow nx.length row) = false) : rightD nx ru = false := by
  rw [Bool.eq_false_iff]
  intro hd
  have hi := (List.getElem?_eq_some_iff.1 hr).1
  unfold rightD at hd
  simp only [Bool.and_eq_true, decide_eq_true_eq, List.all_eq_true, List.mem_range] at hd
  have h4 := hd.2.2.2 i hi
  rw [List.getD_eq_getElem?_getD, List.getD_eq_getElem?_getD, hr, hu, Option.getD_some, Option.getD_some, ← Bool.and_eq_true, h] at h4
  cases h4
theorem row_bad {n : Nat} {row : List Int} {z : Int} {j : Nat} (hz : row[j]? = some z) (h : z < -1 ∨ (n : Int) ≤ z) : okRow n row = false := by
  unfold okRow
  rw [List.all_eq_false]
  exact ⟨z, List.mem_of_getElem? hz, by simp; omega⟩

theorem run_index63 (w : World) (cs : List Value) (j : Nat) (z : Int) (hj : j < 16) (h : cs[j]? = some (.int .i64 z)) : (Instr.index 66 (.agg cs.toArray) (.int .i64 (j : Int))).run Tryz.prog w = .ok (.int .i64 z) w := by
  have h1 : (0 : Int) ≤ (j : Int) ∧ (j : Int) < ((16 : Nat) : Int) := ⟨by omega, by omega⟩
  have h2 : (sizeOf 3).run Tryz.prog w = .ok 1 w := by kernel_rfl
  simp [Instr.index, run_underlying Tryz.underlying66, asIntOf, h1, h2, part, h, hj]
attribute [local go_sem ↓] wp_load63s
set_option maxRecDepth 100000 in
set_option maxHeartbeats 3200000 in
theorem dright_any (a0 a1 : Option Addr) (n0 n1 c0 c1 : Nat) (nx : List (List Int)) (ru : List Int) (w : World) (h0 : nx.length = n0) (h1 : ru.length = n1) (hD : Dr w a0 nx) (hR : Wd w a1 ru) (hl0 : n0 ≤ maxLen) (hl1 : n1 ≤ maxLen) :
    Calls Tryz.prog 28 #[.agg #[.slice a0 n0 c0, .slice a1 n1 c1]] w fun e w' => e = .returned (.bool (rightD nx ru)) ∧ Below w.heap.size w w' := by
  obtain ⟨hv63, hi63⟩ := zero_of_info zero63
  rw [rowG_zero] at hv63
  have HX := hide (dtwo_new w (.slice a0 n0 c0) (.slice a1 n1 c1))
  have hb0 := (Below.refl w.heap.size w).alloc (Nat.le_refl _) (.cells #[.slice a0 n0 c0, .slice a1 n1 c1] 25)
  have HB0 := hide hb0
  have HD := hide (dr_below hb0 hD)
  have HR := hide (wd_below hb0 hR)
  have H0 := hide h0
  have H1 := hide h1
  have HI := hide hi63
  have HZ := hide (show w.heap.size < (w.alloc (.cells #[.slice a0 n0 c0, .slice a1 n1 c1] 25)).heap.size by simp)
  obtain ⟨p0, p1⟩ := HX.out
  unfold maxLen at hl0 hl1
  clear hb0 hD hR h0 h1 hi63
  by_cases g0 : n0 < 1
  · have HE := hide (show rightD nx ru = false by unfold rightD; rw [show decide (1 ≤ nx.length) = false by rw [H0.out]; exact decide_eq_false (by omega)]; rfl)
    have d0 : decide ((n0 : Int) < 1) = true := by simp; omega
    go_enter Tryz.func28, Tryz.ntmps28
    go_wp2
    go_ret
    exact ⟨by rw [HE.out]; rfl, HB0.out⟩
  have d0 : decide ((n0 : Int) < 1) = false := by simp; omega
  by_cases g1 : 200 < n0
  · have HE := hide (show rightD nx ru = false by unfold rightD; rw [show decide (nx.length ≤ 200) = false by rw [H0.out]; exact decide_eq_false (by omega)]; simp)
    have d1 : decide ((200 : Int) < (n0 : Int)) = true := by simp; omega
    go_enter Tryz.func28, Tryz.ntmps28
    go_wp2
    go_ret
    exact ⟨by rw [HE.out]; rfl, HB0.out⟩
  have d1 : decide ((200 : Int) < (n0 : Int)) = false := by simp; omega
  by_cases g2 : n1 ≠ n0
  · have HE := hide (show rightD nx ru = false by unfold rightD; rw [show decide (ru.length = nx.length) = false by rw [H0.out, H1.out]; exact decide_eq_false g2]; simp)
    have d2 : ((n1 : Int) != (n0 : Int)) = true := by simp; omega
    have d3 : ((n1 : Int) == (n0 : Int)) = false := by simp; omega
    go_enter Tryz.func28, Tryz.ntmps28
    go_wp2
    go_ret
    exact ⟨by rw [HE.out]; rfl, HB0.out⟩
  obtain rfl : n1 = n0 := by omega
  go_enter Tryz.func28, Tryz.ntmps28
  go_wp2_with fail
  generalize w.alloc (.cells #[.slice a0 n1 c0, .slice a1 n1 c1] 25) = W0 at *
  generalize hB : w.heap.size = B at *
  go_loopw [4, 5, 7, 27, 47] (fun _ _ _ i _ wr => ∃ k : Nat, k ≤ n1 ∧ i = .int .i64 k ∧ (∀ j, j < k → (okRule (ru.getD j 0) && okRow n1 (nx.getD j [])) = true) ∧ Below W0.heap.size W0 wr) (fun _ _ _ i _ _ => n1 - (intOf i).toNat)
  case atStart => exact ⟨0, Nat.zero_le _, rfl, fun j hj => by omega, Below.refl _ _⟩
  case round =>
    obtain ⟨k, hk, rfl, hok, hb⟩ := hrel
    have HOK := hide hok
    have HBW := hide hb
    clear hok hb p0 p1
    by_cases hlt : k < n1
    · obtain ⟨row, hr⟩ : ∃ row, nx[k]? = some row := ⟨_, List.getElem?_eq_getElem (by rw [H0.out]; exact hlt)⟩
      obtain ⟨r, hu⟩ : ∃ r, ru[k]? = some r := ⟨_, List.getElem?_eq_getElem (by rw [H1.out]; exact hlt)⟩
      obtain ⟨hrl, b, off, rfl, hrg⟩ := dr_below HBW.out HD.out k row hr
      obtain ⟨b2, o2, rfl, k2⟩ := wd_below HBW.out HR.out k r hu
      obtain ⟨hrv, hro⟩ := rowM_at hrg (by rw [cI_len]; exact hrl)
      have hp0 : wr.cell? ⟨B, 0, none⟩ = _ := (HBW.out.cell (p := ⟨B, 0, none⟩) HZ.out).trans HX.out.1
      have hp1 : wr.cell? ⟨B, 1, none⟩ = _ := (HBW.out.cell (p := ⟨B, 1, none⟩) HZ.out).trans HX.out.2
      have i3 : (0 : Int) ≤ (k : Int) := by omega
      have i4 : (k : Int) < (n1 : Int) := by omega
      have HHR := hide hr
      have HHU := hide hu
      have HRL := hide hrl
      clear hr hu hrl hrg
      have hsc : (storeCells ⟨wr.heap.size, 0, none⟩ (cI row) 0).run Tryz.prog (wr.alloc (.cells (rowG fun _ => 0) 66)) = .ok () (wr.alloc (.cells (cI row).toArray 66)) := by
        have := run_storeCells_new (P := Tryz.prog) wr 66 (rowG fun _ => 0) (cI row).toArray (by have := HRL.out; simp [cI_len, this]; simpa using HI.out) (by have := HRL.out; simp [cI_len, this, rowG_size]) (cI_one _)
        simpa using this
      have hl16 : (cI row).length = 16 := by rw [cI_len]; exact HRL.out
      have hrg2 : (wr.alloc (.cells (cI row).toArray 66)).rangeAt wr.heap.size 0 (cI row) := fun j u hu => by
        rw [Nat.zero_add, cell_of_row _ _ j _ _ _ (heap_alloc_last wr _)]; simpa using hu
      obtain ⟨hrv2, hro2⟩ := rowM_at hrg2 (by rw [cI_len]; exact HRL.out)
      have hq1 : (wr.alloc (.cells (cI row).toArray 66)).cell? ⟨B, 1, none⟩ = _ := (((Below.refl wr.heap.size wr).alloc (Nat.le_refl _) (.cells (cI row).toArray 66)).cell (p := ⟨B, 1, none⟩) (cell_lt hp1)).trans hp1
      have hq2 : (wr.alloc (.cells (cI row).toArray 66)).cell? ⟨b2, o2 + k, none⟩ = _ := (((Below.refl wr.heap.size wr).alloc (Nat.le_refl _) (.cells (cI row).toArray 66)).cell (p := ⟨b2, o2 + k, none⟩) (cell_lt k2)).trans k2
      have HBA := hide (HBW.out.alloc HBW.out.size (.cells (cI row).toArray 66))
      by_cases r0 : r < -1
      · have d2 : decide (r < -1) = true := by simp [r0]
        have HE := hide (right_stop HHR.out HHU.out (by unfold okRule; rw [show decide (-1 ≤ r) = false by simp; omega]; rfl))
        go_wp2
        go_ret
        exact ⟨by rw [HE.out]; rfl, hB ▸ HB0.out.trans (HBA.out.mono (Nat.le_of_lt (hB ▸ HZ.out)))⟩
      have d2 : decide (r < -1) = false := by simp; omega
      by_cases r1 : 16 ≤ r
      · have d3 : decide (16 ≤ r) = true := by simp [r1]
        have HE := hide (right_stop HHR.out HHU.out (by unfold okRule; rw [show decide (r ≤ 15) = false by simp; omega]; simp))
        go_wp2
        go_ret
        exact ⟨by rw [HE.out]; rfl, hB ▸ HB0.out.trans (HBA.out.mono (Nat.le_of_lt (hB ▸ HZ.out)))⟩
      have d3 : decide (16 ≤ r) = false := by simp; omega
      have HOKR := hide (show okRule r = true by unfold okRule; rw [Bool.and_eq_true, decide_eq_true_eq, decide_eq_true_eq]; omega)
      go_wp2_with fail
      clear hsc hrg2 hrv hro hrv2 hro2 hq1 hq2 hp0 hp1 k2 hv63
      generalize wr.alloc (.cells (cI row).toArray 66) = W1 at *
      generalize wr.heap.size = B1 at *
      go_loopw [7, 47] (fun _ i wi => ∃ j : Nat, j ≤ 16 ∧ i = .int .i64 j ∧ (∀ m, m < j → -1 ≤ row.getD m 0 ∧ row.getD m 0 < (n1 : Int)) ∧ wi = W1) (fun _ i _ => 16 - (intOf i).toNat)
      case atStart => exact ⟨0, by omega, rfl, fun m hm => by omega, rfl⟩
      case round =>
        obtain ⟨j, hj, rfl, hin, rfl⟩ := hrel
        have HIN := hide hin
        clear hin
        by_cases hjt : j < 16
        · obtain ⟨z, hz⟩ : ∃ z, row[j]? = some z := ⟨_, List.getElem?_eq_getElem (by rw [HRL.out]; exact hjt)⟩
          have hcz : (cI row)[j]? = some (.int .i64 z) := by simp [cI, hz]
          have hcz2 : (cI row)[j]'(by omega) = .int .i64 z := by
            have := List.getElem?_eq_getElem (l := cI row) (i := j) (by omega)
            rw [hcz] at this; exact (Option.some.inj this).symm
          have hrx := fun w => run_index63 w (cI row) j z hjt hcz
          have i5 : (0 : Int) ≤ (j : Int) := by omega
          have i6 : (j : Int) < 16 := by omega
          by_cases z0 : z < -1
          · have d5 : decide (z < -1) = true := by simp [z0]
            have HE := hide (right_stop HHR.out HHU.out (by rw [row_bad (n := nx.length) hz (.inl z0)]; simp))
            clear hz
            go_wp2
            go_ret
            exact ⟨by rw [HE.out]; rfl, hB ▸ HB0.out.trans (HBA.out.mono (Nat.le_of_lt (hB ▸ HZ.out)))⟩
          have d5 : decide (z < -1) = false := by simp; omega
          by_cases z1 : (n1 : Int) ≤ z
          · have d6 : decide ((n1 : Int) ≤ z) = true := by simp [z1]
            have HE := hide (right_stop HHR.out HHU.out (by rw [row_bad (n := nx.length) hz (.inr (by rw [H0.out]; exact z1))]; simp))
            clear hz
            go_wp2
            go_ret
            exact ⟨by rw [HE.out]; rfl, hB ▸ HB0.out.trans (HBA.out.mono (Nat.le_of_lt (hB ▸ HZ.out)))⟩
          have d6 : decide ((n1 : Int) ≤ z) = false := by simp; omega
          have HZZ := hide hz
          clear hz
          go_wp2
          go_roundw
          case rel => exact ⟨j + 1, by omega, by go_num, fun m hm => by
            by_cases e : m = j
            · subst e; rw [List.getD_eq_getElem?_getD, HZZ.out]; exact ⟨by simp; omega, by simp; omega⟩
            · exact HIN.out m (by omega), trivial⟩
          case measure => simp [intOf]; omega
        · have e : j = 16 := by omega
          subst e
          go_wp2
          refine ⟨⟨k + 1, by omega, by go_num, fun m hm => ?_, HBA.out⟩, ?_⟩
          · by_cases e : m = k
            · subst e
              rw [List.getD_eq_getElem?_getD, List.getD_eq_getElem?_getD, HHU.out, HHR.out, Option.getD_some, Option.getD_some, HOKR.out, Bool.true_and]
              unfold okRow
              rw [List.all_eq_true]
              intro z hz
              obtain ⟨i, hi, e⟩ := List.getElem_of_mem hz
              have := HIN.out i (by rw [HRL.out] at hi; exact hi)
              rw [List.getD_eq_getElem?_getD, List.getElem?_eq_getElem hi, e, Option.getD_some] at this
              simp; omega
            · exact HOK.out m (by omega)
          · simp [intOf]; omega
    · have e : k = n1 := by omega
      subst e
      have HE := hide (show rightD nx ru = true from by
        unfold rightD
        simp only [Bool.and_eq_true, decide_eq_true_eq, List.all_eq_true, List.mem_range]
        exact ⟨by rw [H0.out]; omega, by rw [H0.out]; omega, by rw [H0.out, H1.out], fun i hi => by have := HOK.out i (by rw [H0.out] at hi; exact hi); rw [Bool.and_eq_true] at this; rw [H0.out]; exact this⟩)
      go_wp2
      go_ret
      exact ⟨by rw [HE.out]; rfl, hB ▸ HB0.out.trans (HBW.out.mono (Nat.le_of_lt (hB ▸ HZ.out)))⟩
end Go.Proofs.YtbbfjjjnifomgaaGreatDoor.A



/- The program's Run, Match, Longest. -/
namespace Go.Proofs.YtbbfjjjnifomgaaGreatDoor.A
open Go.RowKit

/-- A machine without free steps in memory. -/
structure Dm (w : World) (a0 a1 : Option Addr) (n0 n1 : Nat) (nx : List (List Int)) (ru : List Int) : Prop where
  l0 : nx.length = n0
  l1 : ru.length = n1
  dr : Dr w a0 nx
  wd : Wd w a1 ru
  m0 : n0 ≤ maxLen
  m1 : n1 ≤ maxLen
theorem dm_below' {w w' : World} {a0 a1 : Option Addr} {n0 n1 : Nat} {nx : List (List Int)} {ru : List Int} (hb : Below w.heap.size w w') (h : Dm w a0 a1 n0 n1 nx ru) : Dm w' a0 a1 n0 n1 nx ru :=
  ⟨h.l0, h.l1, dr_below hb h.dr, wd_below hb h.wd, h.m0, h.m1⟩
theorem dm_len {w : World} {a0 a1 : Option Addr} {n0 n1 : Nat} {nx : List (List Int)} {ru : List Int} (h : Dm w a0 a1 n0 n1 nx ru) : ∀ x ∈ nx, x.length = 16 := fun x hx => by
  obtain ⟨i, hi, e⟩ := List.getElem_of_mem hx
  exact (h.dr i x (by rw [List.getElem?_eq_getElem hi, e])).1
def runR (nx : List (List Int)) (ru word : List Int) : Int := if rightD nx ru = true then runF nx word word.length else -1
def matR (nx : List (List Int)) (ru word : List Int) : Int := if 0 ≤ runR nx ru word then ru.getD (runR nx ru word).toNat 0 else -1

/-- What Longest tells. -/
def longR (nx : List (List Int)) (ru word : List Int) (f : Int) : Int × Int := if rightD nx ru = true ∧ 0 ≤ f ∧ f ≤ (word.length : Int) then lgF nx ru (word.drop f.toNat) f (word.length - f.toNat) else (-1, -1)
theorem long_no {nx : List (List Int)} {ru word : List Int} {f : Int} (h : ¬ (rightD nx ru = true ∧ 0 ≤ f ∧ f ≤ (word.length : Int))) : longR nx ru word f = (-1, -1) := by unfold longR; rw [if_neg h]

theorem wd_drop {w : World} {a : Option Addr} {word : List Int} (h : Wd w a word) (s : Nat) : Wd w (Option.map (fun x => x.add s) a) (word.drop s) := fun i c hc => by
  rw [List.getElem?_drop] at hc
  obtain ⟨b, off, rfl, k⟩ := h (s + i) c hc
  exact ⟨b, off + s, by rw [Option.map_some, add_at], by rw [Nat.add_assoc]; exact k⟩
theorem lg_some {nx : List (List Int)} {ru word : List Int} {f : Int} {k st : Nat} {r : Int} (h : runF nx word (k + 1) = st) (hr : ru[st]? = some r) : lgF nx ru word f (k + 1) = if r ≠ -1 then (f + (k : Int) + 1, r) else lgF nx ru word f k := by
  show (if 0 ≤ runF nx word (k + 1) ∧ ru.getD (runF nx word (k + 1)).toNat 0 ≠ -1 then (f + (k : Int) + 1, ru.getD (runF nx word (k + 1)).toNat 0) else lgF nx ru word f k) = _
  rw [h, show ((st : Nat) : Int).toNat = st by omega, List.getD_eq_getElem?_getD, hr, Option.getD_some]
  by_cases e : r ≠ -1
  · rw [if_pos ⟨by omega, e⟩, if_pos e]
  · rw [if_neg (fun q => e q.2), if_neg e]

set_option maxRecDepth 100000 in
set_option maxHeartbeats 3200000 in
theorem dlong_any (a0 a1 : Option Addr) (n0 n1 c0 c1 : Nat) (nx : List (List Int)) (ru : List Int) (a : Option Addr) (len cap : Nat) (word : List Int) (f : Int) (w : World) (hm : Dm w a0 a1 n0 n1 nx ru) (hz : word.length = len) (hl : len ≤ cap) (hc : cap ≤ maxLen) (hW : Wd w a word) :
    Calls Tryz.prog 53 #[.agg #[.slice a0 n0 c0, .slice a1 n1 c1], .slice a len cap, .int .i64 f] w fun e w' => e = .returned (.tuple #[.int .i64 (longR nx ru word f).1, .int .i64 (longR nx ru word f).2]) ∧ Below w.heap.size w w' := by
  have HX := hide (dtwo_new w (.slice a0 n0 c0) (.slice a1 n1 c1))
  have hb0 := (Below.refl w.heap.size w).alloc (Nat.le_refl _) (.cells #[.slice a0 n0 c0, .slice a1 n1 c1] 25)
  have HB0 := hide hb0
  have HM := hide (dm_below' hb0 hm)
  have HW := hide (wd_below hb0 hW)
  have HZ := hide hz
  have HZZ := hide (show w.heap.size < (w.alloc (.cells #[.slice a0 n0 c0, .slice a1 n1 c1] 25)).heap.size by simp)
  obtain ⟨p0, p1⟩ := HX.out
  unfold maxLen at hc
  clear hb0 hm hW hz
  have HRT := hide (dright_any a0 a1 n0 n1 c0 c1 nx ru _ HM.out.l0 HM.out.l1 HM.out.dr HM.out.wd HM.out.m0 HM.out.m1)
  by_cases hok : ¬ (rightD nx ru = true ∧ 0 ≤ f ∧ f ≤ (word.length : Int))
  · have HE := hide (long_no hok)
    cases hr : rightD nx ru
    · go_enter Tryz.func53, Tryz.ntmps53
      go_wp2_with fail
      refine HRT.out.mono ?_
      rintro e w1 ⟨rfl, hb1⟩
      have HB1 := hide (HB0.out.trans (hb1.mono HB0.out.size))
      rw [hr]
      clear hb1 p0 p1 hok hr HRT
      go_wp2
      go_ret2
      exact ⟨by rw [HE.out]; rfl, HB1.out⟩
    · have hff : f < 0 ∨ (len : Int) < f := by
        rw [HZ.out] at hok
        rcases Int.lt_or_le f 0 with h | h
        · exact .inl h
        · right
          rcases Int.lt_or_le (len : Int) f with h2 | h2
          · exact h2
          · exact absurd ⟨hr, h, h2⟩ hok
      by_cases f0 : f < 0
      · have d0 : decide (f < 0) = true := by simp [f0]
        go_enter Tryz.func53, Tryz.ntmps53
        go_wp2_with fail
        refine HRT.out.mono ?_
        rintro e w1 ⟨rfl, hb1⟩
        have HB1 := hide (HB0.out.trans (hb1.mono HB0.out.size))
        rw [hr]
        clear hb1 p0 p1 hok hr hff HRT
        go_wp2
        go_ret2
        exact ⟨by rw [HE.out]; rfl, HB1.out⟩
      · have d0 : decide (f < 0) = false := by simp; omega
        have d1 : decide ((len : Int) < f) = true := by simp; omega
        go_enter Tryz.func53, Tryz.ntmps53
        go_wp2_with fail
        refine HRT.out.mono ?_
        rintro e w1 ⟨rfl, hb1⟩
        have HB1 := hide (HB0.out.trans (hb1.mono HB0.out.size))
        rw [hr]
        clear hb1 p0 p1 hok hr hff HRT
        go_wp2
        go_ret2
        exact ⟨by rw [HE.out]; rfl, HB1.out⟩
  · obtain ⟨hr, f0, f1⟩ : rightD nx ru = true ∧ 0 ≤ f ∧ f ≤ (word.length : Int) := Classical.not_not.1 hok
    obtain ⟨s, rfl⟩ : ∃ s : Nat, f = s := ⟨f.toNat, by omega⟩
    rw [HZ.out] at f1
    have hsl : s ≤ len := by omega
    have HE := hide (show longR nx ru word s = lgF nx ru (word.drop s) s (len - s) by unfold longR; rw [if_pos ⟨hr, by omega, by rw [HZ.out]; omega⟩, HZ.out, show ((s : Nat) : Int).toNat = s by omega])
    have HR := hide hr
    have d0 : decide ((s : Int) < 0) = false := by simp
    have d1 : decide ((len : Int) < (s : Int)) = false := by simp; omega
    clear hok f0 f1
    go_enter Tryz.func53, Tryz.ntmps53
    go_wp2_with fail
    refine HRT.out.mono ?_
    rintro e w1 ⟨rfl, hb1⟩
    have HB1 := hide (HB0.out.trans (hb1.mono HB0.out.size))
    have HM1 := hide (dm_below' hb1 HM.out)
    have HW1 := hide (wd_below hb1 HW.out)
    have HX1 := hide (And.intro ((hb1.cell (p := ⟨w.heap.size, 0, none⟩) HZZ.out).trans HX.out.1) ((hb1.cell (p := ⟨w.heap.size, 1, none⟩) HZZ.out).trans HX.out.2))
    have HP1 := hide (show w.heap.size < w1.heap.size by have := hb1.size; have := HZZ.out; omega)
    rw [hr]
    clear hb1 p0 p1 HX HM HW hr HRT
    generalize hB : w.heap.size = B at *
    have HWD := hide (wd_drop HW1.out s)
    have HLD := hide (show (word.drop s).length = len - s by rw [List.length_drop, HZ.out])
    have HWD0 := hide (show len - s = 0 → Wd w1 a (word.drop s) from fun e i c hc => by
      have := (List.getElem?_eq_some_iff.1 hc).1
      rw [HLD.out] at this; omega)
    have hnl : s + (len - s) ≤ 2 ^ 63 - 1 := by omega
    go_wp2_with fail
    case inl =>
      have h0 : len - s = 0 := by omega
      have HWX := hide (HWD0.out h0)
      clear h0
      generalize len - s = nl at *
      clear HWD HWD0
      generalize a = a2 at *
      obtain ⟨wd, hwd⟩ : ∃ wd, word.drop s = wd := ⟨_, rfl⟩
      rw [hwd] at HE HLD HWX
      clear hwd
      go_loopw [8, 9, 10, 11, 12, 32] (fun e r u _ _ i wr => ∃ k st : Nat, k ≤ nl ∧ i = .int .i64 k ∧ u = .int .i64 st ∧ runF nx wd k = st ∧ e = .int .i64 (lgF nx ru wd s k).1 ∧ r = .int .i64 (lgF nx ru wd s k).2 ∧ Below w1.heap.size w1 wr) (fun _ _ _ _ _ i _ => nl - (intOf i).toNat)
      case atStart => exact ⟨0, 0, Nat.zero_le _, rfl, rfl, rfl, rfl, rfl, Below.refl _ _⟩
      case round =>
        obtain ⟨k, st, hk, rfl, rfl, hst, rfl, rfl, hb⟩ := hrel
        have HST := hide hst
        have HBW := hide hb
        have hsr : (st : Int) < (nx.length : Int) := by rw [← hst]; exact (run_rng HR.out (dm_len HM1.out) wd k).2
        have HSR := hide (show st < n0 by rw [← HM1.out.l0]; omega)
        clear hst hsr hb
        by_cases hlt : k < nl
        · obtain ⟨c, hc⟩ : ∃ c, wd[k]? = some c := ⟨_, List.getElem?_eq_getElem (by rw [HLD.out]; exact hlt)⟩
          obtain ⟨b, off, rfl, k0⟩ := wd_below HBW.out HWX.out k c hc
          have p0 := (HBW.out.cell (p := ⟨B, 0, none⟩) HP1.out).trans HX1.out.1
          have p1 := (HBW.out.cell (p := ⟨B, 1, none⟩) HP1.out).trans HX1.out.2
          have HNX := hide (show runF nx wd (k + 1) = stepF nx st c by show stepF nx (runF nx wd k) (wd.getD k 0) = _; rw [HST.out, List.getD_eq_getElem?_getD, hc]; rfl)
          have i3 : (0 : Int) ≤ (k : Int) := by omega
          have i4 : (k : Int) < (nl : Int) := by omega
          clear hc
          go_wp2_with fail
          refine (dstep_any a0 n0 c0 _ nx st c wr HM1.out.l0 (dm_below' HBW.out HM1.out).dr HSR.out).mono ?_
          rintro e w2 ⟨rfl, hb2⟩
          have HB2 := hide (HBW.out.trans (hb2.mono HBW.out.size))
          have hrg := run_rng HR.out (dm_len HM1.out) wd (k + 1)
          rw [HNX.out] at hrg
          clear hb2 p0 p1 k0
          by_cases hdead : stepF nx st c = -1
          · have HE2 := hide (show lgF nx ru wd s nl = lgF nx ru wd s k by
              have := lg_dead (nx := nx) (ru := ru) (word := wd) (f := (s : Int)) (k := k + 1) (by rw [HNX.out]; exact hdead) k (Nat.le_refl _) (nl - k)
              rw [show k + (nl - k) = nl by omega] at this; exact this)
            rw [hdead]
            clear hdead hrg
            go_wp2
            go_ret2
            exact ⟨by rw [HE.out, HE2.out]; rfl, hB ▸ HB1.out.trans (HB2.out.mono (Nat.le_of_lt HP1.out))⟩
          · obtain ⟨s2, hs2⟩ : ∃ s2 : Nat, stepF nx st c = s2 := ⟨(stepF nx st c).toNat, by omega⟩
            rw [hs2] at hdead hrg ⊢
            have HN2 := hide (HNX.out.trans hs2)
            have d5 : ((s2 : Int) == -1) = false := by simp
            have hru := (right_open HR.out).2.2.1
            have hl1 := HM1.out.l1
            obtain ⟨r, hr⟩ : ∃ r, ru[s2]? = some r := ⟨_, List.getElem?_eq_getElem (by omega)⟩
            obtain ⟨b3, o3, rfl, k3⟩ := wd_below HB2.out HM1.out.wd s2 r hr
            have p1 := (HB2.out.cell (p := ⟨B, 1, none⟩) HP1.out).trans HX1.out.2
            have i5 : (0 : Int) ≤ (s2 : Int) := by omega
            have i6 : (s2 : Int) < (n1 : Int) := by omega
            have HLS := hide (lg_some (f := (s : Int)) HN2.out hr)
            have hsk : s + k + 1 ≤ 2 ^ 63 - 1 := by omega
            clear hs2 hdead hrg hru hl1 hr
            by_cases r0 : r = -1
            · subst r0
              have HLS2 := hide (show lgF nx ru wd s (k + 1) = lgF nx ru wd s k by rw [HLS.out, if_neg (by simp)])
              go_wp2
              go_roundw
              case rel => exact ⟨k + 1, s2, by omega, by go_num, rfl, HN2.out, by rw [HLS2.out], by rw [HLS2.out], HB2.out⟩
              case measure => simp [intOf]; omega
            · have d6 : (r == -1) = false := by simp [r0]
              have HLS2 := hide (show lgF nx ru wd s (k + 1) = ((s : Int) + (k : Int) + 1, r) by rw [HLS.out, if_pos r0])
              clear r0
              go_wp2
              go_quiet (fail)
              go_wp2
              go_roundw
              case rel => exact ⟨k + 1, s2, by omega, by go_num, rfl, HN2.out, by rw [HLS2.out], by rw [HLS2.out], below_drewN HB2.out _⟩
              case measure => simp [intOf]; omega
        · have e : k = nl := by omega
          subst e
          go_wp2
          go_ret2
          exact ⟨by rw [HE.out]; rfl, hB ▸ HB1.out.trans (HBW.out.mono (Nat.le_of_lt HP1.out))⟩
    case inr =>
      clear HWD0
      generalize Option.map (fun x => x.add s) a = a2 at *
      generalize len - s = nl at *
      have HWX := HWD
      obtain ⟨wd, hwd⟩ : ∃ wd, word.drop s = wd := ⟨_, rfl⟩
      rw [hwd] at HE HLD HWX
      clear hwd
      go_loopw [8, 9, 10, 11, 12, 32] (fun e r u _ _ i wr => ∃ k st : Nat, k ≤ nl ∧ i = .int .i64 k ∧ u = .int .i64 st ∧ runF nx wd k = st ∧ e = .int .i64 (lgF nx ru wd s k).1 ∧ r = .int .i64 (lgF nx ru wd s k).2 ∧ Below w1.heap.size w1 wr) (fun _ _ _ _ _ i _ => nl - (intOf i).toNat)
      case atStart => exact ⟨0, 0, Nat.zero_le _, rfl, rfl, rfl, rfl, rfl, Below.refl _ _⟩
      case round =>
        obtain ⟨k, st, hk, rfl, rfl, hst, rfl, rfl, hb⟩ := hrel
        have HST := hide hst
        have HBW := hide hb
        have hsr : (st : Int) < (nx.length : Int) := by rw [← hst]; exact (run_rng HR.out (dm_len HM1.out) wd k).2
        have HSR := hide (show st < n0 by rw [← HM1.out.l0]; omega)
        clear hst hsr hb
        by_cases hlt : k < nl
        · obtain ⟨c, hc⟩ : ∃ c, wd[k]? = some c := ⟨_, List.getElem?_eq_getElem (by rw [HLD.out]; exact hlt)⟩
          obtain ⟨b, off, rfl, k0⟩ := wd_below HBW.out HWX.out k c hc
          have p0 := (HBW.out.cell (p := ⟨B, 0, none⟩) HP1.out).trans HX1.out.1
          have p1 := (HBW.out.cell (p := ⟨B, 1, none⟩) HP1.out).trans HX1.out.2
          have HNX := hide (show runF nx wd (k + 1) = stepF nx st c by show stepF nx (runF nx wd k) (wd.getD k 0) = _; rw [HST.out, List.getD_eq_getElem?_getD, hc]; rfl)
          have i3 : (0 : Int) ≤ (k : Int) := by omega
          have i4 : (k : Int) < (nl : Int) := by omega
          clear hc
          go_wp2_with fail
          refine (dstep_any a0 n0 c0 _ nx st c wr HM1.out.l0 (dm_below' HBW.out HM1.out).dr HSR.out).mono ?_
          rintro e w2 ⟨rfl, hb2⟩
          have HB2 := hide (HBW.out.trans (hb2.mono HBW.out.size))
          have hrg := run_rng HR.out (dm_len HM1.out) wd (k + 1)
          rw [HNX.out] at hrg
          clear hb2 p0 p1 k0
          by_cases hdead : stepF nx st c = -1
          · have HE2 := hide (show lgF nx ru wd s nl = lgF nx ru wd s k by
              have := lg_dead (nx := nx) (ru := ru) (word := wd) (f := (s : Int)) (k := k + 1) (by rw [HNX.out]; exact hdead) k (Nat.le_refl _) (nl - k)
              rw [show k + (nl - k) = nl by omega] at this; exact this)
            rw [hdead]
            clear hdead hrg
            go_wp2
            go_ret2
            exact ⟨by rw [HE.out, HE2.out]; rfl, hB ▸ HB1.out.trans (HB2.out.mono (Nat.le_of_lt HP1.out))⟩
          · obtain ⟨s2, hs2⟩ : ∃ s2 : Nat, stepF nx st c = s2 := ⟨(stepF nx st c).toNat, by omega⟩
            rw [hs2] at hdead hrg ⊢
            have HN2 := hide (HNX.out.trans hs2)
            have d5 : ((s2 : Int) == -1) = false := by simp
            have hru := (right_open HR.out).2.2.1
            have hl1 := HM1.out.l1
            obtain ⟨r, hr⟩ : ∃ r, ru[s2]? = some r := ⟨_, List.getElem?_eq_getElem (by omega)⟩
            obtain ⟨b3, o3, rfl, k3⟩ := wd_below HB2.out HM1.out.wd s2 r hr
            have p1 := (HB2.out.cell (p := ⟨B, 1, none⟩) HP1.out).trans HX1.out.2
            have i5 : (0 : Int) ≤ (s2 : Int) := by omega
            have i6 : (s2 : Int) < (n1 : Int) := by omega
            have HLS := hide (lg_some (f := (s : Int)) HN2.out hr)
            have hsk : s + k + 1 ≤ 2 ^ 63 - 1 := by omega
            clear hs2 hdead hrg hru hl1 hr
            by_cases r0 : r = -1
            · subst r0
              have HLS2 := hide (show lgF nx ru wd s (k + 1) = lgF nx ru wd s k by rw [HLS.out, if_neg (by simp)])
              go_wp2
              go_roundw
              case rel => exact ⟨k + 1, s2, by omega, by go_num, rfl, HN2.out, by rw [HLS2.out], by rw [HLS2.out], HB2.out⟩
              case measure => simp [intOf]; omega
            · have d6 : (r == -1) = false := by simp [r0]
              have HLS2 := hide (show lgF nx ru wd s (k + 1) = ((s : Int) + (k : Int) + 1, r) by rw [HLS.out, if_pos r0])
              clear r0
              go_wp2
              go_quiet (fail)
              go_wp2
              go_roundw
              case rel => exact ⟨k + 1, s2, by omega, by go_num, rfl, HN2.out, by rw [HLS2.out], by rw [HLS2.out], below_drewN HB2.out _⟩
              case measure => simp [intOf]; omega
        · have e : k = nl := by omega
          subst e
          go_wp2
          go_ret2
          exact ⟨by rw [HE.out]; rfl, hB ▸ HB1.out.trans (HBW.out.mono (Nat.le_of_lt HP1.out))⟩
end Go.Proofs.YtbbfjjjnifomgaaGreatDoor.A



/- The lists of a machine of expressions, and where its sets go, are there; the machine of one small grammar. -/
namespace Go.Proofs.YtbbfjjjnifomgaaGreatDoor.A
open Go.RowKit

theorem lists_is {n : Nat} {l : List (Ex n)} (h : ∀ x ∈ l, full n x ∧ shapesE n x = true) (N : Nat) : Is (FrA l) (SpA l) N ((List.range N).map (layA l 1 mc0).fr) ((List.range N).map (layA l 1 mc0).st) ((List.range N).map (layA l 1 mc0).to) := by
  have at_ : ∀ {α : Type} (f : Nat → α) (i : Nat) (x : α), ((List.range N).map f)[i]? = some x → i < N ∧ f i = x := fun f i x hx => by
    have hi : i < N := by have := (List.getElem?_eq_some_iff.1 hx).1; simpa using this
    rw [List.getElem?_map, List.getElem?_range hi, Option.map_some] at hx
    exact ⟨hi, Option.some.inj hx⟩
  have hri : Rising (layA l 1 mc0) := layA_rising l 1 mc0 (fun i => by simp [mc0])
  refine ⟨by simp, by simp, by simp, fun i m hm => ?_, fun i m hm z => ?_, fun i s t hs ht => ?_⟩
  · rw [← (at_ _ i m hm).2]; exact hri i
  · rw [← (at_ _ i m hm).2]; exact build_fr h i z
  · rw [← (at_ _ i s hs).2, ← (at_ _ i t ht).2]
    rcases layA_sets l 1 mc0 h i with ⟨u, j, hp, e1, e2⟩ | ⟨hn, e1, e2⟩
    · rw [e1, e2]; exact .inl ⟨j, hp, rfl⟩
    · rw [e1, e2]; exact .inr ⟨fun u j hp => hn ⟨u, j, hp⟩, rfl, rfl⟩
theorem rules_are {n : Nat} (l : List (Ex n)) (k N : Nat) : ∃ rs : List Int, rs.length = N ∧ RsI l k rs := by
  have key : ∀ i : Nat, ∃ r : Int, (∃ (m : Nat) (p : Nat × Ex n), m < k ∧ (layE 1 l)[m]? = some p ∧ i = en p ∧ r = (m : Int)) ∨ ((∀ (m : Nat) (p : Nat × Ex n), m < k → (layE 1 l)[m]? = some p → i ≠ en p) ∧ r = -1) := fun i => by
    by_cases h : ∃ (m : Nat) (p : Nat × Ex n), m < k ∧ (layE 1 l)[m]? = some p ∧ i = en p
    · obtain ⟨m, p, h1, h2, h3⟩ := h
      exact ⟨m, .inl ⟨m, p, h1, h2, h3, rfl⟩⟩
    · exact ⟨-1, .inr ⟨fun m p h1 h2 h3 => h ⟨m, p, h1, h2, h3⟩, rfl⟩⟩
  refine ⟨(List.range N).map fun i => Classical.choose (key i), by simp, fun i r hr => ?_⟩
  have hi : i < N := by have := (List.getElem?_eq_some_iff.1 hr).1; simpa using this
  rw [List.getElem?_map, List.getElem?_range hi, Option.map_some] at hr
  rw [← Option.some.inj hr]
  exact Classical.choose_spec (key i)
theorem close_is (fs : List (List Int)) (N : Nat) (o : Nat → Bool) : ∃ g, IsCl fs N o g :=
  ⟨fun j => @decide (Rch fs N o j) (Classical.propDecidable _), fun j _ => by simp⟩
theorem tr_is (fs : List (List Int)) (ss : List Nat) (ts : List Int) (N : Nat) : ∃ tr, TrS fs ss ts N tr := by
  refine ⟨fun s c => lstL (Classical.choose (close_is fs N (stpB ss ts (c : Int) (tblB s s.length) N))) N, fun g c hc => ?_⟩
  refine ⟨_, isCl_congr (fun j hj => ?_) (Classical.choose_spec (close_is fs N (stpB ss ts (c : Int) (tblB (lstL g N) (lstL g N).length) N))), rfl⟩
  exact stp_congr (fun i hi => tbl_lst g N i hi) j

/-- Where two tell the same of all sets that come up, all is the same. -/
theorem rowF_congr {tr tr' : List Int → Nat → List Int} {s : List Int} {S : List (List Int)} (h : ∀ c, c < 16 → tr s c = tr' s c) : ∀ k, k ≤ 16 → rowF tr s S k = rowF tr' s S k
  | 0, _ => rfl
  | k + 1, hk => by
    show ((findF (rowF tr s S k).1 (tr s k)).1, (rowF tr s S k).2 ++ [(findF (rowF tr s S k).1 (tr s k)).2]) = _
    rw [rowF_congr h k (by omega), h k (by omega)]; rfl
theorem stF_congr {tr tr' : List Int → Nat → List Int} {ls ls' : List Int → Int} {start : List Int} (P : List Int → Prop) (h0 : P start) (ht : ∀ s, P s → ∀ c, c < 16 → tr s c = tr' s c ∧ (tr' s c ≠ [] → P (tr' s c))) (hl : ∀ s, P s → ls s = ls' s) : ∀ k, stF tr ls start k = stF tr' ls' start k
  | 0 => rfl
  | k + 1 => by
    have ih := stF_congr P h0 ht hl k
    have hall := st_all (tr := tr') (ls := ls') (start := start) (P := P) h0 (fun s hs c hc => (ht s hs c hc).2) k
    cases e : (stF tr' ls' start k).1[k]? with
    | none => rw [st_none (by rw [ih]; exact e), st_none e, ih]
    | some s =>
      have hs := hall s (List.mem_of_getElem? e)
      rw [st_some (by rw [ih]; exact e), st_some e, ih, rowF_congr (fun c hc => (ht s hs c hc).1) 16 (by omega), hl s hs]

/-- Marks, told by a list of what is come to, one by one. -/
def ordB (fs : List (List Int)) (o : Nat → Bool) : List Nat → List Nat → Bool
  | _, [] => true
  | seen, j :: r => (o j || seen.any fun i => (fs.getD i []).contains (j : Int)) && ordB fs o (j :: seen) r
def chkB (fs : List (List Int)) (N : Nat) (o : Nat → Bool) (ord : List Nat) : Bool :=
  ordB fs o [] ord && (ord.all fun j => decide (j < N)) && ((List.range N).all fun j => !o j || ord.contains j) && (ord.all fun i => (fs.getD i []).all fun z => decide (0 ≤ z) && ord.contains z.toNat)
theorem ord_rch {fs : List (List Int)} {N : Nat} {o : Nat → Bool} : ∀ (ord seen : List Nat), (∀ j ∈ ord, j < N) → (∀ j ∈ seen, Rch fs N o j) → ordB fs o seen ord = true → ∀ j ∈ ord, Rch fs N o j
  | [], _, _, _, _, j, hj => by cases hj
  | x :: r, seen, hN, hs, h, j, hj => by
    unfold ordB at h
    rw [Bool.and_eq_true, Bool.or_eq_true] at h
    have hx : Rch fs N o x := by
      rcases h.1 with h1 | h1
      · exact .here (hN x (by simp)) h1
      · rw [List.any_eq_true] at h1
        obtain ⟨i, hi, h2⟩ := h1
        cases e : fs[i]? with
        | none => rw [List.getD_eq_getElem?_getD, e] at h2; simp at h2
        | some l =>
          rw [List.getD_eq_getElem?_getD, e, Option.getD_some] at h2
          exact .on (hs i hi) e (by simpa using h2)
    rcases List.mem_cons.1 hj with rfl | hj
    · exact hx
    · exact ord_rch r (x :: seen) (fun y hy => hN y (by simp [hy])) (fun y hy => by
        rcases List.mem_cons.1 hy with rfl | hy
        · exact hx
        · exact hs y hy) h.2 j hj
theorem chk_is {fs : List (List Int)} {N : Nat} {o : Nat → Bool} {ord : List Nat} (h : chkB fs N o ord = true) : IsCl fs N o (fun j => ord.contains j) := by
  unfold chkB at h
  simp only [Bool.and_eq_true, List.all_eq_true, decide_eq_true_eq, List.mem_range] at h
  obtain ⟨⟨⟨h1, h2⟩, h3⟩, h4⟩ := h
  have key : ∀ j, Rch fs N o j → ord.contains j = true := fun j r => by
    induction r with
    | here hn ho =>
      have := h3 _ hn
      rw [ho] at this; simpa using this
    | @on i j l _ hl hj ih =>
      have := h4 i (by simpa using ih) (j : Int) (by rw [List.getD_eq_getElem?_getD, hl]; exact hj)
      have e : ((j : Int)).toNat = j := by omega
      rw [e] at this; exact this.2
  exact fun j hj => ⟨fun e => ord_rch ord [] h2 (fun _ h => by cases h) h1 j (by simpa using e), key j⟩
end Go.Proofs.YtbbfjjjnifomgaaGreatDoor.A


