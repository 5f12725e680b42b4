/- Arrays of numbers held against each other. -/
import Derived.Test.YtooiomfcemceiaaMb
namespace Go.Proofs.Ytooiomfcemceiaa.A
open Go.RowKit Go.Maps

/-- A list of numbers as cells. -/
def cI (x : List Int) : List Value := x.map (Value.int .i64)
theorem cI_len (x : List Int) : (cI x).length = x.length := by simp [cI]
theorem cI_one (x : List Int) : ∀ v ∈ cI x, v.oneCell' = true := by
  intro v hv
  simp only [cI, List.mem_map] at hv
  obtain ⟨j, _, rfl⟩ := hv
  rfl
/-- 128 numbers that fit. -/
def Fit128 (x : List Int) : Prop := x.length = 128 ∧ ∀ v ∈ x, 0 ≤ v ∧ v ≤ 255
theorem row69 : 69 < Try.prog.types.size := of_decide_eq_true (by kernel_rfl)
theorem keyT69 : Try.prog.keyType 69 = true := by kernel_rfl
theorem wide69 : (match Try.prog.underlying 69 with | some (.array _ _) | some (.struct _) => true | _ => false) = true := by rw [Try.underlying69]
theorem law69 : Keyed Try.prog 69 := Keyed.of_law (deep_law_gate laid small row69 keyT69 wide69)
theorem cells69 : Try.prog.cellsOf 69 = 128 := by kernel_rfl
theorem lits69 {x : List Int} (hx : Fit128 x) (m : Nat) : ∃ ls, Try.prog.keyLits (m + 2) 69 (cI x) = some ls := by
  have hl : (cI x).length = 128 := by rw [cI_len]; exact hx.1
  have hu : Try.prog.keyLits (m + 2) 69 (cI x) = if (cI x).length = Try.prog.cellsOf 69 then ((List.range 128).mapM fun i => Try.prog.keyLits (m + 1) 3 (((cI x).drop (i * Try.prog.cellsOf 3)).take (Try.prog.cellsOf 3))).map List.flatten else none := by
    conv => lhs; unfold Program.keyLits
    simp only [Try.underlying69]
  rw [hu, if_pos (by rw [cells69, hl]), cells3]
  have : ∀ (L : List Nat), (∀ i ∈ L, i < 128) → ∃ r, (L.mapM fun i => Try.prog.keyLits (m + 1) 3 (((cI x).drop (i * 1)).take 1)) = some r := by
    intro L
    induction L with
    | nil => intro _; exact ⟨[], rfl⟩
    | cons i r ih =>
      intro h
      obtain ⟨r', e⟩ := ih (fun j hj => h j (by simp [hj]))
      have hi := h i (by simp)
      have hix : i < x.length := by rw [hx.1]; exact hi
      have e1 : ((cI x).drop (i * 1)).take 1 = [.int .i64 x[i]] := by
        rw [Nat.mul_one, List.drop_eq_getElem_cons (by omega)]
        simp [cI]
      have hv := hx.2 x[i] (List.getElem_mem hix)
      rw [List.mapM_cons, e1, e]
      simp only [Program.keyLits, Try.underlying3]
      rw [WalkArith.wf_i64 (by omega)]
      exact ⟨_, rfl⟩
  obtain ⟨r, e⟩ := this (List.range 128) (fun i hi => by simpa using hi)
  rw [e]
  exact ⟨_, rfl⟩
def kI (P : Program) (x : List Int) : Lit := (keyOf P 69 (.agg (cI x).toArray)).getD (.bool false)
theorem key69 {x : List Int} (hx : Fit128 x) : keyOf Try.prog 69 (.agg (cI x).toArray) = some (kI Try.prog x) := by
  have : ∃ l, keyOf Try.prog 69 (.agg (cI x).toArray) = some l := by
    obtain ⟨m, hm⟩ := types_succ
    obtain ⟨ls, e⟩ := lits69 hx m
    have hsz : (cI x).toArray.size = 128 := by simp [cI_len, hx.1]
    simp only [keyOf, Try.underlying69, keyT69, Value.formed, hsz, cells69, Value.cells, hm]
    rw [e]
    exact ⟨_, rfl⟩
  obtain ⟨l, e⟩ := this
  unfold kI
  rw [e]; rfl
theorem kI_inj {x y : List Int} (hx : Fit128 x) (hy : Fit128 y) (e : kI Try.prog x = kI Try.prog y) : x = y := by
  have h1 := key69 hx
  rw [e] at h1
  have h2 := law69.inj h1 (key69 hy)
  have h3 : cI x = cI y := by simpa using h2
  apply List.ext_getElem?
  intro i
  have h4 : (cI x)[i]? = (cI y)[i]? := by rw [h3]
  simp only [cI, List.getElem?_map] at h4
  cases hx' : x[i]? <;> cases hy' : y[i]? <;> rw [hx', hy'] at h4 <;> simp at h4 ⊢
  exact h4
theorem eq69 {x y : List Int} (hx : Fit128 x) (hy : Fit128 y) (w : World) : (binOp .eql 69 (.agg (cI x).toArray) (.agg (cI y).toArray)).run Try.prog w = .ok (.bool (decide (x = y))) w := by
  obtain ⟨r, h1, h2⟩ := run_equal_deep (P := Try.prog) w (m := Try.prog.types.size + 1) (by have := small; omega) keyT69 wide69 (key69 hx) (key69 hy)
  have h3 : r = decide (x = y) := by
    rw [Bool.eq_iff_iff, h2, decide_eq_true_iff]
    exact ⟨fun e => kI_inj hx hy e, fun e => by rw [e]⟩
  rw [← h3]
  simp only [binOp, Sem.run_bind, h1, Result.andThen_ok, Sem.run_pure]
end Go.Proofs.Ytooiomfcemceiaa.A
