/- Blocks as keys of a map. -/
import Derived.Test.YtooiomfcemceiaaO
import Derived.Maps.OwnSet
import Derived.Maps.AppendAt
import Derived.DeepKeys5
namespace Go.Proofs.Ytooiomfcemceiaa.A
open Go.RowKit Go.Maps

theorem laid : laidOutB Try.prog = true := by kernel_rfl
theorem row62 : 62 < Try.prog.types.size := of_decide_eq_true (by kernel_rfl)
theorem keyT62 : Try.prog.keyType 62 = true := by kernel_rfl
theorem small : Try.prog.types.size + 2 ≤ 10000 := of_decide_eq_true (by kernel_rfl)
theorem law62 : Keyed Try.prog 62 := Keyed.of_law (deep_law_gate laid small row62 keyT62 (by rw [Try.underlying62]))
theorem types_succ : ∃ m, Try.prog.types.size = m + 1 := ⟨112, by kernel_rfl⟩
theorem cells62 : Try.prog.cellsOf 62 = 128 := by kernel_rfl
theorem cells5 : Try.prog.cellsOf 5 = 1 := by kernel_rfl
theorem u8_wf {a : Int} (h0 : 0 ≤ a) (h1 : a ≤ 255) : (Lit.int .u8 a).wf = true := WalkArith.wf_u8 (by omega)

/-- Numbers that a byte holds. -/
def Byt (g : Nat → Int) : Prop := ∀ j, j < 128 → 0 ≤ g j ∧ g j ≤ 255
theorem lits_some {g : Nat → Int} (hg : Byt g) (m : Nat) : ∃ ls, Try.prog.keyLits (m + 2) 62 (rowU g).toList = some ls := by
  have hl : (rowU g).toList.length = 128 := by simp [rowU]
  have hu : Try.prog.keyLits (m + 2) 62 (rowU g).toList = if (rowU g).toList.length = Try.prog.cellsOf 62 then ((List.range 128).mapM fun i => Try.prog.keyLits (m + 1) 5 (((rowU g).toList.drop (i * Try.prog.cellsOf 5)).take (Try.prog.cellsOf 5))).map List.flatten else none := by
    conv => lhs; unfold Program.keyLits
    simp only [Try.underlying62]
  rw [hu, if_pos (by rw [cells62, hl]), cells5]
  have : ∀ (L : List Nat), (∀ i ∈ L, i < 128) → ∃ r, (L.mapM fun i => Try.prog.keyLits (m + 1) 5 (((rowU g).toList.drop (i * 1)).take 1)) = some r := by
    intro L
    induction L with
    | nil => intro _; exact ⟨[], rfl⟩
    | cons i r ih =>
      intro h
      obtain ⟨r', e⟩ := ih (fun j hj => h j (by simp [hj]))
      have hi := h i (by simp)
      have e1 : ((rowU g).toList.drop (i * 1)).take 1 = [.int .u8 (g i)] := by
        rw [Nat.mul_one]
        have : (rowU g).toList[i]? = some (.int .u8 (g i)) := by have := rowU_at g i hi; simpa using this
        rw [List.drop_eq_getElem_cons (by omega)]
        rw [List.getElem?_eq_getElem (by omega)] at this
        simp only [Option.some.injEq] at this
        rw [this]
        rfl
      rw [List.mapM_cons, e1, e]
      simp only [Program.keyLits, Try.underlying5]
      rw [u8_wf (hg i hi).1 (hg i hi).2]
      exact ⟨_, rfl⟩
  obtain ⟨r, e⟩ := this (List.range 128) (fun i hi => by simpa using hi)
  rw [e]
  exact ⟨_, rfl⟩
/-- The key of a block. -/
def klP (P : Program) (g : Nat → Int) : Lit := (keyOf P 62 (.agg (rowU g))).getD (.bool false)
theorem key_of {g : Nat → Int} (hg : Byt g) : keyOf Try.prog 62 (.agg (rowU g)) = some (klP Try.prog g) := by
  have : ∃ l, keyOf Try.prog 62 (.agg (rowU g)) = some l := by
    obtain ⟨m, hm⟩ := types_succ
    obtain ⟨ls, e⟩ := lits_some hg m
    simp only [keyOf, Try.underlying62, keyT62, Value.formed, rowU_size, cells62, Value.cells, hm]
    rw [e]
    exact ⟨_, rfl⟩
  obtain ⟨l, e⟩ := this
  unfold klP
  rw [e]; rfl
theorem kl_inj {g h : Nat → Int} (hg : Byt g) (hh : Byt h) (e : klP Try.prog g = klP Try.prog h) : ∀ j, j < 128 → g j = h j := by
  have h1 := key_of hg
  rw [e] at h1
  have h2 := law62.inj h1 (key_of hh)
  intro j hj
  have h3 : (rowU g)[j]? = (rowU h)[j]? := by rw [Value.agg.inj h2]
  rw [rowU_at _ _ hj, rowU_at _ _ hj] at h3
  simpa using h3
end Go.Proofs.Ytooiomfcemceiaa.A
