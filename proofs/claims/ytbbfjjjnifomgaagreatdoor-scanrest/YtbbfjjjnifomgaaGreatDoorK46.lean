/- The machine of expressions, told once for every memory; its smallest one. -/
import Derived.WalkKit
import Derived.ProofKit
import Derived.Outline
import Derived.BigQuiet
import Derived.Deep.QuietTactic
import Derived.Below
import Derived.Deep.RegionHeld3
import Derived.OpenShut
import Derived.Deep.Slices
import Derived.Deep.Strs
import Derived.Deep.OwnRows
import Derived.Deep.WholeRow
import Derived.Deep.AppendSrc
import Derived.Deep.Heap
import Derived.Laws.AppendOwnNone
import Derived.Deep.AppendLies
import Derived.Deep.RegionLaw
import Derived.Shelf.Small.Strs
import Derived.Shelf.Strconv.Itoa0
import Derived.Shelf.Strconv.Itoa1
import Derived.Shelf.LaysM
import Derived.Shelf.Strconv.Itoa2
import Derived.Shelf.Strconv.Clone
import Derived.Shelf.Strings.Search1
import Derived.Shelf.Strings.Search2
import Derived.Shelf.Strings.Search3
import Derived.Shelf.Strings.Count
import Derived.Shelf.Strings.Shaped
import Derived.Shelf.Strconv.AppendUint10
import Derived.Shelf.Strconv.AppendInt10
import Derived.Shelf.Strconv.AppendIntPublic10
import Derived.Shelf.Strings.Split
import Derived.Shelf.Strings.SplitShaped
import Derived.Shelf.Bits.Mul64
import Derived.Shelf.Unicode.DecodeSlow
import Derived.Ground.Names2Prog
import Derived.Shelf.Slices.Clone
import Derived.Ground.SlgnProg
import Derived.Shelf.SlicesE.Clone
import Derived.Laws.IdiomStrings
import Derived.Laws.BytesArg
import Derived.Maps.OwnSet
import Derived.Maps.OwnOps
import Derived.Deep.MidRow
import Derived.Deep.Cut
import Derived.Deep.CutRange
import Derived.DeepKeys5
import Derived.Maps.RangeWalk
import Derived.Maps.AppendAt
import Derived.BigRegion
import Derived.WalkLawsBesides
import Derived.Laws.AppendOwn
import Derived.Laws.OwnMore
import Derived.OwnWalk
import Derived.Defers
import Derived.Recover
import Derived.Lib.SplitLaws
import Derived.LaidMore
import Derived.HandedShaped
import Derived.Shelf.Vars
import Derived.MakeChecks
import Derived.Stop.LaidErr
import Derived.Lib.LaidTab
import Derived.WalkSpells
import Derived.Maps.Keyed
import Derived.Laws.Tables
import Derived.Laws.Rows
import Derived.Laws.CopyOwn
import Derived.Deep.LoopGhost
import Derived.Test.YtbbfjjjnifomgaaGreatDoorK1
import Derived.Test.YtbbfjjjnifomgaaGreatDoorK6
import Derived.Test.YtbbfjjjnifomgaaGreatDoorK7
import Derived.Test.YtbbfjjjnifomgaaGreatDoorK8
import Derived.Test.YtbbfjjjnifomgaaGreatDoorK9
import Derived.Test.YtbbfjjjnifomgaaGreatDoorK10
import Derived.Test.YtbbfjjjnifomgaaGreatDoorK11
import Derived.Test.YtbbfjjjnifomgaaGreatDoorK13
import Derived.Test.YtbbfjjjnifomgaaGreatDoorK15
import Derived.Test.YtbbfjjjnifomgaaGreatDoorK16
import Derived.Test.YtbbfjjjnifomgaaGreatDoorK17
import Derived.Test.YtbbfjjjnifomgaaGreatDoorK20
import Derived.Test.YtbbfjjjnifomgaaGreatDoorK23
import Derived.Test.YtbbfjjjnifomgaaGreatDoorK24
import Derived.Test.YtbbfjjjnifomgaaGreatDoorK25
import Derived.Test.YtbbfjjjnifomgaaGreatDoorK26
import Derived.Test.YtbbfjjjnifomgaaGreatDoorK28
import Derived.Test.YtbbfjjjnifomgaaGreatDoorK31
import Derived.Test.YtbbfjjjnifomgaaGreatDoorK33
import Derived.Test.YtbbfjjjnifomgaaGreatDoorK37
import Derived.Test.YtbbfjjjnifomgaaGreatDoorK39
namespace Go.Proofs.YtbbfjjjnifomgaaGreatDoor.A
open Go.RowKit
set_option linter.unusedVariables false

/-- What both builders tell of expressions, wherever these lie. -/
structure Mac {N : Nat} (t : List (Ex N)) (nx : List (List Int)) (ru : List Int) (z : Int) : Prop where
  prog : ∀ (a : Option Addr) (len cap : Nat) (w : World), t.length = len → len ≤ maxLen → Exs w N a t → Tab w.heap.size w → Calls Tryz.prog 81 #[.slice a len cap] w (Res w nx ru z)
  fact : (z = 7 ∧ nx = [] ∧ ru = []) ∨ (z = 0 ∧ rightD nx ru = true ∧ (∀ x ∈ nx, x.length = 16) ∧ ∀ word, matR nx ru word = leastR (hasN t word) t.length 0)

theorem mac_of {N : Nat} {t : List (Ex N)} {w : World} {a : Option Addr} (hx : Exs w N a t) (hm : mayB t = true) {len : Nat} (hlen : t.length = len) (fs : List (List Int)) (ss : List Nat) (ts rs : List Int) (N0 : Nat) (tr : List Int → Nat → List Int) (g0 : Nat → Bool) (hi : Is (FrA t) (SpA t) N0 fs ss ts) (hr : RsI t len rs) (hrl : rs.length = N0) (hN : N0 = posE 1 t len) (htr : TrS fs ss ts N0 tr) (hg0 : IsCl fs N0 (tblB [0] 1) g0) :
    ∃ nx ru z, Mac t nx ru z ∧ ∀ m, m = 201 → (stF tr (lstR rs) (lstL g0 N0) m).1.length ≤ 200 → z = 0 := by
  subst hlen
  have hk := exs_kids hx (rfl : t.length = t.length)
  obtain ⟨hl1, hl2, hful, hsh⟩ := may_open hm hk rfl
  have hN3 : N0 ≤ 3300 := by rw [hN]; exact pos_most hm hk rfl
  have hM := build_mach hful rfl hl2 hi hr hrl hN hN3
  obtain ⟨m, hm201⟩ : ∃ m, m = 201 := ⟨_, rfl⟩
  have T' := tb_of' (tr := tr) (ls := lstR rs) (start := lstL g0 N0) m hm201
  have hP : ∀ (a : Option Addr) (len cap : Nat) (w : World), t.length = len → len ≤ maxLen → Exs w N a t → Tab w.heap.size w → Calls Tryz.prog 81 #[.slice a len cap] w (OutD w (stF tr (lstR rs) (lstL g0 N0) m)) := fun a len cap w hln hl hx ht => by
    subst hln
    have := dbuild_yes7 N a t.length cap t w hl rfl (exs_kids hx rfl) hm fs ss ts rs N0 tr g0 hi hr hrl hN htr hg0 ht
    rw [← hm201] at this; exact this
  have hsm : ∀ m', m' = 201 → (stF tr (lstR rs) (lstL g0 N0) m').1.length ≤ 200 → (stF tr (lstR rs) (lstL g0 N0) m).1.length ≤ 200 := fun m' h1 h2 => by
    rw [hm201, ← h1]; exact h2
  generalize stF tr (lstR rs) (lstL g0 N0) m = σ at T' hP hsm
  by_cases c : 200 < σ.1.length
  · have key : ∀ (w w' : World) (e : Ending), OutD w σ e w' → Res w [] [] 7 e w' := fun w w' e h => by
      unfold OutD at h
      rw [if_pos c] at h
      exact res_no h
    exact ⟨[], [], 7, ⟨fun a len cap w q1 q2 q3 q4 => (hP a len cap w q1 q2 q3 q4).mono fun e w' => key w w' e, .inl ⟨rfl, rfl, rfl⟩⟩, fun m' h1 h2 => by have := hsm m' h1 h2; omega⟩
  · have T := T' (by omega)
    have key : ∀ (w w' : World) (e : Ending), OutD w σ e w' → Res w σ.2.1 σ.2.2 0 e w' := fun w w' e h => by
      unfold OutD at h
      rw [if_neg c] at h
      exact h
    refine ⟨σ.2.1, σ.2.2, 0, ⟨fun a len cap w q1 q2 q3 q4 => (hP a len cap w q1 q2 q3 q4).mono fun e w' => key w w' e, .inr ⟨rfl, tb_right T (fun s => lst_rng hM.rule s (-1) (by omega)), tb_16 T, fun word => ?_⟩⟩, fun _ _ _ => rfl⟩
    obtain ⟨g, hg, _⟩ := set_run htr hg0 T word word.length
    rw [set_mat htr hg0 T hrl hM.rule word g hg]
    exact match_rule word hful hsh rfl hl2 hi hr hrl hN hN3 g hg

theorem mac_is {N : Nat} {t : List (Ex N)} {w : World} {a : Option Addr} (hx : Exs w N a t) (hm : mayB t = true) : ∃ nx ru z, Mac t nx ru z := by
  have hk := exs_kids hx (rfl : t.length = t.length)
  obtain ⟨hl1, hl2, hful, hsh⟩ := may_open hm hk rfl
  obtain ⟨N0, hN⟩ : ∃ N0, N0 = posE 1 t t.length := ⟨_, rfl⟩
  obtain ⟨rs, hrl, hr⟩ := rules_are t t.length N0
  have hi := lists_is (fun x hx => ⟨hful x hx, hsh x hx⟩) N0
  generalize (List.range N0).map (layA t 1 mc0).fr = fs at hi
  generalize (List.range N0).map (layA t 1 mc0).st = ss at hi
  generalize (List.range N0).map (layA t 1 mc0).to = ts at hi
  obtain ⟨tr, htr⟩ := tr_is fs ss ts N0
  obtain ⟨g0, hg0⟩ := close_is fs N0 (tblB [0] 1)
  obtain ⟨nx, ru, z, h, -⟩ := mac_of hx hm rfl fs ss ts rs N0 tr g0 hi hr hrl hN htr hg0
  exact ⟨nx, ru, z, h⟩

/-- The smallest machine of one. -/
def SmOf (nx0 : List (List Int)) (ru0 : List Int) (nx : List (List Int)) (ru : List Int) : Prop := ∃ A g m, m = 201 ∧ Cl nx0 ru0 nx0.length A g ∧ (smF8 nx0 ru0 nx0.length A g m).2 = (nx, ru)
theorem smOf_eqo {nx0 : List (List Int)} {ru0 : List Int} {nx : List (List Int)} {ru : List Int} (h : SmOf nx0 ru0 nx ru) : rightD nx ru = true ∧ Mx nx ru nx.length ∧ Mx nx0 ru0 nx0.length ∧ Eqo nx0 ru0 nx ru 0 0 := by
  obtain ⟨A, g, m, hm, c, e⟩ := h
  have e1 : (smF8 nx0 ru0 nx0.length A g m).2.1 = nx := congrArg Prod.fst e
  have e2 : (smF8 nx0 ru0 nx0.length A g m).2.2 = ru := congrArg Prod.snd e
  have h1 := sm_right c m hm
  have h2 := sm_mx c m hm
  have h3 := sm_eqo c m hm
  rw [e1, e2] at h1 h2 h3
  exact ⟨h1, h2, c.mx, h3⟩
theorem smOf_cl {nx0 : List (List Int)} {ru0 : List Int} {A : Nat → Nat → Bool} {g : Nat → Bool} {m : Nat} (hm : m = 201) (c : Cl nx0 ru0 nx0.length A g) : SmOf nx0 ru0 (smF8 nx0 ru0 nx0.length A g m).2.1 (smF8 nx0 ru0 nx0.length A g m).2.2 := ⟨A, g, m, hm, c, rfl⟩
/-- What a scanner's machine is, and why there is none. -/
def Sm0 (nx0 : List (List Int)) (ru0 : List Int) (z : Int) (nx : List (List Int)) (ru : List Int) : Prop := (z = 7 ∧ nx = [] ∧ ru = []) ∨ (z = 0 ∧ SmOf nx0 ru0 nx ru)
end Go.Proofs.YtbbfjjjnifomgaaGreatDoor.A

