/- The document's comparison of lists. -/
import Derived.Test.YtpniapegamobmaaK
namespace Go.Proofs.Ytpniapegamobmaa.A
open Go.RowKit

/-- Integers that stand in memory at a slice. -/
def SegI (w : World) (k : IntKind) (x : Option Addr) (len : Nat) (zs : List Int) : Prop :=
  zs.length = len ∧ (len = 0 ∨ ∃ b off, x = some ⟨b, off, none⟩ ∧ ∀ i, i < len → w.cell? ⟨b, off + i, none⟩ = some (.int k (zs.getD i 0)))
theorem SegI.leads {w : World} {k : IntKind} {x : Option Addr} {len : Nat} {zs : List Int} (h : SegI w k x len zs) (h0 : len ≠ 0) :
    ∃ b off, x = some ⟨b, off, none⟩ ∧ ∀ i, i < len → w.cell? ⟨b, off + i, none⟩ = some (.int k (zs.getD i 0)) := by
  rcases h.2 with h | h
  · exact absurd h h0
  · exact h
theorem SegI.below {w w' : World} {k : IntKind} {x : Option Addr} {len : Nat} {zs : List Int} (h : SegI w k x len zs) (hb : Below w.heap.size w w') : SegI w' k x len zs := by
  obtain ⟨hz, hx⟩ := h
  refine ⟨hz, ?_⟩
  rcases hx with h | ⟨b, off, rfl, hc⟩
  · exact .inl h
  · exact .inr ⟨b, off, rfl, fun i hi => (hb.cell (p := ⟨b, off + i, none⟩) (cell_lt (hc i hi))).trans (hc i hi)⟩

set_option maxHeartbeats 800000 in
theorem ints_same (x y : Option Addr) (len cx cy : Nat) (zs : List Int) (w : World) (hl : len ≤ 5000) (hx : SegI w .i64 x len zs) (hy : SegI w .i64 y len zs) :
    Calls Try.prog 25 #[.slice x len cx, .slice y len cy] w fun e w' => e = .returned (.bool true) ∧ Below w.heap.size w w' := by
  have hne : ((len : Int) != (len : Int)) = false := by simp
  go_enter Try.func25, Try.ntmps25
  go_wp2
  go_loopw [5] (fun i wr => ∃ k : Nat, k ≤ len ∧ i = .int .i64 k ∧ Below w.heap.size w wr) (fun i _ => len - (intOf i).toNat)
  case atStart => exact ⟨0, Nat.zero_le _, rfl, Below.refl _ _⟩
  case round =>
    obtain ⟨k, hk, rfl, hbel⟩ := hrel
    by_cases hlt : k < len
    · obtain ⟨b, off, rfl, hc⟩ := hx.leads (by omega)
      obtain ⟨b', off', rfl, hc'⟩ := hy.leads (by omega)
      have h1 := (hbel.cell (p := ⟨b, off + k, none⟩) (cell_lt (hc k hlt))).trans (hc k hlt)
      have h2 := (hbel.cell (p := ⟨b', off' + k, none⟩) (cell_lt (hc' k hlt))).trans (hc' k hlt)
      clear hc hc' hx hy
      generalize zs.getD k 0 = z at *
      go_wp2
      go_region
      go_wp2
      go_roundw
      case rel => exact ⟨k + 1, by omega, by go_num, hbel.drew⟩
      case measure => simp [intOf]; omega
    · go_wp2
      go_ret
      exact ⟨rfl, hbel⟩

set_option maxHeartbeats 800000 in
theorem bytes_same (x y : Option Addr) (len cx cy : Nat) (zs : List Int) (w : World) (hl : len ≤ 5000) (hx : SegI w .u8 x len zs) (hy : SegI w .u8 y len zs) :
    Calls Try.prog 26 #[.slice x len cx, .slice y len cy] w fun e w' => e = .returned (.bool true) ∧ Below w.heap.size w w' := by
  have hne : ((len : Int) != (len : Int)) = false := by simp
  go_enter Try.func26, Try.ntmps26
  go_wp2
  go_loopw [5] (fun i wr => ∃ k : Nat, k ≤ len ∧ i = .int .i64 k ∧ Below w.heap.size w wr) (fun i _ => len - (intOf i).toNat)
  case atStart => exact ⟨0, Nat.zero_le _, rfl, Below.refl _ _⟩
  case round =>
    obtain ⟨k, hk, rfl, hbel⟩ := hrel
    by_cases hlt : k < len
    · obtain ⟨b, off, rfl, hc⟩ := hx.leads (by omega)
      obtain ⟨b', off', rfl, hc'⟩ := hy.leads (by omega)
      have h1 := (hbel.cell (p := ⟨b, off + k, none⟩) (cell_lt (hc k hlt))).trans (hc k hlt)
      have h2 := (hbel.cell (p := ⟨b', off' + k, none⟩) (cell_lt (hc' k hlt))).trans (hc' k hlt)
      clear hc hc' hx hy
      generalize zs.getD k 0 = z at *
      go_wp2
      go_region
      go_wp2
      go_roundw
      case rel => exact ⟨k + 1, by omega, by go_num, hbel.drew⟩
      case measure => simp [intOf]; omega
    · go_wp2
      go_ret
      exact ⟨rfl, hbel⟩

end Go.Proofs.Ytpniapegamobmaa.A
