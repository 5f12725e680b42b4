/- Contracts: the ranges that don't end ahead of a code. -/
import Derived.Test.YtooiomfcemceiaaM
import Derived.Test.YtooiomfcemceiaaE
namespace Go.Proofs.Ytooiomfcemceiaa.A
open Go.RowKit

theorem seg_tail {w : World} {b off n : Nat} {zs : List Rg} (h : SegR w (some ⟨b, off, none⟩) n zs) (h0 : 0 < n) : SegR w (some ⟨b, off + 3, none⟩) (n - 1) (zs.drop 1) := by
  obtain ⟨hl, hx⟩ := h
  refine ⟨by simp; omega, .inr ⟨b, off + 3, rfl, fun i hi => ?_⟩⟩
  rcases hx with hx | ⟨b', off', e, hc⟩
  · omega
  · cases e
    have := hc (i + 1) (by omega)
    rw [at_drop, show 1 + i = i + 1 by omega, show off + 3 + i * 3 = off + (i + 1) * 3 by omega]
    exact this

theorem seg_next {w : World} {b off len cap d : Nat} {zs : List Rg} (h : SegR w (some ⟨b, off, none⟩) (len - d) (zs.drop d)) (hd : d < len) (hc : len ≤ cap) :
    SegR w (if cap - d = 1 then some ⟨b, off, none⟩ else some ⟨b, off + 3, none⟩) (len - (d + 1)) (zs.drop (d + 1)) := by
  have h1 := seg_tail h (by omega)
  rw [List.drop_drop, show len - d - 1 = len - (d + 1) by omega] at h1
  split
  · exact ⟨h1.1, .inl (by omega)⟩
  · exact h1

set_option maxHeartbeats 800000 in
theorem ahead_any (x : Option Addr) (len cap : Nat) (c : Int) (zs : List Rg) (w : World) (hl : len ≤ 5000) (hcap : len ≤ cap) (hs : SegR w x len zs) :
    Calls Try.prog 34 #[.slice x len cap, .int .i32 c] w fun e w' => ∃ x' d, d ≤ len ∧ e = .returned (.slice x' (len - d) (cap - d)) ∧ (∀ W, SegR W x len zs → SegR W x' (len - d) (zs.drop d)) ∧ (∀ i, i < d → (at' zs i).t < c) ∧ x'.map (·.block) = x.map (·.block) ∧ w' = w := by
  go_enter Try.func34, Try.ntmps34
  go_wp2
  go_loopw [0] (fun l wr => ∃ x' d, d ≤ len ∧ l = .slice x' (len - d) (cap - d) ∧ (∀ W, SegR W x len zs → SegR W x' (len - d) (zs.drop d)) ∧ (∀ i, i < d → (at' zs i).t < c) ∧ x'.map (·.block) = x.map (·.block) ∧ wr = w) (fun l _ => match l with | .slice _ n _ => n | _ => 0)
  case atStart => exact ⟨x, 0, by omega, rfl, fun W h => by simpa using h, fun i hi => by omega, rfl, rfl⟩
  case round =>
    obtain ⟨x', d, hd, rfl, hall, hb, hx, rfl⟩ := hrel
    have hs' := hall _ hs
    by_cases hlt : d < len
    · obtain ⟨b, off, rfl, hc⟩ := hs'.leads (by omega)
      obtain ⟨c0, c1, c2⟩ := hc 0 (by omega)
      rw [at_drop] at c0 c1 c2
      simp only [Nat.zero_mul, Nat.add_zero] at c0 c1 c2
      have hn : (0 : Int) < ((len - d : Nat) : Int) := by omega
      have HB := hide hb
      have HS := hide hall
      have HX := hide hx
      clear hc hs hs' hall hb hx
      generalize he : (at' zs d).t = t at *
      have HE := hide he
      clear he
      go_wp2
      · rename_i hlt2
        refine ⟨⟨_, d + 1, by omega, by rw [show len - (d + 1) = len - d - 1 by omega, show cap - (d + 1) = cap - d - 1 by omega], fun W hW => seg_next (HS.out W hW) hlt hcap, fun i hi => ?_, ?_, trivial⟩, by show len - d - 1 < len - d; omega⟩
        · by_cases e : i = d
          · subst e; rw [HE.out]; exact hlt2
          · exact HB.out i (by omega)
        · rw [← HX.out]; split <;> rfl
      · go_ret
        exact ⟨_, d, hd, rfl, HS.out, HB.out, HX.out, rfl⟩
    · have e : d = len := by omega
      subst e
      have hn : ¬ (0 : Int) < ((d - d : Nat) : Int) := by omega
      have HB := hide hb
      have HS := hide hall
      have HX := hide hx
      clear hs hs' hall hb hx
      go_wp2
      go_ret
      exact ⟨_, d, hd, by rw [Nat.sub_self]; rfl, HS.out, HB.out, HX.out, rfl⟩
end Go.Proofs.Ytooiomfcemceiaa.A
