/- Ahead of layer 6: the document's Ends of a machine: the least rule at some states. -/
import Derived.Test.YtldeofdjhpfdaaaNc
namespace Go.Proofs.Ytldeofdjhpfdaaa.A
open Go.RowKit

/-- Is a rule at one of the first k states? -/
def atB (rs : List Int) (o : Nat → Bool) (r : Int) (k : Nat) : Bool := (List.range k).any fun i => o i && rs[i]? == some r
theorem atB_step (rs : List Int) (o : Nat → Bool) (r : Int) (k : Nat) : atB rs o r (k + 1) = (atB rs o r k || (o k && rs[k]? == some r)) := by
  unfold atB; rw [List.range_succ, List.any_append]; simp
theorem atB_yes {rs : List Int} {o : Nat → Bool} {r : Int} {k N : Nat} (hk : k < N) (ho : o k = true) (hr : rs[k]? = some r) : atB rs o r N = true := by
  unfold atB; rw [List.any_eq_true]; exact ⟨k, by simp [hk], by simp [ho, hr]⟩
/-- The least rule from r on of m; -1: none. -/
def leastR (p : Int → Bool) : Nat → Int → Int
  | 0, _ => -1
  | m + 1, r => if p r then r else leastR p m (r + 1)
/-- The least rule at some states. -/
def endR (rs : List Int) (o : Nat → Bool) (N : Nat) : Int := leastR (fun r => atB rs o r N) 16 0
theorem least_at (p : Int → Bool) : ∀ (k m : Nat) (r : Int), (∀ j : Nat, j < k → p (r + j) = false) → leastR p (k + m) r = leastR p m (r + k)
  | 0, m, r, _ => by simp
  | k + 1, m, r, h => by
    have h0 := h 0 (by omega)
    simp only [Int.natCast_zero, Int.add_zero] at h0
    rw [show k + 1 + m = (k + m) + 1 from by omega, leastR, h0, if_neg (by simp), least_at p k m (r + 1) (fun j hj => by have := h (j + 1) (by omega); rw [show r + 1 + (j : Int) = r + ((j + 1 : Nat) : Int) from by omega]; exact this)]
    congr 1; omega

set_option maxRecDepth 100000 in
set_option maxHeartbeats 3200000 in
theorem nends_any (x0 x1 x2 : Value) (a3 : Option Addr) (N c3 F : Nat) (rs : List Int) (o : Nat → Bool) (w : World) (hN : N ≤ 10000) (hr : rs.length = N) (hR : Wd w a3 rs) (hF : Mk w F N o) :
    Calls Try.prog 22 #[.agg #[x0, x1, x2, .slice a3 N c3], .slice (some ⟨F, 0, none⟩) N N] w fun e w' => e = .returned (.int .i64 (endR rs o N)) ∧ Below w.heap.size w w' := by
  have HF := hide hF
  have HR := hide hR
  have HRL := hide hr
  have HFL := hide (mk_lt hF)
  clear hF hR hr
  obtain ⟨p0, p1, p2, p3⟩ := box4 w x0 x1 x2 (.slice a3 N c3) 29
  have hb0 := ((Below.refl w.heap.size w).alloc (Nat.le_refl _) (.cells #[x0, x1, x2, .slice a3 N c3] 29))
  go_enter Try.func22, Try.ntmps22
  go_wp2_with fail
  clear p0 p1 p2
  have HF0 := hide (mk_below HFL.out hb0 HF.out)
  have HR0 := hide (wd_below hb0 HR.out)
  have HB := hide hb0
  clear hb0
  generalize w.alloc (.cells #[x0, x1, x2, .slice a3 N c3] 29) = W0 at *
  generalize hB : w.heap.size = B at *
  go_loopw [5, 6] (fun r _ wr => ∃ q : Nat, q ≤ 16 ∧ r = .int .i64 q ∧ (∀ j : Nat, j < q → atB rs o j N = false) ∧ wr = W0) (fun r _ _ => 16 - (intOf r).toNat)
  case atStart => exact ⟨0, by omega, rfl, fun j hj => by omega, rfl⟩
  case round =>
    obtain ⟨q, hq, rfl, hno, rfl⟩ := hrel
    have HNO := hide hno
    clear hno
    by_cases hlt : q < 16
    · go_wp2_with fail
      go_loopw [6] (fun i wr' => ∃ k : Nat, k ≤ N ∧ i = .int .i64 k ∧ atB rs o q k = false ∧ wr' = wr) (fun i _ => N - (intOf i).toNat)
      case atStart => exact ⟨0, Nat.zero_le _, rfl, by simp [atB], rfl⟩
      case round =>
        obtain ⟨k, hk, rfl, hat, rfl⟩ := hrel
        have HAT := hide hat
        clear hat
        by_cases hlt2 : k < N
        · obtain ⟨f0, _⟩ := mk_cell HF0.out hlt2
          obtain ⟨z, hz⟩ : ∃ z, rs[k]? = some z := ⟨_, List.getElem?_eq_getElem (by rw [HRL.out]; exact hlt2)⟩
          obtain ⟨b, off, rfl, k0⟩ := HR0.out k z hz
          have HZ := hide hz
          have i1 : (0 : Int) ≤ (k : Int) := by omega
          have i2 : (k : Int) < (N : Int) := by omega
          clear hz
          cases ho : o k
          · rw [ho] at f0
            have HN := hide (show atB rs o q (k + 1) = false by rw [atB_step, HAT.out, ho]; rfl)
            clear ho
            go_wp2
            go_roundw
            case rel => exact ⟨k + 1, by omega, by go_num, HN.out, trivial⟩
            case measure => simp [intOf]; omega
          · rw [ho] at f0
            by_cases e : z = q
            · have HE := hide (show endR rs o N = (q : Int) by
                have h1 := least_at (fun r => atB rs o r N) q (16 - q) 0 (fun j hj => by rw [Int.zero_add]; exact HNO.out j hj)
                unfold endR
                rw [show (16 : Nat) = q + (16 - q) by omega, h1, show 16 - q = (15 - q) + 1 by omega, leastR, Int.zero_add, if_pos (atB_yes hlt2 ho (by rw [HZ.out, e]))])
              clear ho
              subst e
              go_wp2
              go_ret
              exact ⟨by rw [HE.out]; rfl, hB ▸ HB.out⟩
            · have HN := hide (show atB rs o q (k + 1) = false by rw [atB_step, HAT.out, ho, HZ.out]; simp [e])
              have hne : (z == (q : Int)) = false := by simp [e]
              clear ho
              go_wp2
              go_roundw
              case rel => exact ⟨k + 1, by omega, by go_num, HN.out, trivial⟩
              case measure => simp [intOf]; omega
        · have e : k = N := by omega
          subst e
          go_wp2
          go_roundw
          case rel =>
            refine ⟨q + 1, by omega, by go_num, fun j hj => ?_, trivial⟩
            by_cases e : j = q
            · subst e; exact HAT.out
            · exact HNO.out j (by omega)
          case measure => simp [intOf]; omega
    · have e : q = 16 := by omega
      subst e
      go_wp2
      go_ret
      refine ⟨?_, hB ▸ HB.out⟩
      have h1 := least_at (fun r => atB rs o r N) 16 0 0 (fun j hj => by rw [Int.zero_add]; exact HNO.out j hj)
      unfold endR
      rw [show (16 : Nat) = 16 + 0 by rfl, h1]; rfl

end Go.Proofs.Ytldeofdjhpfdaaa.A
