/- The program's rising, leastRule. -/
import Derived.Test.YtldeofdjhpfdaaaPa
import Derived.Test.YtldeofdjhpfdaaaNb
import Derived.Test.YtldeofdjhpfdaaaNd
namespace Go.Proofs.Ytldeofdjhpfdaaa.A
open Go.RowKit

set_option maxRecDepth 100000 in
set_option maxHeartbeats 3200000 in
theorem rising_any (F N : Nat) (g : Nat → Bool) (w : World) (hN : N ≤ 10000) (hF : Mk w F N g) :
    Calls Try.prog 47 #[.slice (some ⟨F, 0, none⟩) N N] w fun e w' =>
      ∃ v, e = .returned v ∧ w'.ownsRow w.heap.size 3 1 v (lstL g N).length ((lstL g N).map (Value.int .i64)) ∧ Below w.heap.size w w' := by
  obtain ⟨i0, hi, hz0, hz1, hz2⟩ := info_parts info3
  have HF := hide hF
  have HFL := hide (mk_lt hF)
  clear hF
  go_enter Try.func47, Try.ntmps47
  go_wp2_with fail
  go_loopw [3, 4, 5, 8] (fun v _ _ i wr => ∃ k : Nat, k ≤ N ∧ i = .int .i64 k ∧ wr.ownsRow w.heap.size 3 1 v (lstL g k).length ((lstL g k).map (Value.int .i64)) ∧ Below w.heap.size w wr) (fun _ _ _ i _ => N - (intOf i).toNat)
  case atStart => exact ⟨0, Nat.zero_le _, rfl, World.ownsRow_nil _ _ _ _, Below.refl _ _⟩
  case round =>
    obtain ⟨k, hk, rfl, hown, hbel⟩ := hrel
    by_cases hlt : k < N
    · obtain ⟨f0, _⟩ := mk_cell (mk_below HFL.out hbel HF.out) hlt
      have i1 : (0 : Int) ≤ (k : Int) := by omega
      have i2 : (k : Int) < (N : Int) := by omega
      have hle := lstL_le g k
      cases hg : g k
      · rw [hg] at f0
        have hown2 := hown
        rw [← lstL_no hg] at hown2
        clear hown hg
        go_wp2
        go_roundw
        case rel => exact ⟨k + 1, by omega, by go_num, hown2, hbel⟩
        case measure => simp [intOf]; omega
      · rw [hg] at f0
        have HG := hide hg
        clear hg
        go_wp2_with (at_builtin; refine wpList_append_own _ rfl _ _ 27 rfl w.heap.size 3 i0 (.int .i64 0) 1 8 Try.underlying27 hi hz0 hz1 hz2 rfl (by decide) _ _ _ rfl (hown.alloc _) ⟨_, 0, none⟩ 1 1 [.int .i64 (k : Int)] rfl rfl ?c1 ?c2 ?c3 ?c4 ?c5 ?_)
        case c1 => exact one_new _ _ _
        case c2 => intro u hu; simp only [List.mem_singleton] at hu; subst hu; rfl
        case c3 => unfold maxLen; omega
        case c4 => omega
        case c5 => have := hbel.size; simp; omega
        · intro v' w1 hown' hgrow _
          have hbel' : Below w.heap.size w w1 := (hbel.alloc hbel.size _).grown hgrow (by have := hbel.size; simp; omega) (fun k' e => (hown.lt k' e).1)
          have hown2 : w1.ownsRow w.heap.size 3 1 v' (lstL g (k + 1)).length ((lstL g (k + 1)).map (Value.int .i64)) := by rw [lstL_yes HG.out, List.map_append, List.length_append]; exact hown'
          clear hown' hgrow hown hbel
          go_wp2
          go_roundw
          case rel => exact ⟨k + 1, by omega, by go_num, hown2, hbel'⟩
          case measure => simp [intOf]; omega
    · have e : k = N := by omega
      subst e
      go_wp2
      go_ret
      exact ⟨_, rfl, hown, hbel⟩

/-- The least of the rules at states that are told; -1: none. -/
def lst1 (rs : List Int) (m : Int) (z : Int) : Int := match rs[z.toNat]? with
  | some r => if r ≠ -1 ∧ (m = -1 ∨ r < m) then r else m
  | none => m
def lstR (rs : List Int) (zs : List Int) : Int := zs.foldl (lst1 rs) (-1)
theorem lstR_step {rs zs : List Int} {k : Nat} {z : Int} (h : zs[k]? = some z) : lstR rs (zs.take (k + 1)) = lst1 rs (lstR rs (zs.take k)) z := by
  unfold lstR; rw [take_at h, List.foldl_append]; rfl
theorem lst1_yes {rs : List Int} {m z r : Int} (h : rs[z.toNat]? = some r) (c : r ≠ -1 ∧ (m = -1 ∨ r < m)) : lst1 rs m z = r := by unfold lst1; rw [h]; exact if_pos c
theorem lst1_no {rs : List Int} {m z r : Int} (h : rs[z.toNat]? = some r) (c : ¬ (r ≠ -1 ∧ (m = -1 ∨ r < m))) : lst1 rs m z = m := by unfold lst1; rw [h]; exact if_neg c

set_option maxRecDepth 100000 in
set_option maxHeartbeats 3200000 in
theorem leastRule_any (x0 x1 x2 : Value) (a3 a : Option Addr) (N c3 len cap : Nat) (rs zs : List Int) (w : World) (hl : len ≤ 10000) (hr : rs.length = N) (hz : zs.length = len) (hR : Wd w a3 rs) (hZ : Wd w a zs) (hst : ∀ z ∈ zs, 0 ≤ z ∧ z < (N : Int)) :
    Calls Try.prog 40 #[.agg #[x0, x1, x2, .slice a3 N c3], .slice a len cap] w fun e w' => e = .returned (.int .i64 (lstR rs zs)) ∧ Below w.heap.size w w' := by
  obtain ⟨p0, p1, p2, p3⟩ := bx_new w x0 x1 x2 (.slice a3 N c3)
  have hb0 := ((Below.refl w.heap.size w).alloc (Nat.le_refl _) (.cells #[x0, x1, x2, .slice a3 N c3] 29))
  have HR := hide (wd_below hb0 hR)
  have HZ := hide (wd_below hb0 hZ)
  have HRL := hide hr
  have HZL := hide hz
  have HST := hide hst
  have HB := hide hb0
  clear hR hZ hr hz hst hb0
  go_enter Try.func40, Try.ntmps40
  go_wp2_with fail
  clear p0 p1 p2
  generalize w.alloc (.cells #[x0, x1, x2, .slice a3 N c3] 29) = W0 at *
  generalize hB : w.heap.size = B at *
  go_loopw [5, 7, 8, 11] (fun m _ _ i wr => ∃ k : Nat, k ≤ len ∧ i = .int .i64 k ∧ m = .int .i64 (lstR rs (zs.take k)) ∧ wr = W0) (fun _ _ _ i _ => len - (intOf i).toNat)
  case atStart => exact ⟨0, Nat.zero_le _, rfl, rfl, rfl⟩
  case round =>
    obtain ⟨k, hk, rfl, rfl, rfl⟩ := hrel
    by_cases hlt : k < len
    · obtain ⟨z, hz⟩ : ∃ z, zs[k]? = some z := ⟨_, List.getElem?_eq_getElem (by rw [HZL.out]; exact hlt)⟩
      obtain ⟨zb, zo, rfl, kz⟩ := HZ.out k z hz
      have hzr := HST.out z (List.mem_of_getElem? hz)
      obtain ⟨q, rfl⟩ : ∃ q : Nat, z = q := ⟨z.toNat, by omega⟩
      obtain ⟨r, hr⟩ : ∃ r, rs[q]? = some r := ⟨_, List.getElem?_eq_getElem (by rw [HRL.out]; omega)⟩
      obtain ⟨rb, ro, rfl, kr⟩ := HR.out q r hr
      have HS := hide (lstR_step (rs := rs) hz)
      have HRR := hide (show rs[(q : Int).toNat]? = some r from hr)
      obtain ⟨m, hm⟩ : ∃ m, lstR rs (zs.take k) = m := ⟨_, rfl⟩
      rw [hm]
      have HM := hide hm
      have i1 : (0 : Int) ≤ (k : Int) := by omega
      have i2 : (k : Int) < (len : Int) := by omega
      have i3 : (0 : Int) ≤ (q : Int) := by omega
      have i4 : (q : Int) < (N : Int) := by omega
      clear hz hr hm hzr
      by_cases r0 : r = -1
      · subst r0
        have HN := hide (show lstR rs (zs.take (k + 1)) = m by rw [HS.out, HM.out]; exact lst1_no HRR.out (fun c => c.1 rfl))
        go_wp2
        go_roundw
        case rel => exact ⟨k + 1, by omega, by go_num, by rw [HN.out], trivial⟩
        case measure => simp [intOf]; omega
      have y0 : (r != -1) = true := by simp [r0]
      by_cases m0 : m = -1
      · subst m0
        have HN := hide (show lstR rs (zs.take (k + 1)) = r by rw [HS.out, HM.out]; exact lst1_yes HRR.out ⟨r0, .inl rfl⟩)
        go_wp2
        go_roundw
        case rel => exact ⟨k + 1, by omega, by go_num, by rw [HN.out], trivial⟩
        case measure => simp [intOf]; omega
      have y1 : (m == -1) = false := by simp [m0]
      by_cases lt : r < m
      · have HN := hide (show lstR rs (zs.take (k + 1)) = r by rw [HS.out, HM.out]; exact lst1_yes HRR.out ⟨r0, .inr lt⟩)
        have y2 : decide (r < m) = true := by simp [lt]
        go_wp2
        go_roundw
        case rel => exact ⟨k + 1, by omega, by go_num, by rw [HN.out], trivial⟩
        case measure => simp [intOf]; omega
      · have HN := hide (show lstR rs (zs.take (k + 1)) = m by rw [HS.out, HM.out]; exact lst1_no HRR.out (fun c => by rcases c.2 with c | c <;> omega))
        have y2 : decide (r < m) = false := by simp; omega
        go_wp2
        go_roundw
        case rel => exact ⟨k + 1, by omega, by go_num, by rw [HN.out], trivial⟩
        case measure => simp [intOf]; omega
    · have e : k = len := by omega
      subst e
      have HT := hide (show zs.take k = zs from List.take_of_length_le (by have := HZL.out; omega))
      rw [HT.out]
      go_wp2
      go_ret
      exact ⟨rfl, hB ▸ HB.out⟩

end Go.Proofs.Ytldeofdjhpfdaaa.A
