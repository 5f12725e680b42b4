/- Ahead of layer 6: the document's List: the states of a table. -/
import Derived.Test.YtccaknabpnpjaaaGreatDoorPk3
import Derived.Deep.AppendSrc
import Derived.Test.YtccaknabpnpjaaaGreatDoorPk4
namespace Go.Proofs.YtccaknabpnpjaaaGreatDoor.A
open Go.RowKit

/-- The states among the first k of a table. -/
def lstL (g : Nat → Bool) (k : Nat) : List Int := ((List.range k).filter g).map fun (j : Nat) => (j : Int)
theorem lstL_yes {g : Nat → Bool} {k : Nat} (h : g k = true) : lstL g (k + 1) = lstL g k ++ [(k : Int)] := by simp [lstL, List.range_succ, h]
theorem lstL_no {g : Nat → Bool} {k : Nat} (h : g k = false) : lstL g (k + 1) = lstL g k := by simp [lstL, List.range_succ, h]
theorem lstL_le (g : Nat → Bool) (k : Nat) : (lstL g k).length ≤ k := by
  unfold lstL; rw [List.length_map]; exact Nat.le_trans (List.length_filter_le _ _) (by simp)
theorem info3 : (Tryz.prog.info? 3).map (fun i => (i.zero, i.size, i.bytes)) = some (some (.int .i64 0), 1, 8) := by kernel_rfl
theorem one_new (w : World) (v : Value) (t : TypeId) : ∀ j u, [v][j]? = some u → (w.alloc (.cells #[v] t)).cell? ((⟨w.heap.size, 0, none⟩ : Addr).add j) = some u := by
  intro j u hj
  match j with
  | 0 =>
    have e : v = u := by simpa using hj
    subst e
    simp [Addr.add]
  | j + 1 => simp at hj

end Go.Proofs.YtccaknabpnpjaaaGreatDoor.A

/- Ahead of layer 6: the document's Ends of a machine: the least rule at some states. -/
namespace Go.Proofs.YtccaknabpnpjaaaGreatDoor.A
open Go.RowKit

/-- Is a rule at one of the first k states? -/
def atB (rs : List Int) (o : Nat → Bool) (r : Int) (k : Nat) : Bool := (List.range k).any fun i => o i && rs[i]? == some r
theorem atB_step (rs : List Int) (o : Nat → Bool) (r : Int) (k : Nat) : atB rs o r (k + 1) = (atB rs o r k || (o k && rs[k]? == some r)) := by
  unfold atB; rw [List.range_succ, List.any_append]; simp
theorem atB_yes {rs : List Int} {o : Nat → Bool} {r : Int} {k N : Nat} (hk : k < N) (ho : o k = true) (hr : rs[k]? = some r) : atB rs o r N = true := by
  unfold atB; rw [List.any_eq_true]; exact ⟨k, by simp [hk], by simp [ho, hr]⟩
/-- The least rule from r on of m; -1: none. -/
def leastR (p : Int → Bool) : Nat → Int → Int
  | 0, _ => -1
  | m + 1, r => if p r then r else leastR p m (r + 1)
/-- The least rule at some states. -/
def endR (rs : List Int) (o : Nat → Bool) (N : Nat) : Int := leastR (fun r => atB rs o r N) 16 0
theorem least_at (p : Int → Bool) : ∀ (k m : Nat) (r : Int), (∀ j : Nat, j < k → p (r + j) = false) → leastR p (k + m) r = leastR p m (r + k)
  | 0, m, r, _ => by simp
  | k + 1, m, r, h => by
    have h0 := h 0 (by omega)
    simp only [Int.natCast_zero, Int.add_zero] at h0
    rw [show k + 1 + m = (k + m) + 1 from by omega, leastR, h0, if_neg (by simp), least_at p k m (r + 1) (fun j hj => by have := h (j + 1) (by omega); rw [show r + 1 + (j : Int) = r + ((j + 1 : Nat) : Int) from by omega]; exact this)]
    congr 1; omega

set_option maxRecDepth 100000 in
set_option maxHeartbeats 3200000 in
theorem nends_any (x0 x1 x2 : Value) (a3 : Option Addr) (N c3 F : Nat) (rs : List Int) (o : Nat → Bool) (w : World) (hN : N ≤ 10000) (hr : rs.length = N) (hR : Wd w a3 rs) (hF : Mk w F N o) :
    Calls Tryz.prog 29 #[.agg #[x0, x1, x2, .slice a3 N c3], .slice (some ⟨F, 0, none⟩) N N] w fun e w' => e = .returned (.int .i64 (endR rs o N)) ∧ Below w.heap.size w w' := by
  have HF := hide hF
  have HR := hide hR
  have HRL := hide hr
  have HFL := hide (mk_lt hF)
  clear hF hR hr
  obtain ⟨p0, p1, p2, p3⟩ := box4 w x0 x1 x2 (.slice a3 N c3) 55
  have hb0 := ((Below.refl w.heap.size w).alloc (Nat.le_refl _) (.cells #[x0, x1, x2, .slice a3 N c3] 55))
  go_enter Tryz.func29, Tryz.ntmps29
  go_wp2_with fail
  clear p0 p1 p2
  have HF0 := hide (mk_below HFL.out hb0 HF.out)
  have HR0 := hide (wd_below hb0 HR.out)
  have HB := hide hb0
  clear hb0
  generalize w.alloc (.cells #[x0, x1, x2, .slice a3 N c3] 55) = W0 at *
  generalize hB : w.heap.size = B at *
  go_loopw [5, 6] (fun r _ wr => ∃ q : Nat, q ≤ 16 ∧ r = .int .i64 q ∧ (∀ j : Nat, j < q → atB rs o j N = false) ∧ wr = W0) (fun r _ _ => 16 - (intOf r).toNat)
  case atStart => exact ⟨0, by omega, rfl, fun j hj => by omega, rfl⟩
  case round =>
    obtain ⟨q, hq, rfl, hno, rfl⟩ := hrel
    have HNO := hide hno
    clear hno
    by_cases hlt : q < 16
    · go_wp2_with fail
      go_loopw [6] (fun i wr' => ∃ k : Nat, k ≤ N ∧ i = .int .i64 k ∧ atB rs o q k = false ∧ wr' = wr) (fun i _ => N - (intOf i).toNat)
      case atStart => exact ⟨0, Nat.zero_le _, rfl, by simp [atB], rfl⟩
      case round =>
        obtain ⟨k, hk, rfl, hat, rfl⟩ := hrel
        have HAT := hide hat
        clear hat
        by_cases hlt2 : k < N
        · obtain ⟨f0, _⟩ := mk_cell HF0.out hlt2
          obtain ⟨z, hz⟩ : ∃ z, rs[k]? = some z := ⟨_, List.getElem?_eq_getElem (by rw [HRL.out]; exact hlt2)⟩
          obtain ⟨b, off, rfl, k0⟩ := HR0.out k z hz
          have HZ := hide hz
          have i1 : (0 : Int) ≤ (k : Int) := by omega
          have i2 : (k : Int) < (N : Int) := by omega
          clear hz
          cases ho : o k
          · rw [ho] at f0
            have HN := hide (show atB rs o q (k + 1) = false by rw [atB_step, HAT.out, ho]; rfl)
            clear ho
            go_wp2
            go_roundw
            case rel => exact ⟨k + 1, by omega, by go_num, HN.out, trivial⟩
            case measure => simp [intOf]; omega
          · rw [ho] at f0
            by_cases e : z = q
            · have HE := hide (show endR rs o N = (q : Int) by
                have h1 := least_at (fun r => atB rs o r N) q (16 - q) 0 (fun j hj => by rw [Int.zero_add]; exact HNO.out j hj)
                unfold endR
                rw [show (16 : Nat) = q + (16 - q) by omega, h1, show 16 - q = (15 - q) + 1 by omega, leastR, Int.zero_add, if_pos (atB_yes hlt2 ho (by rw [HZ.out, e]))])
              clear ho
              subst e
              go_wp2
              go_ret
              exact ⟨by rw [HE.out]; rfl, hB ▸ HB.out⟩
            · have HN := hide (show atB rs o q (k + 1) = false by rw [atB_step, HAT.out, ho, HZ.out]; simp [e])
              have hne : (z == (q : Int)) = false := by simp [e]
              clear ho
              go_wp2
              go_roundw
              case rel => exact ⟨k + 1, by omega, by go_num, HN.out, trivial⟩
              case measure => simp [intOf]; omega
        · have e : k = N := by omega
          subst e
          go_wp2
          go_roundw
          case rel =>
            refine ⟨q + 1, by omega, by go_num, fun j hj => ?_, trivial⟩
            by_cases e : j = q
            · subst e; exact HAT.out
            · exact HNO.out j (by omega)
          case measure => simp [intOf]; omega
    · have e : q = 16 := by omega
      subst e
      go_wp2
      go_ret
      refine ⟨?_, hB ▸ HB.out⟩
      have h1 := least_at (fun r => atB rs o r N) 16 0 0 (fun j hj => by rw [Int.zero_add]; exact HNO.out j hj)
      unfold endR
      rw [show (16 : Nat) = 16 + 0 by rfl, h1]; rfl

end Go.Proofs.YtccaknabpnpjaaaGreatDoor.A

/- The program's rising, leastRule. -/
namespace Go.Proofs.YtccaknabpnpjaaaGreatDoor.A
open Go.RowKit

set_option maxRecDepth 100000 in
set_option maxHeartbeats 3200000 in
theorem rising_any (F N : Nat) (g : Nat → Bool) (w : World) (hN : N ≤ 10000) (hF : Mk w F N g) :
    Calls Tryz.prog 68 #[.slice (some ⟨F, 0, none⟩) N N] w fun e w' =>
      ∃ v, e = .returned v ∧ w'.ownsRow w.heap.size 3 1 v (lstL g N).length ((lstL g N).map (Value.int .i64)) ∧ Below w.heap.size w w' := by
  obtain ⟨i0, hi, hz0, hz1, hz2⟩ := info_parts info3
  have HF := hide hF
  have HFL := hide (mk_lt hF)
  clear hF
  go_enter Tryz.func68, Tryz.ntmps68
  go_wp2_with fail
  go_loopw [3, 4, 5, 8] (fun v _ _ i wr => ∃ k : Nat, k ≤ N ∧ i = .int .i64 k ∧ wr.ownsRow w.heap.size 3 1 v (lstL g k).length ((lstL g k).map (Value.int .i64)) ∧ Below w.heap.size w wr) (fun _ _ _ i _ => N - (intOf i).toNat)
  case atStart => exact ⟨0, Nat.zero_le _, rfl, World.ownsRow_nil _ _ _ _, Below.refl _ _⟩
  case round =>
    obtain ⟨k, hk, rfl, hown, hbel⟩ := hrel
    by_cases hlt : k < N
    · obtain ⟨f0, _⟩ := mk_cell (mk_below HFL.out hbel HF.out) hlt
      have i1 : (0 : Int) ≤ (k : Int) := by omega
      have i2 : (k : Int) < (N : Int) := by omega
      have hle := lstL_le g k
      cases hg : g k
      · rw [hg] at f0
        have hown2 := hown
        rw [← lstL_no hg] at hown2
        clear hown hg
        go_wp2
        go_roundw
        case rel => exact ⟨k + 1, by omega, by go_num, hown2, hbel⟩
        case measure => simp [intOf]; omega
      · rw [hg] at f0
        have HG := hide hg
        clear hg
        go_wp2_with (at_builtin; refine wpList_append_own _ rfl _ _ 26 rfl w.heap.size 3 i0 (.int .i64 0) 1 8 Tryz.underlying26 hi hz0 hz1 hz2 rfl (by decide) _ _ _ rfl (hown.alloc _) ⟨_, 0, none⟩ 1 1 [.int .i64 (k : Int)] rfl rfl ?c1 ?c2 ?c3 ?c4 ?c5 ?_)
        case c1 => exact one_new _ _ _
        case c2 => intro u hu; simp only [List.mem_singleton] at hu; subst hu; rfl
        case c3 => unfold maxLen; omega
        case c4 => omega
        case c5 => have := hbel.size; simp; omega
        · intro v' w1 hown' hgrow _
          have hbel' : Below w.heap.size w w1 := (hbel.alloc hbel.size _).grown hgrow (by have := hbel.size; simp; omega) (fun k' e => (hown.lt k' e).1)
          have hown2 : w1.ownsRow w.heap.size 3 1 v' (lstL g (k + 1)).length ((lstL g (k + 1)).map (Value.int .i64)) := by rw [lstL_yes HG.out, List.map_append, List.length_append]; exact hown'
          clear hown' hgrow hown hbel
          go_wp2
          go_roundw
          case rel => exact ⟨k + 1, by omega, by go_num, hown2, hbel'⟩
          case measure => simp [intOf]; omega
    · have e : k = N := by omega
      subst e
      go_wp2
      go_ret
      exact ⟨_, rfl, hown, hbel⟩

/-- The least of the rules at states that are told; -1: none. -/
def lst1 (rs : List Int) (m : Int) (z : Int) : Int := match rs[z.toNat]? with
  | some r => if r ≠ -1 ∧ (m = -1 ∨ r < m) then r else m
  | none => m
def lstR (rs : List Int) (zs : List Int) : Int := zs.foldl (lst1 rs) (-1)
theorem lstR_step {rs zs : List Int} {k : Nat} {z : Int} (h : zs[k]? = some z) : lstR rs (zs.take (k + 1)) = lst1 rs (lstR rs (zs.take k)) z := by
  unfold lstR; rw [take_at h, List.foldl_append]; rfl
theorem lst1_yes {rs : List Int} {m z r : Int} (h : rs[z.toNat]? = some r) (c : r ≠ -1 ∧ (m = -1 ∨ r < m)) : lst1 rs m z = r := by unfold lst1; rw [h]; exact if_pos c
theorem lst1_no {rs : List Int} {m z r : Int} (h : rs[z.toNat]? = some r) (c : ¬ (r ≠ -1 ∧ (m = -1 ∨ r < m))) : lst1 rs m z = m := by unfold lst1; rw [h]; exact if_neg c

set_option maxRecDepth 100000 in
set_option maxHeartbeats 3200000 in
theorem leastRule_any (x0 x1 x2 : Value) (a3 a : Option Addr) (N c3 len cap : Nat) (rs zs : List Int) (w : World) (hl : len ≤ 10000) (hr : rs.length = N) (hz : zs.length = len) (hR : Wd w a3 rs) (hZ : Wd w a zs) (hst : ∀ z ∈ zs, 0 ≤ z ∧ z < (N : Int)) :
    Calls Tryz.prog 23 #[.agg #[x0, x1, x2, .slice a3 N c3], .slice a len cap] w fun e w' => e = .returned (.int .i64 (lstR rs zs)) ∧ Below w.heap.size w w' := by
  obtain ⟨p0, p1, p2, p3⟩ := bx_new w x0 x1 x2 (.slice a3 N c3)
  have hb0 := ((Below.refl w.heap.size w).alloc (Nat.le_refl _) (.cells #[x0, x1, x2, .slice a3 N c3] 55))
  have HR := hide (wd_below hb0 hR)
  have HZ := hide (wd_below hb0 hZ)
  have HRL := hide hr
  have HZL := hide hz
  have HST := hide hst
  have HB := hide hb0
  clear hR hZ hr hz hst hb0
  go_enter Tryz.func23, Tryz.ntmps23
  go_wp2_with fail
  clear p0 p1 p2
  generalize w.alloc (.cells #[x0, x1, x2, .slice a3 N c3] 55) = W0 at *
  generalize hB : w.heap.size = B at *
  go_loopw [5, 7, 8, 11] (fun m _ _ i wr => ∃ k : Nat, k ≤ len ∧ i = .int .i64 k ∧ m = .int .i64 (lstR rs (zs.take k)) ∧ wr = W0) (fun _ _ _ i _ => len - (intOf i).toNat)
  case atStart => exact ⟨0, Nat.zero_le _, rfl, rfl, rfl⟩
  case round =>
    obtain ⟨k, hk, rfl, rfl, rfl⟩ := hrel
    by_cases hlt : k < len
    · obtain ⟨z, hz⟩ : ∃ z, zs[k]? = some z := ⟨_, List.getElem?_eq_getElem (by rw [HZL.out]; exact hlt)⟩
      obtain ⟨zb, zo, rfl, kz⟩ := HZ.out k z hz
      have hzr := HST.out z (List.mem_of_getElem? hz)
      obtain ⟨q, rfl⟩ : ∃ q : Nat, z = q := ⟨z.toNat, by omega⟩
      obtain ⟨r, hr⟩ : ∃ r, rs[q]? = some r := ⟨_, List.getElem?_eq_getElem (by rw [HRL.out]; omega)⟩
      obtain ⟨rb, ro, rfl, kr⟩ := HR.out q r hr
      have HS := hide (lstR_step (rs := rs) hz)
      have HRR := hide (show rs[(q : Int).toNat]? = some r from hr)
      obtain ⟨m, hm⟩ : ∃ m, lstR rs (zs.take k) = m := ⟨_, rfl⟩
      rw [hm]
      have HM := hide hm
      have i1 : (0 : Int) ≤ (k : Int) := by omega
      have i2 : (k : Int) < (len : Int) := by omega
      have i3 : (0 : Int) ≤ (q : Int) := by omega
      have i4 : (q : Int) < (N : Int) := by omega
      clear hz hr hm hzr
      by_cases r0 : r = -1
      · subst r0
        have HN := hide (show lstR rs (zs.take (k + 1)) = m by rw [HS.out, HM.out]; exact lst1_no HRR.out (fun c => c.1 rfl))
        go_wp2
        go_roundw
        case rel => exact ⟨k + 1, by omega, by go_num, by rw [HN.out], trivial⟩
        case measure => simp [intOf]; omega
      have y0 : (r != -1) = true := by simp [r0]
      by_cases m0 : m = -1
      · subst m0
        have HN := hide (show lstR rs (zs.take (k + 1)) = r by rw [HS.out, HM.out]; exact lst1_yes HRR.out ⟨r0, .inl rfl⟩)
        go_wp2
        go_roundw
        case rel => exact ⟨k + 1, by omega, by go_num, by rw [HN.out], trivial⟩
        case measure => simp [intOf]; omega
      have y1 : (m == -1) = false := by simp [m0]
      by_cases lt : r < m
      · have HN := hide (show lstR rs (zs.take (k + 1)) = r by rw [HS.out, HM.out]; exact lst1_yes HRR.out ⟨r0, .inr lt⟩)
        have y2 : decide (r < m) = true := by simp [lt]
        go_wp2
        go_roundw
        case rel => exact ⟨k + 1, by omega, by go_num, by rw [HN.out], trivial⟩
        case measure => simp [intOf]; omega
      · have HN := hide (show lstR rs (zs.take (k + 1)) = m by rw [HS.out, HM.out]; exact lst1_no HRR.out (fun c => by rcases c.2 with c | c <;> omega))
        have y2 : decide (r < m) = false := by simp; omega
        go_wp2
        go_roundw
        case rel => exact ⟨k + 1, by omega, by go_num, by rw [HN.out], trivial⟩
        case measure => simp [intOf]; omega
    · have e : k = len := by omega
      subst e
      have HT := hide (show zs.take k = zs from List.take_of_length_le (by have := HZL.out; omega))
      rw [HT.out]
      go_wp2
      go_ret
      exact ⟨rfl, hB ▸ HB.out⟩

end Go.Proofs.YtccaknabpnpjaaaGreatDoor.A
