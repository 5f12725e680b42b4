/- Contracts of the check sum. -/
import Derived.Test.YtpniapegamobmaaC
namespace Go.Proofs.Ytpniapegamobmaa.A
open Go.RowKit

/-- The number of four bytes at a place, bytes 0 where they lack. -/
def quad (l : List Int) (i : Nat) : Int := ((l.getD i 0 * 256 + l.getD (i + 1) 0) * 256 + l.getD (i + 2) 0) * 256 + l.getD (i + 3) 0
/-- The sum of the first k of them. -/
def sumTo (l : List Int) : Nat → Int | 0 => 0 | k + 1 => (sumTo l k + quad l (4 * k)) % 4294967296
theorem quad_bd (l : List Int) (hb : Byt l) (i : Nat) : 0 ≤ quad l i ∧ quad l i < 4294967296 := by
  have h0 := hb i; have h1 := hb (i + 1); have h2 := hb (i + 2); have h3 := hb (i + 3)
  unfold quad; omega
theorem sumTo_bd (l : List Int) : ∀ k, 0 ≤ sumTo l k ∧ sumTo l k < 4294967296
  | 0 => by simp [sumTo]
  | k + 1 => by unfold sumTo; omega

theorem cut_snoc (l : List Int) (p t : Nat) (h : p + t < l.length) : (l.drop p).take (t + 1) = (l.drop p).take t ++ [l.getD (p + t) 0] := by
  rw [take_snoc (l.drop p) t (by simp; omega)]
  simp [List.getD_eq_getElem?_getD]
theorem num_cut0 (l : List Int) (p : Nat) : num ((l.drop p).take 0) = 0 := by simp [num]
theorem num_cut (l : List Int) (p t : Nat) (h : p + t < l.length) : num ((l.drop p).take (t + 1)) = num ((l.drop p).take t) * 256 + l.getD (p + t) 0 := by
  rw [cut_snoc l p t h, num_snoc]
theorem getD_past (l : List Int) (i : Nat) (h : l.length ≤ i) : l.getD i 0 = 0 := by
  simp [List.getD_eq_getElem?_getD, h]
theorem quad4 (l : List Int) (p : Nat) (h : p + 4 ≤ l.length) : num ((l.drop p).take 4) = quad l p := by
  rw [num_cut l p 3 (by omega), num_cut l p 2 (by omega), num_cut l p 1 (by omega), num_cut l p 0 (by omega), num_cut0]
  unfold quad; simp
theorem quad3 (l : List Int) (p : Nat) (h : p + 3 = l.length) : num ((l.drop p).take 3) * 256 = quad l p := by
  rw [num_cut l p 2 (by omega), num_cut l p 1 (by omega), num_cut l p 0 (by omega), num_cut0]
  unfold quad; rw [getD_past l (p + 3) (by omega)]; simp
theorem quad2 (l : List Int) (p : Nat) (h : p + 2 = l.length) : num ((l.drop p).take 2) * 65536 = quad l p := by
  rw [num_cut l p 1 (by omega), num_cut l p 0 (by omega), num_cut0]
  unfold quad; rw [getD_past l (p + 3) (by omega), getD_past l (p + 2) (by omega)]; simp; omega
theorem quad1 (l : List Int) (p : Nat) (h : p + 1 = l.length) : num ((l.drop p).take 1) * 16777216 = quad l p := by
  rw [num_cut l p 0 (by omega), num_cut0]
  unfold quad; rw [getD_past l (p + 3) (by omega), getD_past l (p + 2) (by omega), getD_past l (p + 1) (by omega)]; simp; omega
theorem cells_cut {w : World} {b off len : Nat} {zs : List Int} (hz : zs.length = len) (hc : ∀ i, i < len → w.cell? ⟨b, off + i, none⟩ = some (.int .u8 (zs.getD i 0))) (p m : Nat) (h : p + m ≤ len) :
    ∀ i, i < m → w.cell? ⟨b, off + p + i, none⟩ = some (.int .u8 (((zs.drop p).take m).getD i 0)) := by
  intro i hi
  have := hc (p + i) (by omega)
  rw [← Nat.add_assoc] at this
  rw [this, getD_cut zs p m i hi (by omega)]

theorem sum_step (l : List Int) (k : Nat) (q : Int) (h : q = quad l (4 * k)) : (sumTo l k + q % 4294967296) % 4294967296 = sumTo l (k + 1) := by
  subst h
  show _ = (sumTo l k + quad l (4 * k)) % 4294967296
  omega

set_option maxHeartbeats 800000 in
theorem sum_any (x : Option Addr) (len cap : Nat) (zs : List Int) (w : World) (hs : Seg w x len zs) (hl : len ≤ cap) (hm : cap ≤ maxLen) (h5 : len ≤ 5000) :
    Calls Try.prog 29 #[.slice x len cap] w fun e w' => e = .returned (.int .i64 (sumTo zs ((len + 3) / 4))) ∧ w' = w := by
  obtain ⟨hz, hb, hx⟩ := hs
  unfold maxLen at hm
  go_enter Try.func29, Try.ntmps29
  go_wp2
  go_loop [3, 4] (fun s i => ∃ k : Nat, 4 * k ≤ len + 3 ∧ i = .int .i64 (4 * (k : Int)) ∧ s = .int .u32 (sumTo zs k)) (fun _ i => len + 3 - (intOf i).toNat)
  case atStart => exact ⟨0, by omega, rfl, rfl⟩
  case round =>
    obtain ⟨k, hk, rfl, rfl⟩ := hrel
    have hsb := sumTo_bd zs k
    by_cases hlt : 4 * k < len
    · rcases hx with h | ⟨b, off, rfl, hc⟩
      · omega
      by_cases h4 : 4 * k + 4 ≤ len
      · have H4 := hide (quad4 zs (4 * k) (by omega))
        have HC := hide (cells_cut hz hc (4 * k) 4 (by omega))
        have hnb := num_lt ((zs.drop (4 * k)).take 4) (byt_cut hb _ _) (by simp; omega)
        have HB := hide (byt_cut hb (4 * k) 4)
        have HL := hide (show ((zs.drop (4 * k)).take 4).length = 4 by simp; omega)
        clear hc hb
        generalize (zs.drop (4 * k)).take 4 = ys at *
        go_wp2_with (go_at_call 35; refine (number_any _ _ _ _ ys _ HL.out (by omega) HC.out HB.out).mono ?_; rintro e w' ⟨rfl, rfl⟩)
        go_round
        case rel => exact ⟨k + 1, by omega, by go_num, by rw [H4.out]; rfl⟩
        case measure => simp [intOf]; omega
      · have h3 : len = 4 * k + 1 ∨ len = 4 * k + 2 ∨ len = 4 * k + 3 := by omega
        rcases h3 with h3 | h3 | h3
        · subst h3
          have H4 := hide (quad1 zs (4 * k) (by omega))
          have HC := hide (cells_cut hz hc (4 * k) 1 (by omega))
          have hnb := num_lt ((zs.drop (4 * k)).take 1) (byt_cut hb _ _) (by simp; omega)
          have HB := hide (byt_cut hb (4 * k) 1)
          have HL := hide (show ((zs.drop (4 * k)).take 1).length = 1 by simp; omega)
          clear hc hb
          generalize (zs.drop (4 * k)).take 1 = ys at *
          go_wp2_with (go_at_call 35; refine (number_any _ _ _ _ ys _ HL.out (by omega) HC.out HB.out).mono ?_; rintro e w' ⟨rfl, rfl⟩)
          go_round
          case rel => exact ⟨k + 1, by omega, by go_num, by rw [← sum_step zs k _ H4.out]⟩
          case measure => simp [intOf]; omega
        · subst h3
          have H4 := hide (quad2 zs (4 * k) (by omega))
          have HC := hide (cells_cut hz hc (4 * k) 2 (by omega))
          have hnb := num_lt ((zs.drop (4 * k)).take 2) (byt_cut hb _ _) (by simp; omega)
          have HB := hide (byt_cut hb (4 * k) 2)
          have HL := hide (show ((zs.drop (4 * k)).take 2).length = 2 by simp; omega)
          clear hc hb
          generalize (zs.drop (4 * k)).take 2 = ys at *
          go_wp2_with (go_at_call 35; refine (number_any _ _ _ _ ys _ HL.out (by omega) HC.out HB.out).mono ?_; rintro e w' ⟨rfl, rfl⟩)
          go_round
          case rel => exact ⟨k + 1, by omega, by go_num, by rw [← sum_step zs k _ H4.out]⟩
          case measure => simp [intOf]; omega
        · subst h3
          have H4 := hide (quad3 zs (4 * k) (by omega))
          have HC := hide (cells_cut hz hc (4 * k) 3 (by omega))
          have hnb := num_lt ((zs.drop (4 * k)).take 3) (byt_cut hb _ _) (by simp; omega)
          have HB := hide (byt_cut hb (4 * k) 3)
          have HL := hide (show ((zs.drop (4 * k)).take 3).length = 3 by simp; omega)
          clear hc hb
          generalize (zs.drop (4 * k)).take 3 = ys at *
          go_wp2_with (go_at_call 35; refine (number_any _ _ _ _ ys _ HL.out (by omega) HC.out HB.out).mono ?_; rintro e w' ⟨rfl, rfl⟩)
          go_round
          case rel => exact ⟨k + 1, by omega, by go_num, by rw [← sum_step zs k _ H4.out]⟩
          case measure => simp [intOf]; omega
    · go_wp2
      go_ret
      have e : (len + 3) / 4 = k := by omega
      exact ⟨ret_int (by rw [e]), rfl⟩

/-- The first j bytes of four. -/
def hq (l : List Int) (p : Nat) : Nat → Int | 0 => 0 | j + 1 => hq l p j * 256 + l.getD (p + j) 0
theorem hq_quad (l : List Int) (p : Nat) : hq l p 4 = quad l p := by simp [hq, quad]
theorem hq_bd (l : List Int) (hb : Byt l) (p j : Nat) (hj : j < 4) : 0 ≤ hq l p j ∧ hq l p j < 16777216 := by
  have h0 := hb p; have h1 := hb (p + 1); have h2 := hb (p + 2)
  match j, hj with
  | 0, _ => simp [hq]
  | 1, _ => simp only [hq, Nat.add_zero]; omega
  | 2, _ => simp only [hq, Nat.add_zero]; omega
  | 3, _ => simp only [hq, Nat.add_zero]; omega

set_option maxHeartbeats 800000 in
theorem rsum_any (x : Option Addr) (len cap : Nat) (zs : List Int) (w : World) (hs : Seg w x len zs) (_hl : len ≤ cap) (_hm : cap ≤ maxLen) (h5 : len ≤ 5000) :
    Calls Try.prog 30 #[.slice x len cap] w fun e w' => e = .returned (.int .i64 (sumTo zs ((len + 3) / 4))) ∧ w' = w := by
  obtain ⟨hz, hb, hx⟩ := hs
  go_enter Try.func30, Try.ntmps30
  go_wp2
  go_loop [3, 4, 5, 6] (fun s i _ _ => ∃ k : Nat, 4 * k ≤ len + 3 ∧ i = .int .i64 (4 * (k : Int)) ∧ s = .int .i64 (sumTo zs k)) (fun _ i _ _ => len + 3 - (intOf i).toNat)
  case atStart => exact ⟨0, by omega, rfl, rfl⟩
  case round =>
    obtain ⟨k, hk, rfl, rfl⟩ := hrel
    have hsb := sumTo_bd zs k
    by_cases hlt : 4 * k < len
    · rcases hx with h | ⟨b, off, rfl, hc⟩
      · omega
      go_wp2
      go_loop [5, 6] (fun t j => ∃ m : Nat, m ≤ 4 ∧ j = .int .i64 m ∧ t = .int .i64 (hq zs (4 * k) m)) (fun _ j => 4 - (intOf j).toNat)
      case atStart => exact ⟨0, by omega, rfl, rfl⟩
      case round =>
        obtain ⟨m, hm4, rfl, rfl⟩ := hrel
        by_cases hm : m < 4
        · have hqb := hq_bd zs hb (4 * k) m hm
          have HQ := hide (show hq zs (4 * k) (m + 1) = hq zs (4 * k) m * 256 + zs.getD (4 * k + m) 0 from rfl)
          have hy := hb (4 * k + m)
          by_cases hin : 4 * k + m < len
          · have hcell := hc (4 * k + m) hin
            clear hc hb
            generalize zs.getD (4 * k + m) 0 = y at *
            obtain ⟨hy1, hy2⟩ := hy
            go_wp2
            go_round
            case rel => exact ⟨m + 1, by omega, by go_num, by rw [HQ.out]⟩
            case measure => simp [intOf]; omega
          · have h0 := getD_past zs (4 * k + m) (by omega)
            rw [h0] at HQ
            clear hc hb h0 hy
            go_wp2
            go_round
            case rel => exact ⟨m + 1, by omega, by go_num, by rw [HQ.out]; go_num⟩
            case measure => simp [intOf]; omega
        · have e4 : m = 4 := by omega
          subst e4
          have HQ := hide (hq_quad zs (4 * k))
          have hqb := quad_bd zs hb (4 * k)
          rw [← HQ.out] at hqb
          clear hc hb
          go_wp2
          go_round
          case rel =>
            refine ⟨k + 1, by omega, by go_num, ?_⟩
            rw [HQ.out]; rfl
          case measure => simp [intOf]; omega
    · go_wp2
      go_ret
      have e : (len + 3) / 4 = k := by omega
      exact ⟨ret_int (by rw [e]), rfl⟩
end Go.Proofs.Ytpniapegamobmaa.A
