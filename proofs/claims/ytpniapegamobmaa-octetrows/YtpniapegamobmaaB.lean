/- Contracts of the readers of numbers in bytes. -/
import Derived.Test.YtpniapegamobmaaA
namespace Go.Proofs.Ytpniapegamobmaa.A
open Go.RowKit

theorem hide {p : Prop} (h : p) : Hid p := h

/-- The number of bytes, the highest one first. -/
def num (l : List Int) : Int := l.foldl (fun n x => n * 256 + x) 0
theorem num_snoc (l : List Int) (x : Int) : num (l ++ [x]) = num l * 256 + x := by simp [num]
/-- All are bytes. -/
def Byt (l : List Int) : Prop := ∀ i, 0 ≤ l.getD i 0 ∧ l.getD i 0 ≤ 255
theorem take_snoc (l : List Int) (k : Nat) (h : k < l.length) : l.take (k + 1) = l.take k ++ [l.getD k 0] := by
  rw [List.take_succ_eq_append_getElem h]; simp [h]
theorem num_take (l : List Int) (hb : Byt l) : ∀ k, k ≤ l.length → 0 ≤ num (l.take k) ∧ num (l.take k) < 256 ^ k
  | 0, _ => by simp [num]
  | k + 1, h => by
    obtain ⟨h1, h2⟩ := num_take l hb k (by omega)
    have h3 := hb k
    rw [take_snoc l k (by omega), num_snoc, Int.pow_succ]
    omega
theorem num_take4 (l : List Int) (hb : Byt l) (k : Nat) (hk : k < l.length) (h4 : k < 4) : 0 ≤ num (l.take k) ∧ num (l.take k) < 16777216 := by
  obtain ⟨h1, h2⟩ := num_take l hb k (by omega)
  refine ⟨h1, ?_⟩
  match k, h4 with
  | 0, _ => omega
  | 1, _ => omega
  | 2, _ => omega
  | 3, _ => omega
theorem num_lt (l : List Int) (hb : Byt l) (h4 : l.length ≤ 4) : 0 ≤ num l ∧ num l < 4294967296 := by
  obtain ⟨h1, h2⟩ := num_take l hb l.length (by omega)
  rw [List.take_length] at h1 h2
  refine ⟨h1, ?_⟩
  generalize l.length = k at *
  match k, h4 with
  | 0, _ => omega
  | 1, _ => omega
  | 2, _ => omega
  | 3, _ => omega
  | 4, _ => omega
theorem or_join (n x : Int) (h1 : 0 ≤ n) (h2 : n < 16777216) (h3 : 0 ≤ x) (h4 : x ≤ 255) :
    bits BinOp.or IntKind.i64 (wrap64 (n * 256)) (wrap64 x) = n * 256 + x := by
  have e1 : wrap64 (n * 256) = n * 256 := by unfold wrap64; omega
  have e2 : wrap64 x = x := by unfold wrap64; omega
  rw [e1, e2]
  refine bits_join .i64 62 (by decide) (fun m m0 m1 => ?_) 8 (n * 256) x (by omega) (by omega) (by omega) h3 (by omega) (by omega)
  rw [IntKind.wrap_i64]; omega

theorem num_step (zs : List Int) (hb : Byt zs) (k : Nat) (hk : k < zs.length) (h4 : k < 4) :
    bits BinOp.or IntKind.i64 (wrap64 (num (List.take k zs) * 256)) (wrap64 (zs.getD k 0)) = num (zs.take (k + 1)) := by
  obtain ⟨h1, h2⟩ := num_take4 zs hb k hk h4
  have h3 := hb k
  rw [or_join _ _ h1 h2 h3.1 h3.2, take_snoc zs k hk, num_snoc]

set_option maxHeartbeats 400000 in
theorem number_any (b off len cap : Nat) (zs : List Int) (w : World) (hz : zs.length = len) (h4 : len ≤ 4)
    (hc : ∀ i, i < len → w.cell? ⟨b, off + i, none⟩ = some (.int .u8 (zs.getD i 0))) (hb : Byt zs) :
    Calls Try.prog 35 #[.slice (some ⟨b, off, none⟩) len cap] w fun e w' => e = .returned (.int .i64 (num zs)) ∧ w' = w := by
  go_enter Try.func35, Try.ntmps35
  go_wp2
  go_loop [3, 8] (fun n i => ∃ k : Nat, k ≤ len ∧ i = .int .i64 k ∧ n = .int .i64 (num (zs.take k))) (fun _ i => len - (intOf i).toNat)
  case atStart => exact ⟨0, Nat.zero_le _, rfl, rfl⟩
  case round =>
    obtain ⟨k, hk, rfl, rfl⟩ := hrel
    have hcell : k < len → w.cell? ⟨b, off + k, none⟩ = some (.int .u8 (zs.getD k 0)) := fun h => hc k h
    clear hc
    by_cases hlt : k < len
    · have HS : Hid (bits BinOp.or IntKind.i64 (wrap64 (num (List.take k zs) * 256)) (wrap64 (zs.getD k 0)) = num (zs.take (k + 1))) := num_step zs hb k (by omega) (by omega)
      go_wp2
      go_round
      case rel =>
        refine ⟨k + 1, by omega, by go_num, ?_⟩
        rw [← HS.out]
        simp [hz, hlt]
      case measure => simp [intOf]; omega
    · go_wp2
      go_ret
      exact ⟨ret_int (by rw [List.take_of_length_le (by omega)]), rfl⟩

/-- What stands in memory at a slice of bytes: 'zs' are its elements (and no more). -/
def Seg (w : World) (x : Option Addr) (len : Nat) (zs : List Int) : Prop :=
  zs.length = len ∧ Byt zs ∧ (len = 0 ∨ ∃ b off, x = some ⟨b, off, none⟩ ∧ ∀ i, i < len → w.cell? ⟨b, off + i, none⟩ = some (.int .u8 (zs.getD i 0)))

theorem byt_drop {l : List Int} (hb : Byt l) (p : Nat) : Byt (l.drop p) := by
  intro i
  have := hb (p + i)
  simpa [List.getD_eq_getElem?_getD] using this
theorem getD_cut (l : List Int) (p m i : Nat) (hi : i < m) (_h : p + m ≤ l.length) : ((l.drop p).take m).getD i 0 = l.getD (p + i) 0 := by
  simp [List.getD_eq_getElem?_getD, hi]
theorem byt_cut {l : List Int} (hb : Byt l) (p m : Nat) : Byt ((l.drop p).take m) := by
  intro i
  by_cases hi : i < m
  · have := hb (p + i)
    simpa [List.getD_eq_getElem?_getD, List.getElem?_take, hi] using this
  · simp [List.getD_eq_getElem?_getD, List.getElem?_take, hi]

/-- The number of n bytes from a on, if they are within, else 0. -/
def numAt (zs : List Int) (a n : Int) : Int := if inB zs.length a n then num ((zs.drop a.toNat).take n.toNat) else 0

set_option maxHeartbeats 400000 in
theorem numberAt_any (x : Option Addr) (len cap : Nat) (zs : List Int) (a n : Int) (w : World) (hs : Seg w x len zs) (hl : len ≤ cap) (hm : cap ≤ maxLen) (h0 : 1 ≤ n) (h4 : n ≤ 4) :
    Calls Try.prog 31 #[.slice x len cap, .int .i64 a, .int .i64 n] w fun e w' => e = .returned (.tuple #[.int .i64 (numAt zs a n), .bool (inB len a n)]) ∧ w' = w := by
  obtain ⟨hz, hb, hx⟩ := hs
  have hmm := hm
  unfold maxLen at hmm
  cases hi : inB len a n
  · have he : numAt zs a n = 0 := by unfold numAt; rw [hz, hi]; rfl
    have HE := hide he
    have HI := hide hi
    clear he hi
    go_enter Try.func31, Try.ntmps31
    go_wp2_with (go_at_call 15; refine (within_any _ _ _ _ _ _ (by omega) (by omega)).mono ?_; rintro e w' ⟨rfl, rfl⟩; rw [HI.out])
    go_ret2
    exact ⟨by rw [HE.out]; rfl, rfl⟩
  · have hi' := hi
    unfold inB at hi'
    have hd := of_decide_eq_true hi'
    clear hi'
    rcases hx with h | ⟨b, off, rfl, hc⟩
    · omega
    obtain ⟨p, rfl⟩ := Int.eq_ofNat_of_zero_le hd.1
    obtain ⟨m, rfl⟩ := Int.eq_ofNat_of_zero_le hd.2.1
    have he : numAt zs (p : Int) (m : Int) = num ((zs.drop p).take m) := by unfold numAt; rw [hz, hi]; simp
    have HE := hide he
    have HI := hide hi
    clear he hi
    go_enter Try.func31, Try.ntmps31
    go_wp2_with (first | (go_at_call 15; refine (within_any _ _ _ _ _ _ (by omega) (by omega)).mono ?_; rintro e w' ⟨rfl, rfl⟩; rw [HI.out]) | fail)
    refine (number_any b (off + p) m (cap - p) ((zs.drop p).take m) _ (by simp; omega) (by omega) ?_ (byt_cut hb p m)).mono ?_
    · intro i hi
      have := hc (p + i) (by omega)
      rw [← Nat.add_assoc] at this
      rw [this, getD_cut zs p m i hi (by omega)]
    rintro e w'' ⟨rfl, rfl⟩
    go_wp2
    go_ret2
    exact ⟨by rw [HE.out]; rfl, rfl⟩

theorem u8_any (x : Option Addr) (len cap : Nat) (zs : List Int) (a : Int) (w : World) (hs : Seg w x len zs) (hl : len ≤ cap) (hm : cap ≤ maxLen) :
    Calls Try.prog 13 #[.slice x len cap, .int .i64 a] w fun e w' => e = .returned (.tuple #[.int .i64 (numAt zs a 1), .bool (inB len a 1)]) ∧ w' = w := by
  go_enter Try.func13, Try.ntmps13
  go_wp2_with (go_at_call 31; refine (numberAt_any _ _ _ zs _ _ _ hs hl hm (by omega) (by omega)).mono ?_; rintro e w' ⟨rfl, rfl⟩)
  go_ret2
  exact ⟨rfl, rfl⟩

theorem u16_any (x : Option Addr) (len cap : Nat) (zs : List Int) (a : Int) (w : World) (hs : Seg w x len zs) (hl : len ≤ cap) (hm : cap ≤ maxLen) :
    Calls Try.prog 17 #[.slice x len cap, .int .i64 a] w fun e w' => e = .returned (.tuple #[.int .i64 (numAt zs a 2), .bool (inB len a 2)]) ∧ w' = w := by
  go_enter Try.func17, Try.ntmps17
  go_wp2_with (go_at_call 31; refine (numberAt_any _ _ _ zs _ _ _ hs hl hm (by omega) (by omega)).mono ?_; rintro e w' ⟨rfl, rfl⟩)
  go_ret2
  exact ⟨rfl, rfl⟩

theorem u32_any (x : Option Addr) (len cap : Nat) (zs : List Int) (a : Int) (w : World) (hs : Seg w x len zs) (hl : len ≤ cap) (hm : cap ≤ maxLen) :
    Calls Try.prog 20 #[.slice x len cap, .int .i64 a] w fun e w' => e = .returned (.tuple #[.int .i64 (numAt zs a 4), .bool (inB len a 4)]) ∧ w' = w := by
  go_enter Try.func20, Try.ntmps20
  go_wp2_with (go_at_call 31; refine (numberAt_any _ _ _ zs _ _ _ hs hl hm (by omega) (by omega)).mono ?_; rintro e w' ⟨rfl, rfl⟩)
  go_ret2
  exact ⟨rfl, rfl⟩

theorem ret_ib {a b : Int} {c d : Bool} (h : a = b) (h' : c = d) : Ending.returned (.tuple #[.int .i64 a, .bool c]) = .returned (.tuple #[.int .i64 b, .bool d]) := by rw [h, h']
/-- Two bytes' number with its sign. -/
def sg (n : Int) : Int := if 32768 ≤ n then n - 65536 else n

theorem wrap_i16 (n : Int) : IntKind.i16.wrap n = (n + 32768) % 65536 - 32768 := by
  simp [IntKind.wrap, IntKind.bits, IntKind.signed]
  split <;> omega
theorem i16_form (n : Int) (h0 : 0 ≤ n) (h1 : n < 65536) : wrap64 (IntKind.i16.wrap n) = sg n := by
  rw [wrap_i16]
  unfold wrap64 sg
  split <;> omega
theorem numAt2 (zs : List Int) (a : Int) (hb : Byt zs) : 0 ≤ numAt zs a 2 ∧ numAt zs a 2 < 65536 := by
  unfold numAt
  split
  · have h1 := num_take (zs.drop a.toNat) (byt_drop hb _) 2
    rename_i h
    unfold inB at h
    have hd := of_decide_eq_true h
    have := h1 (by simp; omega)
    simpa using this
  · omega

set_option maxHeartbeats 400000 in
theorem i16_any (x : Option Addr) (len cap : Nat) (zs : List Int) (a : Int) (w : World) (hs : Seg w x len zs) (hl : len ≤ cap) (hm : cap ≤ maxLen) :
    Calls Try.prog 18 #[.slice x len cap, .int .i64 a] w fun e w' => e = .returned (.tuple #[.int .i64 (sg (numAt zs a 2)), .bool (inB len a 2)]) ∧ w' = w := by
  have hb := numAt2 zs a hs.2.1
  go_enter Try.func18, Try.ntmps18
  go_wp2_with (go_at_call 17; refine (u16_any _ _ _ zs _ _ hs hl hm).mono ?_; rintro e w' ⟨rfl, rfl⟩)
  go_ret2
  refine ⟨ret_ib ?_ rfl, rfl⟩
  exact i16_form _ hb.1 hb.2

set_option maxHeartbeats 400000 in
theorem rnumber_any (x : Option Addr) (len cap : Nat) (zs : List Int) (a n : Int) (w : World) (hs : Seg w x len zs) (hl : len ≤ cap) (hm : cap ≤ maxLen) (h0 : 1 ≤ n) (h4 : n ≤ 4) :
    Calls Try.prog 14 #[.slice x len cap, .int .i64 a, .int .i64 n] w fun e w' => e = .returned (.tuple #[.int .i64 (numAt zs a n), .bool (inB len a n)]) ∧ w' = w := by
  obtain ⟨hz, hb, hx⟩ := hs
  have hmm := hm
  unfold maxLen at hmm
  cases hi : inB len a n
  · have he : numAt zs a n = 0 := by unfold numAt; rw [hz, hi]; rfl
    have HE := hide he
    have HI := hide hi
    clear he hi
    go_enter Try.func14, Try.ntmps14
    go_wp2_with (go_at_call 16; refine (rwithin_any _ _ _ _ (by omega)).mono ?_; rintro e w' ⟨rfl, rfl⟩; rw [HI.out])
    go_ret2
    exact ⟨by rw [HE.out]; rfl, rfl⟩
  · have hi' := hi
    unfold inB at hi'
    have hd := of_decide_eq_true hi'
    clear hi'
    rcases hx with h | ⟨b, off, rfl, hc⟩
    · omega
    obtain ⟨p, rfl⟩ := Int.eq_ofNat_of_zero_le hd.1
    obtain ⟨m, rfl⟩ := Int.eq_ofNat_of_zero_le hd.2.1
    have he : numAt zs (p : Int) (m : Int) = num ((zs.drop p).take m) := by unfold numAt; rw [hz, hi]; simp
    have HE := hide he
    have HI := hide hi
    clear he hi
    have hcc : ∀ i, i < m → w.cell? ⟨b, off + (p + i), none⟩ = some (.int .u8 (((zs.drop p).take m).getD i 0)) := by
      intro i hi
      rw [getD_cut zs p m i hi (by omega)]
      exact hc (p + i) (by omega)
    have hyl : ((zs.drop p).take m).length = m := by simp; omega
    have hyb := byt_cut hb p m
    generalize (zs.drop p).take m = ys at *
    clear hc hb
    go_enter Try.func14, Try.ntmps14
    go_wp2_with (go_at_call 16; refine (rwithin_any _ _ _ _ (by omega)).mono ?_; rintro e w' ⟨rfl, rfl⟩; rw [HI.out])
    go_loop [8, 9] (fun t i => ∃ k : Nat, k ≤ m ∧ i = .int .i64 k ∧ t = .int .i64 (num (ys.take k))) (fun _ i => m - (intOf i).toNat)
    case atStart => exact ⟨0, Nat.zero_le _, rfl, rfl⟩
    case round =>
      obtain ⟨k, hk, rfl, rfl⟩ := hrel
      by_cases hlt : k < m
      · have hcell := hcc k hlt
        have hn := num_take4 ys hyb k (by omega) (by omega)
        have hy := hyb k
        have HS : Hid (num (ys.take k) * 256 + ys.getD k 0 = num (ys.take (k + 1))) := by rw [take_snoc ys k (by omega), num_snoc]; exact rfl
        clear hcc hyb
        generalize ys.getD k 0 = y at *
        obtain ⟨hy1, hy2⟩ := hy
        go_wp2
        go_round
        case rel => 
          refine ⟨k + 1, by omega, by go_num, ?_⟩
          rw [← HS.out]
        case measure => simp [intOf]; omega
      · go_wp2
        go_ret2
        exact ⟨by rw [HE.out, List.take_of_length_le (by omega)]; rfl, rfl⟩

set_option maxHeartbeats 400000 in
theorem rsigned_any (x : Option Addr) (len cap : Nat) (zs : List Int) (a : Int) (w : World) (hs : Seg w x len zs) (hl : len ≤ cap) (hm : cap ≤ maxLen) :
    Calls Try.prog 19 #[.slice x len cap, .int .i64 a] w fun e w' => e = .returned (.tuple #[.int .i64 (sg (numAt zs a 2)), .bool (inB len a 2)]) ∧ w' = w := by
  have hb := numAt2 zs a hs.2.1
  by_cases c : 32768 ≤ numAt zs a 2
  · have HE := hide (show sg (numAt zs a 2) = numAt zs a 2 - 65536 by unfold sg; rw [if_pos c])
    go_enter Try.func19, Try.ntmps19
    go_wp2_with (go_at_call 14; refine (rnumber_any _ _ _ zs _ _ _ hs hl hm (by omega) (by omega)).mono ?_; rintro e w' ⟨rfl, rfl⟩)
    go_ret2
    exact ⟨ret_ib HE.out.symm rfl, rfl⟩
  · have HE := hide (show sg (numAt zs a 2) = numAt zs a 2 by unfold sg; rw [if_neg c])
    go_enter Try.func19, Try.ntmps19
    go_wp2_with (go_at_call 14; refine (rnumber_any _ _ _ zs _ _ _ hs hl hm (by omega) (by omega)).mono ?_; rintro e w' ⟨rfl, rfl⟩)
    go_ret2
    exact ⟨ret_ib HE.out.symm rfl, rfl⟩

end Go.Proofs.Ytpniapegamobmaa.A
