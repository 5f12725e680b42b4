/- Names; rules in memory; which rule may follow. -/
import Derived.WalkKit
import Derived.ProofKit
import Derived.Outline
import Derived.BigQuiet
import Derived.Deep.QuietTactic
import Derived.Below
import Derived.WalkLawsBesides
import Derived.Laws.AppendOwn
import Derived.Shelf.Small.Strs
import Derived.Shelf.Strconv.Itoa0
import Derived.Shelf.Strconv.Itoa1
import Derived.Shelf.LaysM
import Derived.Shelf.Strconv.Itoa2
import Derived.Shelf.Strconv.Clone
import Derived.Shelf.Strings.Search1
import Derived.Shelf.Strings.Search2
import Derived.Shelf.Strings.Search3
import Derived.Shelf.Strings.Count
import Derived.Shelf.Strings.Shaped
import Derived.Shelf.Strconv.AppendUint10
import Derived.Shelf.Strconv.AppendInt10
import Derived.Shelf.Strconv.AppendIntPublic10
import Derived.Shelf.Strings.Split
import Derived.Shelf.Strings.SplitShaped
import Derived.Shelf.Bits.Mul64
import Derived.Shelf.Unicode.DecodeSlow
import Derived.Ground.Names2Prog
import Derived.Shelf.Slices.Clone
import Derived.Ground.SlgnProg
import Derived.Shelf.SlicesE.Clone
import Derived.Deep.RegionHeld3
import Derived.OpenShut
import Derived.Deep.Slices
import Derived.Deep.Strs
import Derived.Deep.OwnRows
import Derived.Deep.WholeRow
import Derived.Deep.Heap
import Derived.Laws.OwnMore
import Derived.Deep.AppendLies
import Derived.Deep.RegionLaw
import Derived.OwnWalk
import Derived.Deep.AppendSrc
import Derived.Laws.AppendOwnNone
import Derived.Test.YtbbfjjjnifomgaaGreatDoorK1
import Derived.Test.YtbbfjjjnifomgaaGreatDoorK3
import Derived.Test.YtbbfjjjnifomgaaGreatDoorK6
import Derived.Test.YtbbfjjjnifomgaaGreatDoorK8
import Derived.Test.YtbbfjjjnifomgaaGreatDoorK11
import Derived.Test.YtbbfjjjnifomgaaGreatDoorK13
import Derived.Test.YtbbfjjjnifomgaaGreatDoorK19
import Derived.Test.YtbbfjjjnifomgaaGreatDoorK20
import Derived.Defers
import Derived.Recover
import Derived.Test.YtbbfjjjnifomgaaGreatDoorK18
import Derived.Test.YtbbfjjjnifomgaaGreatDoorK21
namespace Go.Proofs.YtbbfjjjnifomgaaGreatDoor.A
open Go.RowKit
set_option linter.unusedVariables false

def sm8 (b : Nat) : Bool := decide (97 ≤ b) && decide (b ≤ 122)
/-- How many letters a to z a text has from a place on, with that place. -/
def smL (L : ByteArray) : Nat → Nat → Nat
  | 0, k => k
  | f + 1, k => if (decide (k < L.size) && sm8 (by8 L k)) = true then smL L f (k + 1) else k
def smF (L : ByteArray) : Nat := smL L (L.size + 1) 0
theorem smL_le {L : ByteArray} : ∀ (f k : Nat), k ≤ L.size → smL L f k ≤ L.size
  | 0, k, h => h
  | f + 1, k, h => by
    show (if (decide (k < L.size) && sm8 (by8 L k)) = true then smL L f (k + 1) else k) ≤ L.size
    by_cases hc : (decide (k < L.size) && sm8 (by8 L k)) = true
    · rw [if_pos hc]
      simp only [Bool.and_eq_true, decide_eq_true_eq] at hc
      exact smL_le f (k + 1) hc.1
    · rw [if_neg hc]; exact h
theorem smF_le (L : ByteArray) : smF L ≤ L.size := smL_le _ _ (Nat.zero_le _)

set_option maxHeartbeats 1600000 in
theorem smalls_any (L : ByteArray) (w : World) (hL : L.size ≤ 2000) : Calls Tryz.prog 83 #[.string L] w fun e w' => e = .returned (.int .i64 (smF L : Nat)) ∧ w' = w := by
  go_enter Tryz.func83, Tryz.ntmps83
  go_wp2_with fail
  go_loopw [3] (fun u wr => ∃ (k f : Nat), u = .int .i64 k ∧ k ≤ L.size ∧ L.size < k + f ∧ smL L f k = smF L ∧ w = wr) (fun u _ => L.size - (intOf u).toNat)
  case atStart => exact ⟨0, L.size + 1, rfl, Nat.zero_le _, by omega, rfl, rfl⟩
  case round =>
    obtain ⟨k, f, rfl, hk, hf, hs, rfl⟩ := hrel
    obtain ⟨f, rfl⟩ : ∃ f', f = f' + 1 := ⟨f - 1, by omega⟩
    have HS := hide (show (if (decide (k < L.size) && sm8 (by8 L k)) = true then smL L f (k + 1) else k) = smF L from hs)
    have hk0 : (0 : Int) ≤ (k : Int) := by omega
    clear hs
    by_cases hlt : k < L.size
    · have hlt' : (k : Int) < (L.size : Int) := by omega
      have e8 : by8 L k = (L[k]'hlt).toNat := by unfold by8; rw [dif_pos hlt]
      by_cases h97 : 97 ≤ (L[k]'hlt).toNat
      · have z1 : (97 : Int) ≤ ((L[k]'hlt).toNat : Int) := by omega
        by_cases h122 : (L[k]'hlt).toNat ≤ 122
        · have z2 : ((L[k]'hlt).toNat : Int) ≤ 122 := by omega
          have HS2 := hide (show smL L f (k + 1) = smF L from by rw [← HS.out, if_pos (by rw [e8]; simp [hlt, sm8, h97, h122])])
          clear HS e8 h97 h122
          go_wp2
          go_roundw
          case rel => exact ⟨k + 1, f, by go_num, by omega, by omega, HS2.out, trivial⟩
          case measure => simp [intOf]; omega
        · have z2 : ¬ ((L[k]'hlt).toNat : Int) ≤ 122 := by omega
          have HS2 := hide (show k = smF L from by rw [← HS.out, if_neg (by rw [e8]; simp [hlt, sm8, h97, h122])])
          clear HS e8 h97 h122
          go_wp2
          go_ret
          exact ⟨by rw [← HS2.out]; rfl, rfl⟩
      · have z1 : ¬ (97 : Int) ≤ ((L[k]'hlt).toNat : Int) := by omega
        have HS2 := hide (show k = smF L from by rw [← HS.out, if_neg (by rw [e8]; simp [hlt, sm8, h97])])
        clear HS e8 h97
        go_wp2
        go_ret
        exact ⟨by rw [← HS2.out]; rfl, rfl⟩
    · have e : k = L.size := by omega
      subst e
      have HS2 := hide (show L.size = smF L from by rw [← HS.out, if_neg (by simp)])
      clear HS
      go_wp2
      go_ret
      exact ⟨by rw [← HS2.out]; rfl, rfl⟩
/-- May a name be? -/
def nameB (L : ByteArray) : Bool := decide (1 ≤ L.size) && decide (L.size ≤ 16) && decide (smF L = L.size)
theorem nameRight_any (L : ByteArray) (w : World) (hL : L.size ≤ maxLen) : Calls Tryz.prog 66 #[.string L] w fun e w' => e = .returned (.bool (nameB L)) ∧ w' = w := by
  unfold maxLen at hL
  by_cases h1 : 1 ≤ L.size
  · have h1' : (1 : Int) ≤ (L.size : Int) := by omega
    by_cases h16 : L.size ≤ 16
    · have h16' : (L.size : Int) ≤ 16 := by omega
      have HN := hide (show nameB L = decide (smF L = L.size) by unfold nameB; simp [h1, h16])
      go_enter Tryz.func66, Tryz.ntmps66
      go_wp2_with fail
      refine (smalls_any L w (by omega)).mono ?_
      rintro e w1 ⟨rfl, hw⟩
      subst hw
      by_cases hs : smF L = L.size
      · have hs' : ((smF L : Int) == (L.size : Int)) = true := by simp; omega
        have HN2 := hide (show nameB L = true by rw [HN.out]; simpa using hs)
        clear hs HN
        go_wp2
        go_ret
        exact ⟨by rw [HN2.out]; rfl, rfl⟩
      · have hs' : ((smF L : Int) == (L.size : Int)) = false := by simp; omega
        have HN2 := hide (show nameB L = false by rw [HN.out]; simpa using hs)
        clear hs HN
        go_wp2
        go_ret
        exact ⟨by rw [HN2.out]; rfl, rfl⟩
    · have h16' : ¬ (L.size : Int) ≤ 16 := by omega
      have HN := hide (show nameB L = false by unfold nameB; simp [h16])
      go_enter Tryz.func66, Tryz.ntmps66
      go_wp2
      go_ret
      exact ⟨by rw [HN.out]; rfl, rfl⟩
  · have h1' : ¬ (1 : Int) ≤ (L.size : Int) := by omega
    have HN := hide (show nameB L = false by unfold nameB; simp [h1])
    go_enter Tryz.func66, Tryz.ntmps66
    go_wp2
    go_ret
    exact ⟨by rw [HN.out]; rfl, rfl⟩

/-- A rule. -/
structure Rl where
  nm : ByteArray
  n : Nat
  t : Ex n
  br : Bool
/-- A value is a rule, by its memory. -/
def Ru (w : World) (x : Rl) (v : Value) : Prop := ∃ (k s : Nat) (a : Option Addr) (l c : Nat), v = .agg #[.string x.nm, .int .u8 k, .int .u16 s, .slice a l c, .bool x.br] ∧ x.nm.size ≤ maxLen ∧ Rx w x.n x.t (.agg #[.int .u8 k, .int .u16 s, .slice a l c])
theorem ru_below {w w' : World} (hb : Below w.heap.size w w') {x : Rl} {v : Value} : Ru w x v → Ru w' x v := fun ⟨k, s, a, l, c, h1, h2, h3⟩ => ⟨k, s, a, l, c, h1, h2, rx_below hb _ _ _ h3⟩
/-- Rules at a slice. -/
def Rs (w : World) (a : Option Addr) (len : Nat) (l : List Rl) : Prop := l.length = len ∧ (len = 0 ∨ ∃ b off, a = some ⟨b, off, none⟩ ∧ ∀ (i : Nat) (x : Rl), l[i]? = some x → ∃ (k s : Nat) (a' : Option Addr) (l' c : Nat),
  w.cell? ⟨b, off + i * 5, none⟩ = some (.string x.nm) ∧ w.cell? ⟨b, off + i * 5 + 1, none⟩ = some (.int .u8 k) ∧ w.cell? ⟨b, off + i * 5 + 2, none⟩ = some (.int .u16 s) ∧ w.cell? ⟨b, off + i * 5 + 3, none⟩ = some (.slice a' l' c) ∧ w.cell? ⟨b, off + i * 5 + 4, none⟩ = some (.bool x.br) ∧ x.nm.size ≤ maxLen ∧ Rx w x.n x.t (.agg #[.int .u8 k, .int .u16 s, .slice a' l' c]))
theorem rs_below {w w' : World} (hb : Below w.heap.size w w') {a : Option Addr} {len : Nat} {l : List Rl} (h : Rs w a len l) : Rs w' a len l := by
  refine ⟨h.1, ?_⟩
  rcases h.2 with h0 | ⟨b, off, e, h2⟩
  · exact .inl h0
  · refine .inr ⟨b, off, e, fun i x hx => ?_⟩
    obtain ⟨k, s, a', l', c, p0, p1, p2, p3, p4, p5, p6⟩ := h2 i x hx
    exact ⟨k, s, a', l', c, (hb.cell (cell_lt p0)).trans p0, (hb.cell (cell_lt p1)).trans p1, (hb.cell (cell_lt p2)).trans p2, (hb.cell (cell_lt p3)).trans p3, (hb.cell (cell_lt p4)).trans p4, p5, rx_below hb _ _ _ p6⟩
/-- The first of them. -/
theorem rs_take {w : World} {a : Option Addr} {len : Nat} {l : List Rl} (h : Rs w a len l) (k : Nat) (hk : k ≤ len) : Rs w a k (l.take k) := by
  refine ⟨by rw [List.length_take, h.1]; omega, ?_⟩
  rcases h.2 with h0 | ⟨b, off, e, h2⟩
  · exact .inl (by omega)
  · refine .inr ⟨b, off, e, fun i x hx => h2 i x ?_⟩
    rw [List.getElem?_take] at hx
    by_cases q : i < k
    · rw [if_pos q] at hx; exact hx
    · rw [if_neg q] at hx; cases hx
theorem rs_open {w : World} {a : Option Addr} {len : Nat} {l : List Rl} (h : Rs w a len l) {i : Nat} (hi : i < len) : ∃ (x : Rl) (b off : Nat) (k s : Nat) (a' : Option Addr) (l' c : Nat), a = some ⟨b, off, none⟩ ∧ l[i]? = some x ∧
    w.cell? ⟨b, off + i * 5, none⟩ = some (.string x.nm) ∧ w.cell? ⟨b, off + i * 5 + 1, none⟩ = some (.int .u8 k) ∧ w.cell? ⟨b, off + i * 5 + 2, none⟩ = some (.int .u16 s) ∧ w.cell? ⟨b, off + i * 5 + 3, none⟩ = some (.slice a' l' c) ∧ w.cell? ⟨b, off + i * 5 + 4, none⟩ = some (.bool x.br) ∧ x.nm.size ≤ maxLen ∧ Rx w x.n x.t (.agg #[.int .u8 k, .int .u16 s, .slice a' l' c]) := by
  rcases h.2 with h0 | ⟨b, off, e, h2⟩
  · omega
  · have hx : l[i]? = some (l[i]'(by rw [h.1]; exact hi)) := by simp
    obtain ⟨k, s, a', l', c, p0, p1, p2, p3, p4, p5, p6⟩ := h2 i _ hx
    exact ⟨_, b, off, k, s, a', l', c, e, hx, p0, p1, p2, p3, p4, p5, p6⟩

def sameN (a b : ByteArray) : Bool := a.toList == b.toList
set_option maxHeartbeats 800000 in
theorem alike_any (x : Rl) (v : Value) (p : Nat) (nm : ByteArray) (w : World) (h : Ru w x v) (hp : w.cell? ⟨p, 0, none⟩ = some (.string nm)) :
    Calls Tryz.prog 65 #[v, .pointer (some ⟨p, 0, none⟩)] w fun e w' => e = .returned (.bool (sameN x.nm nm)) ∧ Below w.heap.size w w' := by
  obtain ⟨k, s, a, l, c, rfl, h2, h3⟩ := h
  have HB := hide ((Below.refl w.heap.size w).alloc (Nat.le_refl _) (.cells #[.string x.nm, .int .u8 k, .int .u16 s, .slice a l c, .bool x.br] 57))
  have hp2 := fun o => cell_allocU hp o
  go_enter Tryz.func65, Tryz.ntmps65
  go_wp2
  go_ret
  exact ⟨rfl, HB.out⟩
set_option maxHeartbeats 1600000 in
theorem ruleIdx_any (a : Option Addr) (len cap : Nat) (l : List Rl) (p : Nat) (nm : ByteArray) (w : World) (hl : len ≤ maxLen) (h : Rs w a len l) (hp : w.cell? ⟨p, 0, none⟩ = some (.string nm)) :
    Calls Tryz.prog 84 #[.slice a len cap, .func (.func 65) #[] #[.pointer (some ⟨p, 0, none⟩)]] w fun e w' => ∃ z : Int, e = .returned (.int .i64 z) ∧ decide (0 ≤ z) = l.any (fun x => sameN x.nm nm) ∧ Below w.heap.size w w' := by
  unfold maxLen at hl
  have HR := hide h
  have HP := hide hp
  clear h hp
  go_enter Tryz.func84, Tryz.ntmps84
  go_wp2_with fail
  go_loopw [5, 8] (fun _ u wr => ∃ i : Nat, i ≤ len ∧ u = .int .i64 i ∧ (l.take i).any (fun x => sameN x.nm nm) = false ∧ Below w.heap.size w wr) (fun _ u _ => len - (intOf u).toNat)
  case atStart => exact ⟨0, Nat.zero_le _, rfl, rfl, Below.refl _ _⟩
  case round =>
    obtain ⟨i, hi, rfl, hd, hb⟩ := hrel
    have HD := hide hd
    have HBW := hide hb
    clear hd
    by_cases hlt : i < len
    · obtain ⟨x, b, off, k, s, a', l', c, rfl, hx, p0, p1, p2, p3, p4, p5, p6⟩ := rs_open (rs_below hb HR.out) hlt
      have HN := hide (show (l.take (i + 1)).any (fun x => sameN x.nm nm) = sameN x.nm nm from by rw [take_at hx, List.any_append, HD.out]; simp)
      have HIN := hide (show sameN x.nm nm = true → l.any (fun x => sameN x.nm nm) = true from fun g => List.any_eq_true.2 ⟨x, List.mem_of_getElem? hx, g⟩)
      have HC := hide (alike_any x _ p nm wr ⟨k, s, a', l', c, rfl, p5, p6⟩ ((hb.cell (cell_lt HP.out)).trans HP.out))
      have i3 : (0 : Int) ≤ (i : Int) := by omega
      have i4 : (i : Int) < (len : Int) := by omega
      clear hx p6 hb
      go_wp2_with fail
      refine HC.out.mono ?_
      rintro e w2 ⟨rfl, hb2⟩
      have HB2 := hide (HBW.out.trans (hb2.mono HBW.out.size))
      clear hb2
      cases hf : sameN x.nm nm
      · have HF := hide hf
        clear hf
        go_wp2
        go_roundw
        case rel => exact ⟨i + 1, by omega, by go_num, by rw [HN.out, HF.out], HB2.out⟩
        case measure => simp [intOf]; omega
      · have HF := hide hf
        clear hf
        go_wp2
        go_ret
        exact ⟨(i : Int), rfl, by rw [HIN.out HF.out]; simp, HB2.out⟩
    · have e : i = len := by omega
      subst e
      have HT := hide (show l.take i = l from List.take_of_length_le (by have := HR.out.1; omega))
      clear hb
      go_wp2
      go_ret
      exact ⟨-1, rfl, by rw [← HT.out, HD.out]; rfl, HBW.out⟩
set_option maxHeartbeats 800000 in
theorem ruleHas_any (a : Option Addr) (len cap : Nat) (l : List Rl) (p : Nat) (nm : ByteArray) (w : World) (hl : len ≤ maxLen) (h : Rs w a len l) (hp : w.cell? ⟨p, 0, none⟩ = some (.string nm)) :
    Calls Tryz.prog 67 #[.slice a len cap, .func (.func 65) #[] #[.pointer (some ⟨p, 0, none⟩)]] w fun e w' => e = .returned (.bool (l.any (fun x => sameN x.nm nm))) ∧ Below w.heap.size w w' := by
  have HC := hide (ruleIdx_any a len cap l p nm w hl h hp)
  clear h hp
  go_enter Tryz.func67, Tryz.ntmps67
  go_wp2_with fail
  refine HC.out.mono ?_
  rintro e w2 ⟨z, rfl, hz, hb2⟩
  have HB := hide hb2
  clear hb2 HC
  cases hg : l.any (fun x => sameN x.nm nm)
  · have hz' : decide (0 ≤ z) = false := hz.trans hg
    have HG := hide hg
    clear hg hz
    go_wp2
    go_ret
    exact ⟨by rw [HG.out]; rfl, HB.out⟩
  · have hz' : decide (0 ≤ z) = true := hz.trans hg
    have HG := hide hg
    clear hg hz
    go_wp2
    go_ret
    exact ⟨by rw [HG.out]; rfl, HB.out⟩

/-- May a rule stand behind others? -/
def umayB (l : List Rl) (x : Rl) : Bool := nameB x.nm && !l.any (fun y => sameN y.nm x.nm) && rightE x.n x.t && !emptyE x.n x.t
set_option maxHeartbeats 3200000 in
theorem may_any (a : Option Addr) (len cap : Nat) (l : List Rl) (x : Rl) (v : Value) (w : World) (hl : len ≤ maxLen) (h : Rs w a len l) (hx : Ru w x v) :
    Calls Tryz.prog 48 #[.slice a len cap, v] w fun e w' => e = .returned (.bool (umayB l x)) ∧ Below w.heap.size w w' := by
  obtain ⟨k, s, a', l', c, rfl, h2, h3⟩ := hx
  have hmf : ∀ (fn : Fn) (first cap : Array Value) (w : World), (Instr.makeFunc fn first cap).run Tryz.prog w = .ok (.func fn first cap) w := fun _ _ _ _ => rfl
  have hB := ((Below.refl w.heap.size w).alloc (Nat.le_refl _) (.cells #[.string x.nm, .int .u8 k, .int .u16 s, .slice a' l' c, .bool x.br] 57))
  have HB := hide hB
  have HRS := hide (rs_below hB h)
  have HX := hide (rx_below hB _ _ _ h3)
  have HCE := hide (show (w.alloc (.cells #[.string x.nm, .int .u8 k, .int .u16 s, .slice a' l' c, .bool x.br] 57)).heap[w.heap.size]? = some (.cells #[.string x.nm, .int .u8 k, .int .u16 s, .slice a' l' c, .bool x.br] 57 (0, 0)) from heap_alloc_last w _)
  have HM := hide (show umayB l x = (nameB x.nm && !l.any (fun y => sameN y.nm x.nm) && rightE x.n x.t && !emptyE x.n x.t) from rfl)
  clear hB h h3
  go_enter Tryz.func48, Tryz.ntmps48
  go_wp2_with fail
  generalize w.alloc (.cells #[.string x.nm, .int .u8 k, .int .u16 s, .slice a' l' c, .bool x.br] 57) = W at *
  obtain ⟨p, hp⟩ : ∃ p, w.heap.size = p := ⟨_, rfl⟩
  rw [hp] at HCE HB ⊢
  have HPS := hide hp
  clear hp
  have q0 : W.cell? ⟨p, 0, none⟩ = some (.string x.nm) := by simp [World.cell?, HCE.out]
  refine (nameRight_any x.nm W h2).mono ?_
  rintro e w0 ⟨rfl, hw⟩
  subst hw
  cases hn : nameB x.nm with
  | false =>
    have HF := hide (show umayB l x = false by rw [HM.out, hn]; rfl)
    clear hn HM
    go_wp2
    go_ret
    exact ⟨by rw [HF.out]; rfl, by rw [HPS.out]; exact HB.out⟩
  | true =>
    rw [hn] at HM
    clear hn
    go_wp2_with fail
    refine (ruleHas_any a len cap l p x.nm w0 hl HRS.out q0).mono ?_
    rintro e w1 ⟨rfl, hb1⟩
    cases hh : l.any (fun y => sameN y.nm x.nm) with
    | true =>
      rw [hh] at HM
      have HF := hide (show umayB l x = false by rw [HM.out]; rfl)
      have HB1 := hide (HB.out.trans (hb1.mono (by have := HB.out.size; rw [HPS.out] at this; exact this)))
      clear hh HM hb1
      go_wp2
      go_ret
      exact ⟨by rw [HF.out]; rfl, by rw [HPS.out]; exact HB1.out⟩
    | false =>
      rw [hh] at HM
      have hCE1 := (hb1.block p (Array.getElem?_eq_some_iff.1 HCE.out).1).trans HCE.out
      have HX1 := hide (rx_below hb1 _ _ _ HX.out)
      have HB1 := hide (HB.out.trans (hb1.mono (by have := HB.out.size; rw [HPS.out] at this; exact this)))
      have q1 : w1.cell? ⟨p, 1, none⟩ = some (.int .u8 k) := by simp [World.cell?, hCE1]
      have q2 : w1.cell? ⟨p, 2, none⟩ = some (.int .u16 s) := by simp [World.cell?, hCE1]
      have q3 : w1.cell? ⟨p, 3, none⟩ = some (.slice a' l' c) := by simp [World.cell?, hCE1]
      have HCE1 := hide hCE1
      clear hh hb1 hCE1 HX HB HRS HCE q0
      go_wp2_with fail
      refine (right_any x.n x.t _ w1 HX1.out).mono ?_
      rintro e w2 ⟨rfl, hb2⟩
      have hps : p ≤ w1.heap.size := by have := (Array.getElem?_eq_some_iff.1 HCE1.out).1; omega
      have HB2 := hide (HB1.out.trans (hb2.mono hps))
      cases hr : rightE x.n x.t with
      | false =>
        rw [hr] at HM
        have HF := hide (show umayB l x = false by rw [HM.out]; rfl)
        clear hr HM hb2
        go_wp2
        go_ret
        exact ⟨by rw [HF.out]; rfl, by rw [HPS.out]; exact HB2.out⟩
      | true =>
        rw [hr] at HM
        have hCE2 := (hb2.block p (Array.getElem?_eq_some_iff.1 HCE1.out).1).trans HCE1.out
        have HX2 := hide (rx_below hb2 _ _ _ HX1.out)
        have HRI := hide hr
        have r1 : w2.cell? ⟨p, 1, none⟩ = some (.int .u8 k) := by simp [World.cell?, hCE2]
        have r2 : w2.cell? ⟨p, 2, none⟩ = some (.int .u16 s) := by simp [World.cell?, hCE2]
        have r3 : w2.cell? ⟨p, 3, none⟩ = some (.slice a' l' c) := by simp [World.cell?, hCE2]
        have hps2 : p ≤ w2.heap.size := Nat.le_trans hps hb2.size
        clear hr hb2 hCE2 HX1 HB1 HCE1 q1 q2 q3
        go_wp2_with fail
        refine (empty_any x.n x.t _ w2 HX2.out).mono ?_
        rintro e w3 ⟨rfl, hb3⟩
        rw [HRI.out]
        have HB3 := hide (HB2.out.trans (hb3.mono hps2))
        clear hb3
        cases he : emptyE x.n x.t with
        | false =>
          rw [he] at HM
          have HF := hide (show umayB l x = true by rw [HM.out]; rfl)
          clear he HM
          go_wp2
          go_ret
          exact ⟨by rw [HF.out]; rfl, by rw [HPS.out]; exact HB3.out⟩
        | true =>
          rw [he] at HM
          have HF := hide (show umayB l x = false by rw [HM.out]; rfl)
          clear he HM
          go_wp2
          go_ret
          exact ⟨by rw [HF.out]; rfl, by rw [HPS.out]; exact HB3.out⟩
end Go.Proofs.YtbbfjjjnifomgaaGreatDoor.A



/- Right of rules. -/
namespace Go.Proofs.YtbbfjjjnifomgaaGreatDoor.A
open Go.RowKit
set_option linter.unusedVariables false

/-- Each may follow those ahead. -/
def goodL (ahead : List Rl) : List Rl → Bool
  | [] => true
  | x :: r => umayB ahead x && goodL (ahead ++ [x]) r
def rightG (l : List Rl) : Bool := decide (1 ≤ l.length) && decide (l.length ≤ 16) && goodL [] l
theorem drop_at {α : Type} {l : List α} {i : Nat} {x : α} (h : l[i]? = some x) : l.drop i = x :: l.drop (i + 1) := by
  obtain ⟨hi, e⟩ := List.getElem?_eq_some_iff.1 h
  rw [List.drop_eq_getElem_cons hi, e]
/-- A rule's block. -/
def St5 (w : World) (b : Nat) (nm : ByteArray) (k s : Nat) (a : Option Addr) (l c : Nat) (br : Bool) : Prop := w.heap[b]? = some (.cells #[.string nm, .int .u8 k, .int .u16 s, .slice a l c, .bool br] 57 (0, 0))
theorem st5_cells {w : World} {b : Nat} {nm : ByteArray} {k s : Nat} {a : Option Addr} {l c : Nat} {br : Bool} (h : St5 w b nm k s a l c br) : w.cell? ⟨b, 0, none⟩ = some (.string nm) ∧ w.cell? ⟨b, 1, none⟩ = some (.int .u8 k) ∧ w.cell? ⟨b, 2, none⟩ = some (.int .u16 s) ∧ w.cell? ⟨b, 3, none⟩ = some (.slice a l c) ∧ w.cell? ⟨b, 4, none⟩ = some (.bool br) ∧ ∀ j, w.frozen? ⟨b, j, none⟩ = false := by
  unfold St5 at h
  refine ⟨?_, ?_, ?_, ?_, ?_, fun j => ?_⟩ <;> simp [World.cell?, World.frozen?, h]
theorem st5_new (w : World) (nm : ByteArray) (k s : Nat) (a : Option Addr) (l c : Nat) (br : Bool) : St5 (w.alloc (.cells #[.string nm, .int .u8 k, .int .u16 s, .slice a l c, .bool br] 57)) w.heap.size nm k s a l c br := heap_alloc_last w _
theorem st5_lt {w : World} {b : Nat} {nm : ByteArray} {k s : Nat} {a : Option Addr} {l c : Nat} {br : Bool} (h : St5 w b nm k s a l c br) : b < w.heap.size := (Array.getElem?_eq_some_iff.1 h).1
theorem st5_below {w w' : World} {b : Nat} {nm : ByteArray} {k s : Nat} {a : Option Addr} {l c B : Nat} {br : Bool} (h : St5 w b nm k s a l c br) (hb : Below B w w') (hB : b < B) : St5 w' b nm k s a l c br := (hb.block b hB).trans h

end Go.Proofs.YtbbfjjjnifomgaaGreatDoor.A



/- A line's rule. -/
namespace Go.Proofs.YtbbfjjjnifomgaaGreatDoor.A
open Go.RowKit
set_option linter.unusedVariables false

theorem clone_any (s : ByteArray) (w : World) (hs : s.size ≤ 281474976710656) : Calls Tryz.prog 114 #[.string s] w fun e w' => e = .returned (.string s) ∧ Below w.heap.size w w' := by
  go_enter Tryz.func114, Tryz.ntmps114
  go_wp2_with fail
  refine (Tryz.stringslite_Clone s w hs).mono ?_
  rintro e w1 ⟨rfl, hb⟩
  have HB := hide hb
  clear hb
  go_wp2
  go_ret
  exact ⟨rfl, HB.out⟩
/-- The letters that a line begins with. -/
def nmF (L : ByteArray) : ByteArray := L.extract 0 (smF L)
set_option maxHeartbeats 1600000 in
theorem name_any (q : Nat) (L : ByteArray) (i : Nat) (w : World) (hL : L.size ≤ 2000) (h : Rd w q L i) :
    Calls Tryz.prog 89 #[.pointer (some ⟨q, 0, none⟩)] w fun e w' => e = .returned (.string (nmF L)) ∧ Rd w' q L (smF L) ∧ w.grownBy w' (some q) := by
  obtain ⟨p0, p1, f0, f1⟩ := rd_cells h
  have HR := hide h
  have HN := hide (show L.extract 0 (smF L) = nmF L from rfl)
  have hle := smF_le L
  clear h
  go_enter Tryz.func89, Tryz.ntmps89
  go_wp2_with fail
  refine (smalls_any L w hL).mono ?_
  rintro e w1 ⟨rfl, hw⟩
  subst hw
  obtain ⟨n, hn⟩ : ∃ n, smF L = n := ⟨_, rfl⟩
  have HSN := hide hn
  rw [hn] at hle HN ⊢
  clear hn
  have i1 : (0 : Int) ≤ (n : Int) := by omega
  have i2 : (n : Int) ≤ (L.size : Int) := by omega
  have HRN := hide (rd_set HR.out n)
  have HGN := hide (gb_set w1 q 1 (.int .i64 n))
  go_wp2_with fail
  generalize w1.setCell ⟨q, 1, none⟩ (.int .i64 n) = W at *
  refine (clone_any _ W (by simp; omega)).mono ?_
  rintro e w2 ⟨rfl, hb⟩
  have HR2 := hide (rd_below HRN.out hb (rd_lt HRN.out))
  have HG2 := hide (gb_trans HGN.out (gb_below (q := some q) hb))
  clear hb
  go_wp2
  go_ret
  rw [HSN.out]
  exact ⟨by rw [← HN.out]; rfl, HR2.out, HG2.out⟩

/-- A line's rule; none, if it is none. -/
def ruleF (L : ByteArray) : Option Rl :=
  if tk L (nx L (smF L) 33) 58 = true then (if tk L (nx L (smF L) 33 + 1) 32 = true then match exprN L (L.size + 1) (nx L (smF L) 33 + 2) with
    | none => none
    | some (t, j) => if j < L.size then none else some ⟨nmF L, 4 * (L.size + 1) + 1, t, tk L (smF L) 33⟩
    else none) else none
/-- What a call that tells a rule answers. -/
def OutR (w : World) (q : Nat) (R : Option Rl) (e : Ending) (w' : World) : Prop := match R with
  | none => e = .panicked gave ∧ w.grownBy w' (some q)
  | some x => ∃ (k s : Nat) (a : Option Addr) (l c : Nat) (S : List Nat), e = .returned (.agg #[.string x.nm, .int .u8 k, .int .u16 s, .slice a l c, .bool x.br]) ∧ Tr w' x.n x.t ⟨k, s, a, l, c⟩ S ∧ (∀ b ∈ S, w.heap.size ≤ b) ∧ w.grownBy w' (some q)
theorem st5_grown {w w' : World} {b : Nat} {nm : ByteArray} {k s : Nat} {a : Option Addr} {l c : Nat} {br : Bool} {r : Option Nat} (h : St5 w b nm k s a l c br) (hg : w.grownBy w' r) (hr : some b ≠ r) : St5 w' b nm k s a l c br := (hg.block b (st5_lt h) hr).trans h
theorem st5_alloc {w : World} {b : Nat} {nm : ByteArray} {k s : Nat} {a : Option Addr} {l c : Nat} {br : Bool} (h : St5 w b nm k s a l c br) (o : Obj) : St5 (w.alloc o) b nm k s a l c br := (Below.heap_alloc w o b (st5_lt h)).trans h
theorem five_heap (w : World) (r : Nat) (a b c d e : Value) (k : Nat) (hk : k ≠ r) : (((((w.setCell ⟨r, 0, none⟩ a).setCell ⟨r, 1, none⟩ b).setCell ⟨r, 2, none⟩ c).setCell ⟨r, 3, none⟩ d).setCell ⟨r, 4, none⟩ e).heap[k]? = w.heap[k]? := by
  exact ((((Below.heap_setCell _ ⟨r, 4, none⟩ e k hk).trans (Below.heap_setCell _ ⟨r, 3, none⟩ d k hk)).trans (Below.heap_setCell _ ⟨r, 2, none⟩ c k hk)).trans (Below.heap_setCell _ ⟨r, 1, none⟩ b k hk)).trans (Below.heap_setCell _ ⟨r, 0, none⟩ a k hk)
theorem gb_set1 {w w1 : World} {q r : Nat} (h : w.grownBy w1 (some q)) (hr : w.heap.size ≤ r) (j : Nat) (v : Value) : w.grownBy (w1.setCell ⟨r, j, none⟩ v) (some q) :=
  ⟨h.os, h.tape, h.output, by simpa using h.size, fun k hk hq => (Below.heap_setCell _ _ _ k (by show k ≠ r; omega)).trans (h.block k hk hq)⟩
theorem five_gb {w w1 : World} {q r : Nat} (h : w.grownBy w1 (some q)) (hr : w.heap.size ≤ r) (a b c d e : Value) : w.grownBy (((((w1.setCell ⟨r, 0, none⟩ a).setCell ⟨r, 1, none⟩ b).setCell ⟨r, 2, none⟩ c).setCell ⟨r, 3, none⟩ d).setCell ⟨r, 4, none⟩ e) (some q) :=
  gb_set1 (gb_set1 (gb_set1 (gb_set1 (gb_set1 h hr _ _) hr _ _) hr _ _) hr _ _) hr _ _

set_option maxHeartbeats 6400000 in
theorem rule_any (q : Nat) (L : ByteArray) (w : World) (hL : L.size ≤ 2000) (h : Rd w q L 0) :
    Calls Tryz.prog 75 #[.pointer (some ⟨q, 0, none⟩)] w fun e w' => OutR w q (ruleF L) e w' := by
  have hq := rd_lt h
  have HRA := hide (rd_alloc h (.cells #[.string { data := #[] }, .int .u8 0, .int .u16 0, .slice none 0 0, .bool false] 57))
  have HGA := hide (gb_alloc w (.cells #[.string { data := #[] }, .int .u8 0, .int .u16 0, .slice none 0 0, .bool false] 57) (some q))
  have HSA := hide (st5_new w { data := #[] } 0 0 none 0 0 false)
  have HF0 := hide (show ruleF L = if tk L (nx L (smF L) 33) 58 = true then (if tk L (nx L (smF L) 33 + 1) 32 = true then match exprN L (L.size + 1) (nx L (smF L) 33 + 2) with
    | none => none
    | some (t, j) => if j < L.size then none else some ⟨nmF L, 4 * (L.size + 1) + 1, t, tk L (smF L) 33⟩
    else none) else none from rfl)
  have hle := smF_le L
  clear h
  go_enter Tryz.func75, Tryz.ntmps75
  go_wp2_with fail
  generalize w.alloc (.cells #[.string { data := #[] }, .int .u8 0, .int .u16 0, .slice none 0 0, .bool false] 57) = W at *
  obtain ⟨r, hr⟩ : ∃ r, w.heap.size = r := ⟨_, rfl⟩
  rw [hr] at HSA ⊢
  have HQ := hide hr
  have hqr : q ≠ r := by omega
  have HQR := hide (show q < r by omega)
  clear hr hq
  refine (name_any q L 0 W hL HRA.out).mono ?_
  rintro e w1 ⟨rfl, h1, h2⟩
  have HR1 := hide h1
  have HG1 := hide (gb_trans HGA.out h2)
  have HS1 := hide (st5_grown HSA.out h2 (by simp; omega))
  clear h1 h2 HRA HGA HSA
  go_wp2_with fail
  refine (takes_any q L (smF L) 33 w1 hle hL HR1.out).mono ?_
  rintro e w2 ⟨rfl, h1, h2⟩
  have HR2 := hide h1
  have HG2 := hide (gb_trans HG1.out h2)
  have HS2 := hide (st5_grown HS1.out h2 (by simp; omega))
  have hle2 : nx L (smF L) 33 ≤ L.size := by
    unfold nx
    by_cases hc : tk L (smF L) 33 = true
    · rw [if_pos hc]; exact tk_lt hc
    · rw [if_neg hc]; exact hle
  clear h1 h2 HR1 HG1 HS1
  obtain ⟨br, hbr⟩ : ∃ br, tk L (smF L) 33 = br := ⟨_, rfl⟩
  obtain ⟨i1, hi1⟩ : ∃ i1, nx L (smF L) 33 = i1 := ⟨_, rfl⟩
  rw [hbr, hi1] at HF0
  rw [hi1] at hle2 HR2
  rw [hbr]
  have HBR := hide (And.intro hbr hi1)
  clear hbr hi1 hle
  cases ht : tk L i1 58 with
  | false =>
    rw [ht] at HF0
    have HFE := hide (show ruleF L = none from HF0.out)
    have HT := hide ht
    clear ht HF0
    go_wp2_with fail
    refine (need_no q L i1 58 w2 hle2 hL HR2.out HT.out).mono ?_
    rintro e w3 ⟨rfl, h3⟩
    have HG3 := hide (gb_trans HG2.out h3)
    clear h3
    go_wp2
    refine ⟨rfl, ?_⟩
    rw [HFE.out]
    exact ⟨rfl, HG3.out⟩
  | true =>
    rw [ht] at HF0
    have HT := hide ht
    have hlt1 := tk_lt ht
    clear ht
    go_wp2_with fail
    refine (need_yes q L i1 58 w2 hle2 hL HR2.out HT.out).mono ?_
    rintro e w3 ⟨rfl, h1, h2⟩
    have HR3 := hide h1
    have HG3 := hide (gb_trans HG2.out h2)
    have HS3 := hide (st5_grown HS2.out h2 (by simp; omega))
    clear h1 h2 HR2 HG2 HS2
    cases ht : tk L (i1 + 1) 32 with
    | false =>
      rw [ht] at HF0
      have HFE := hide (show ruleF L = none from HF0.out)
      have HT := hide ht
      clear ht HF0
      go_wp2_with fail
      refine (need_no q L (i1 + 1) 32 w3 hlt1 hL HR3.out HT.out).mono ?_
      rintro e w4 ⟨rfl, h3⟩
      have HG4 := hide (gb_trans HG3.out h3)
      clear h3
      go_wp2
      refine ⟨rfl, ?_⟩
      rw [HFE.out]
      exact ⟨rfl, HG4.out⟩
    | true =>
      rw [ht] at HF0
      have HT := hide ht
      have hlt2 := tk_lt ht
      clear ht
      go_wp2_with fail
      refine (need_yes q L (i1 + 1) 32 w3 hlt1 hL HR3.out HT.out).mono ?_
      rintro e w4 ⟨rfl, h1, h2⟩
      have HR4 := hide (show Rd w4 q L (i1 + 2) from h1)
      have HG4 := hide (gb_trans HG3.out h2)
      have HS4 := hide (st5_grown HS3.out h2 (by simp; omega))
      clear h1 h2 HR3 HG3 HS3
      go_wp2_with fail
      refine (exprN_any q L hL (L.size + 1) (i1 + 2) w4 hlt2 (by omega) HR4.out).mono ?_
      intro e w5 hout
      cases hE : exprN L (L.size + 1) (i1 + 2) with
      | none =>
        rw [hE] at hout HF0
        obtain ⟨rfl, h3⟩ := hout
        have HFE := hide (show ruleF L = none from HF0.out)
        have HG5 := hide (gb_trans HG4.out h3)
        clear h3 hE HF0
        go_wp2
        refine ⟨rfl, ?_⟩
        rw [HFE.out]
        exact ⟨rfl, HG5.out⟩
      | some p =>
        obtain ⟨t, j⟩ := p
        rw [hE] at hout HF0
        obtain ⟨y, S, rfl, hT, hN, hS, hij, hj, h3, h4⟩ := hout
        have HG5 := hide (gb_trans (gb_trans HG4.out h4) (gb_alloc w5 (.cells #[.int .u8 y.k, .int .u16 y.s, .slice y.a y.l y.c] 55) (some q)))
        have HR5 := hide (rd_alloc h3 (.cells #[.int .u8 y.k, .int .u16 y.s, .slice y.a y.l y.c] 55))
        have HS5 := hide (st5_alloc (st5_grown HS4.out h4 (by simp; omega)) (.cells #[.int .u8 y.k, .int .u16 y.s, .slice y.a y.l y.c] 55))
        have HY := hide (st3_new w5 y.k y.s (.slice y.a y.l y.c))
        have HT5 := hide (tr_alloc hT (.cells #[.int .u8 y.k, .int .u16 y.s, .slice y.a y.l y.c] 55))
        have HSS := hide (show ∀ b ∈ S, r < b from fun b hb => by have := hS b hb; have := st5_lt HS4.out; omega)
        have HF1 := hide (show ruleF L = if j < L.size then none else some ⟨nmF L, 4 * (L.size + 1) + 1, t, br⟩ from HF0.out)
        clear hT hN hS h3 h4 hE HR4 HG4 HS4 HF0
        go_wp2_with fail
        generalize w5.alloc (.cells #[.int .u8 y.k, .int .u16 y.s, .slice y.a y.l y.c] 55) = W5 at *
        generalize w5.heap.size = z at *
        obtain ⟨p0, p1, f0, f1⟩ := rd_cells HR5.out
        obtain ⟨n0, n1, n2, -⟩ := st3_cells HY.out
        by_cases hjl : j < L.size
        · have hjl' : (j : Int) < (L.size : Int) := by omega
          have g1 : decide ((j : Int) < (L.size : Int)) = true := by simp; omega
          have HFE := hide (show ruleF L = none by rw [HF1.out, if_pos hjl])
          clear HF1 hjl
          go_quiet (fail)
          go_wp2
          refine ⟨rfl, ?_⟩
          rw [HFE.out]
          exact ⟨rfl, gb_trans HG5.out (gb_drewN _ _ _)⟩
        · have hjl' : ¬ (j : Int) < (L.size : Int) := by omega
          have g1 : decide ((j : Int) < (L.size : Int)) = false := by simp; omega
          have HFE := hide (show ruleF L = some ⟨nmF L, 4 * (L.size + 1) + 1, t, br⟩ by rw [HF1.out, if_neg hjl])
          clear HF1 hjl
          obtain ⟨m0, m1, m2, m3, m4, m5⟩ := st5_cells HS5.out
          have k0 := m5 0
          have k1 := m5 1
          have k2 := m5 2
          have k3 := m5 3
          have k4 := m5 4
          clear m5
          go_quiet (fail)
          go_wp2
          refine bodyPost_ret (v := .agg #[.string (nmF L), .int .u8 y.k, .int .u16 y.s, .slice y.a y.l y.c, .bool br]) (by simp [results, Tryz.results75, go_sem, m0, m1, m2, m3, m4]) rfl ?_
          rw [HFE.out]
          refine ⟨y.k, y.s, y.a, y.l, y.c, S, rfl, ?_, (fun b hb => by have := HSS.out b hb; have := HQ.out; omega), ?_⟩
          · have hT6 : Tr (W5.drewN nq) (4 * (L.size + 1) + 1) t y S := tr_kept HT5.out (fun b hb => HSS.out b hb) (keep_drewN (r + 1) W5 nq)
            exact tr_keep _ t y S (fun b hb => five_heap _ _ _ _ _ _ _ b (by have := HSS.out b hb; omega)) hT6
          · exact five_gb (gb_trans HG5.out (gb_drewN W5 (some q) nq)) (by have := HQ.out; omega) _ _ _ _ _
end Go.Proofs.YtbbfjjjnifomgaaGreatDoor.A



/- readRule: what a reader gives up with is answered. -/
namespace Go.Proofs.YtbbfjjjnifomgaaGreatDoor.A
open Go.RowKit
set_option linter.unusedVariables false

set_option maxHeartbeats 1600000 in
theorem catch_panicking (b b1 : Nat) (nm : ByteArray) (k s : Nat) (a : Option Addr) (l c : Nat) (br x : Bool) (w : World) (h : St5 w b nm k s a l c br) (h1 : w.heap[b1]? = some (.cells #[.bool x] 4 (0, 0))) (hne : b ≠ b1) :
    CallsD Tryz.prog 74 #[.pointer (some ⟨b, 0, none⟩), .pointer (some ⟨b1, 0, none⟩)] (.panicking gave) w fun e u' w' =>
      e = .returned (.tuple #[]) ∧ u' = .panicking [{ v := .iface 148 (.agg #[]), recovered := true }] ∧
      w' = (((((w.setCell ⟨b, 0, none⟩ (.string { data := #[] })).setCell ⟨b, 1, none⟩ (.int .u8 0)).setCell ⟨b, 2, none⟩ (.int .u16 0)).setCell ⟨b, 3, none⟩ (.slice none 0 0)).setCell ⟨b, 4, none⟩ (.bool false)).setCell ⟨b1, 0, none⟩ (.bool false) := by
  obtain ⟨m0, m1, m2, m3, m4, m5⟩ := st5_cells h
  have k0 := m5 0
  have k1 := m5 1
  have k2 := m5 2
  have k3 := m5 3
  have k4 := m5 4
  have n0 : w.cell? ⟨b1, 0, none⟩ = some (.bool x) := by simp [World.cell?, h1]
  have n1 : w.frozen? ⟨b1, 0, none⟩ = false := by simp [World.frozen?, h1]
  unfold gave
  clear m5 h h1
  refine callsD_of_wpS Tryz.func74 rfl fun c₀ cs hu => ?_
  apply wpS_seq
  apply wpS_region
  simp [wpOpsS, go_sem, recoverD, hu, Tryz.ntmps74, Exit.thenS]
  refine wpS_cond (t := true) (by simp [Act.eval, Array.replicate]) ?_
  simp only [if_true]
  apply wpS_region
  simp [wpOpsS, go_sem, m0, m1, m2, m3, m4, k0, k1, k2, k3, k4, n0, n1, bodyPostS, results, Tryz.results74]

theorem catch_idle (b b1 : Nat) (w : World) :
    CallsD Tryz.prog 74 #[.pointer (some ⟨b, 0, none⟩), .pointer (some ⟨b1, 0, none⟩)] .returning w fun e u' w' => e = .returned (.tuple #[]) ∧ u' = .returning ∧ w' = w := by
  refine callsD_of_wpS Tryz.func74 rfl fun c₀ cs hu => ?_
  apply wpS_seq
  apply wpS_region
  simp [wpOpsS, go_sem, recoverD, hu, Tryz.ntmps74, Exit.thenS]
  refine wpS_cond (t := false) (by simp [Act.eval, Array.replicate]) ?_
  simp only [Bool.false_eq_true, if_false]
  refine wpS_of_wp (wp_skip ?_)
  cases c₀
  simp_all [bodyPostS, results, Tryz.results74]

theorem urow_set {w : World} {b : Nat} {cs : Array Value} {t : TypeId} {fr : Nat × Nat} (h : w.heap[b]? = some (.cells cs t fr)) (j : Nat) (v : Value) : (w.setCell ⟨b, j, none⟩ v).heap[b]? = some (.cells (cs.setIfInBounds j v) t fr) := by
  rw [setCell_eq_setRow _ _ _ _ _ _ _ h, setRow_heap _ _ _ _ _ _ h]
theorem five_st5 {w : World} {b : Nat} {nm : ByteArray} {k s : Nat} {a : Option Addr} {l c : Nat} {br : Bool} (h : St5 w b nm k s a l c br) (nm' : ByteArray) (k' s' : Nat) (a' : Option Addr) (l' c' : Nat) (br' : Bool) :
    St5 (((((w.setCell ⟨b, 0, none⟩ (.string nm')).setCell ⟨b, 1, none⟩ (.int .u8 k')).setCell ⟨b, 2, none⟩ (.int .u16 s')).setCell ⟨b, 3, none⟩ (.slice a' l' c')).setCell ⟨b, 4, none⟩ (.bool br')) b nm' k' s' a' l' c' br' :=
  urow_set (urow_set (urow_set (urow_set (urow_set h 0 _) 1 _) 2 _) 3 _) 4 _

/-- What readRule answers. -/
def OutL (w : World) (R : Option Rl) (e : Ending) (w' : World) : Prop := match R with
  | none => e = .returned (.tuple #[.agg #[.string { data := #[] }, .int .u8 0, .int .u16 0, .slice none 0 0, .bool false], .bool false]) ∧ Below w.heap.size w w'
  | some x => ∃ (y : Nd) (S : List Nat), e = .returned (.tuple #[.agg #[.string x.nm, .int .u8 y.k, .int .u16 y.s, .slice y.a y.l y.c, .bool x.br], .bool true]) ∧ x.nm.size ≤ 2000 ∧ Tr w' x.n x.t y S ∧ (∀ b ∈ S, w.heap.size ≤ b) ∧ Below w.heap.size w w'

set_option maxHeartbeats 3200000 in
theorem readRule_any (L : ByteArray) (w : World) (hL : L.size ≤ 2000) : Calls Tryz.prog 52 #[.string L] w fun e w' => OutL w (ruleF L) e w' := by
  have hmf : ∀ (fn : Fn) (first cap : Array Value) (w : World), (Instr.makeFunc fn first cap).run Tryz.prog w = .ok (.func fn first cap) w := fun _ _ _ _ => rfl
  have HB0 := hide ((((Below.refl w.heap.size w).alloc (Nat.le_refl _) (.cells #[.string { data := #[] }, .int .u8 0, .int .u16 0, .slice none 0 0, .bool false] 57)).alloc (by simp) (.cells #[.bool false] 4)).alloc (by simp; omega) (.cells #[.string L, .int .i64 0] 134))
  have HS0 := hide (st5_alloc (st5_alloc (st5_new w { data := #[] } 0 0 none 0 0 false) (.cells #[.bool false] 4)) (.cells #[.string L, .int .i64 0] 134))
  have HO0 := hide (show (((w.alloc (.cells #[.string { data := #[] }, .int .u8 0, .int .u16 0, .slice none 0 0, .bool false] 57)).alloc (.cells #[.bool false] 4)).alloc (.cells #[.string L, .int .i64 0] 134)).heap[w.heap.size + 1]? = some (.cells #[.bool false] 4 (0, 0)) from by
    have e := heap_alloc_last (w.alloc (.cells #[.string { data := #[] }, .int .u8 0, .int .u16 0, .slice none 0 0, .bool false] 57)) (.cells #[.bool false] 4)
    rw [show (w.alloc (.cells #[.string { data := #[] }, .int .u8 0, .int .u16 0, .slice none 0 0, .bool false] 57)).heap.size = w.heap.size + 1 by simp] at e
    exact (Below.heap_alloc _ _ _ (by simp)).trans e)
  have HR0 := hide (show Rd (((w.alloc (.cells #[.string { data := #[] }, .int .u8 0, .int .u16 0, .slice none 0 0, .bool false] 57)).alloc (.cells #[.bool false] 4)).alloc (.cells #[.string L, .int .i64 0] 134)) (w.heap.size + 1 + 1) L 0 from by
    have e := heap_alloc_last ((w.alloc (.cells #[.string { data := #[] }, .int .u8 0, .int .u16 0, .slice none 0 0, .bool false] 57)).alloc (.cells #[.bool false] 4)) (.cells #[.string L, .int .i64 0] 134)
    rw [show ((w.alloc (.cells #[.string { data := #[] }, .int .u8 0, .int .u16 0, .slice none 0 0, .bool false] 57)).alloc (.cells #[.bool false] 4)).heap.size = w.heap.size + 1 + 1 by simp] at e
    exact e)
  go_enter_defers Tryz.func52, Tryz.ntmps52
  go_wp2_with fail
  generalize ((w.alloc (.cells #[.string { data := #[] }, .int .u8 0, .int .u16 0, .slice none 0 0, .bool false] 57)).alloc (.cells #[.bool false] 4)).alloc (.cells #[.string L, .int .i64 0] 134) = W at *
  obtain ⟨b, hb⟩ : ∃ b, w.heap.size = b := ⟨_, rfl⟩
  rw [hb] at HB0 HS0 HO0 HR0 ⊢
  have HQ := hide hb
  clear hb
  refine (rule_any (b + 1 + 1) L W hL HR0.out).mono ?_
  intro e w1 hout
  cases hR : ruleF L with
  | none =>
    rw [hR] at hout
    obtain ⟨rfl, hg⟩ := hout
    have hs := st5_grown HS0.out hg (by simp; omega)
    have ho := (hg.block (b + 1) (Array.getElem?_eq_some_iff.1 HO0.out).1 (by simp)).trans HO0.out
    have HBF := hide (HB0.out.grown hg (by have := HB0.out.size; rw [HQ.out] at this; exact this) (fun k hk => by simp at hk; omega))
    have HR := hide hR
    clear hR hg
    refine leaves_cons (f := 74) (args := #[.pointer (some ⟨b, 0, none⟩), .pointer (some ⟨b + 1, 0, none⟩)]) (by simp) (by simp [go_sem]) ?_
    refine (catch_panicking b (b + 1) _ _ _ _ _ _ _ _ w1 hs ho (by omega)).mono ?_
    rintro e u' w2 ⟨rfl, rfl, hw2⟩
    have hs2 : St5 w2 b { data := #[] } 0 0 none 0 0 false := by
      rw [hw2]
      exact (Below.heap_setCell _ _ _ _ (by show b ≠ b + 1; omega)).trans (five_st5 hs { data := #[] } 0 0 none 0 0 false)
    have ho2 : w2.heap[b + 1]? = some (.cells #[.bool false] 4 (0, 0)) := by
      rw [hw2]
      exact urow_set ((five_heap _ _ _ _ _ _ _ _ (by omega)).trans ho) 0 (.bool false)
    have HB2 := hide (show Below w.heap.size w w2 from by
      rw [hw2, HQ.out]
      exact (((((HBF.out.setCell (by simp) _).setCell (by simp) _).setCell (by simp) _).setCell (by simp) _).setCell (by simp) _).setCell (by simp) _)
    obtain ⟨m0, m1, m2, m3, m4, -⟩ := st5_cells hs2
    have n0 : w2.cell? ⟨b + 1, 0, none⟩ = some (.bool false) := by simp [World.cell?, ho2]
    clear hw2 hs ho
    simp [Leaves, settle, results, Tryz.results52, go_sem, m0, m1, m2, m3, m4, n0]
    rw [HR.out]
    exact ⟨rfl, HB2.out⟩
  | some x =>
    rw [hR] at hout
    obtain ⟨k, s, a, l, c, S, rfl, hT, hS, hg⟩ := hout
    have hs := st5_grown HS0.out hg (by simp; omega)
    have ho := (hg.block (b + 1) (Array.getElem?_eq_some_iff.1 HO0.out).1 (by simp)).trans HO0.out
    have HBF := hide (HB0.out.grown hg (by have := HB0.out.size; rw [HQ.out] at this; exact this) (fun k hk => by simp at hk; omega))
    have HR := hide hR
    have HT := hide hT
    have HSS := hide (show ∀ z ∈ S, b + 2 ≤ z from fun z hz => by have := hS z hz; have := rd_lt HR0.out; omega)
    have HNM := hide (show x.nm.size ≤ 2000 from by
      have e : x.nm = nmF L := by
        have := hR
        unfold ruleF at this
        split at this
        · split at this
          · split at this
            · cases this
            · split at this
              · cases this
              · cases this; rfl
          · cases this
        · cases this
      rw [e]
      unfold nmF
      simp
      omega)
    obtain ⟨m0, m1, m2, m3, m4, m5⟩ := st5_cells hs
    have k0 := m5 0
    have k1 := m5 1
    have k2 := m5 2
    have k3 := m5 3
    have k4 := m5 4
    have n0 : w1.cell? ⟨b + 1, 0, none⟩ = some (.bool false) := by simp [World.cell?, ho]
    have n1 : w1.frozen? ⟨b + 1, 0, none⟩ = false := by simp [World.frozen?, ho]
    have HS1 := hide hs
    have HO1 := hide ho
    clear hR hg hT hS m5 hs ho
    have HS3 := hide (show St5 ((((((w1.setCell ⟨b, 0, none⟩ (.string x.nm)).setCell ⟨b, 1, none⟩ (.int .u8 k)).setCell ⟨b, 2, none⟩ (.int .u16 s)).setCell ⟨b, 3, none⟩ (.slice a l c)).setCell ⟨b, 4, none⟩ (.bool x.br)).setCell ⟨b + 1, 0, none⟩ (.bool true)) b x.nm k s a l c x.br from (Below.heap_setCell _ _ _ _ (by show b ≠ b + 1; omega)).trans (five_st5 HS1.out x.nm k s a l c x.br))
    have HO3 := hide (show ((((((w1.setCell ⟨b, 0, none⟩ (.string x.nm)).setCell ⟨b, 1, none⟩ (.int .u8 k)).setCell ⟨b, 2, none⟩ (.int .u16 s)).setCell ⟨b, 3, none⟩ (.slice a l c)).setCell ⟨b, 4, none⟩ (.bool x.br)).setCell ⟨b + 1, 0, none⟩ (.bool true)).heap[b + 1]? = some (.cells #[.bool true] 4 (0, 0)) from urow_set ((five_heap _ _ _ _ _ _ _ _ (by omega)).trans HO1.out) 0 (.bool true))
    have HB3 := hide (show Below w.heap.size w ((((((w1.setCell ⟨b, 0, none⟩ (.string x.nm)).setCell ⟨b, 1, none⟩ (.int .u8 k)).setCell ⟨b, 2, none⟩ (.int .u16 s)).setCell ⟨b, 3, none⟩ (.slice a l c)).setCell ⟨b, 4, none⟩ (.bool x.br)).setCell ⟨b + 1, 0, none⟩ (.bool true)) from by
      rw [HQ.out]
      exact (((((HBF.out.setCell (by simp) _).setCell (by simp) _).setCell (by simp) _).setCell (by simp) _).setCell (by simp) _).setCell (by simp) _)
    have HT3 := hide (show Tr ((((((w1.setCell ⟨b, 0, none⟩ (.string x.nm)).setCell ⟨b, 1, none⟩ (.int .u8 k)).setCell ⟨b, 2, none⟩ (.int .u16 s)).setCell ⟨b, 3, none⟩ (.slice a l c)).setCell ⟨b, 4, none⟩ (.bool x.br)).setCell ⟨b + 1, 0, none⟩ (.bool true)) x.n x.t ⟨k, s, a, l, c⟩ S from tr_keep _ _ _ _ (fun z hz => (Below.heap_setCell _ _ _ _ (by show z ≠ b + 1; have := HSS.out z hz; omega)).trans (five_heap _ _ _ _ _ _ _ z (by have := HSS.out z hz; omega))) HT.out)
    go_wp2
    generalize (((((w1.setCell ⟨b, 0, none⟩ (.string x.nm)).setCell ⟨b, 1, none⟩ (.int .u8 k)).setCell ⟨b, 2, none⟩ (.int .u16 s)).setCell ⟨b, 3, none⟩ (.slice a l c)).setCell ⟨b, 4, none⟩ (.bool x.br)).setCell ⟨b + 1, 0, none⟩ (.bool true) = W3 at *
    obtain ⟨r0, r1, r2, r3, r4, -⟩ := st5_cells HS3.out
    have t0 : W3.cell? ⟨b + 1, 0, none⟩ = some (.bool true) := by simp [World.cell?, HO3.out]
    refine leaves_cons (f := 74) (args := #[.pointer (some ⟨b, 0, none⟩), .pointer (some ⟨b + 1, 0, none⟩)]) (by simp) (by simp [go_sem]) ?_
    refine (catch_idle b (b + 1) _).mono ?_
    rintro e u' w4 ⟨rfl, rfl, rfl⟩
    simp [Leaves, settle, results, Tryz.results52, go_sem, r0, r1, r2, r3, r4, t0]
    rw [HR.out]
    exact ⟨⟨k, s, a, l, c⟩, S, rfl, HNM.out, HT3.out, (fun z hz => by have := HSS.out z hz; have := HQ.out; omega), HB3.out⟩
end Go.Proofs.YtbbfjjjnifomgaaGreatDoor.A


