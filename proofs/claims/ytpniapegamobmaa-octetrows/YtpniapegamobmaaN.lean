/- Rows and what is put, of any arguments, in one form. -/
import Derived.Test.YtpniapegamobmaaM
namespace Go.Proofs.Ytpniapegamobmaa.A
open Go.RowKit

/-- The row that is told, of any arguments. -/
def rowOf (zs : List Int) (a n s : Int) : List Int := if rowB zs.length a n s then rowL zs a.toNat s.toNat n.toNat else []
/-- The bytes that are put, of any arguments. -/
def putOf (n s : Int) : List Int := if 0 ≤ s ∧ s ≤ 8 then lowL n s.toNat else []

theorem segI_row {w : World} {b n : Nat} {k : IntKind} {t : TypeId} {f : Nat → Int} (h : w.rowIs b t n (fun i => .int k (f i))) : SegI w k (some ⟨b, 0, none⟩) n ((List.range n).map f) := by
  refine ⟨by simp, .inr ⟨b, 0, rfl, fun i hi => ?_⟩⟩
  rw [Nat.zero_add, h.cell hi]
  simp [List.getD_eq_getElem?_getD, hi]
theorem segI_own {w : World} {B n : Nat} {k : IntKind} {t : TypeId} {v : Value} {l : List Int} (h : w.ownsRow B t 1 v n (l.map (Value.int k))) : ∃ x c, v = .slice x n c ∧ SegI w k x n l := by
  have hl : l.length = n := by simpa using h.1
  rcases h.2 with ⟨hv, h0⟩ | ⟨g, cap, cur, hv, _, _, _, _, _, _⟩
  · subst h0
    exact ⟨none, 0, hv, hl, .inl rfl⟩
  · refine ⟨some ⟨g, 0, none⟩, cap, hv, hl, .inr ⟨g, 0, rfl, fun i hi => ?_⟩⟩
    have := h.cells (g := g) (by rw [hv]; rfl) i (.int k (l.getD i 0)) (by simp [List.getD_eq_getElem?_getD, hl, hi])
    rw [← this]
    simp only [Addr.add]
    split
    · rename_i e; rw [e]
    · rfl
theorem segI_nil (w : World) (k : IntKind) (x : Option Addr) : SegI w k x 0 [] := ⟨rfl, .inl rfl⟩

theorem putL_low (n : Int) : ∀ s, putL n s = lowL n s
  | 0 => rfl
  | s + 1 => by
    rw [lowL, ← putL_low n s]
    simp only [putL, List.range_succ_eq_map, List.map_cons, List.map_map]
    congr 1
    refine List.map_congr_left fun i _ => ?_
    show lowB n (s + 1 - 1 - (i + 1)) = lowB n (s - 1 - i)
    congr 1
    omega

theorem rowB_open {len : Nat} {a n s : Int} (h : rowB len a n s = true) : ∃ p k z : Nat, a = p ∧ n = k ∧ s = z ∧ (z = 1 ∨ z = 2 ∨ z = 4) ∧ p + k * z ≤ len := by
  unfold rowB at h
  obtain ⟨h1, h2, h3, h4⟩ := of_decide_eq_true h
  obtain ⟨p, rfl⟩ := Int.eq_ofNat_of_zero_le h3
  obtain ⟨k, rfl⟩ := Int.eq_ofNat_of_zero_le h2
  rcases h1 with rfl | rfl | rfl
  · exact ⟨p, k, 1, rfl, rfl, rfl, .inl rfl, by omega⟩
  · exact ⟨p, k, 2, rfl, rfl, rfl, .inr (.inl rfl), by omega⟩
  · exact ⟨p, k, 4, rfl, rfl, rfl, .inr (.inr rfl), by omega⟩

theorem row_all (x : Option Addr) (len cap : Nat) (zs : List Int) (a n s : Int) (w : World) (hl : len ≤ 5000) (hcap : len ≤ cap) (hs : Seg w x len zs) (l : List Int) (m : Nat) (e1 : l = rowOf zs a n s) (e2 : l.length = m) :
    Calls Try.prog 23 #[.slice x len cap, .int .i64 a, .int .i64 n, .int .i64 s] w fun e w' =>
      ∃ y c, e = .returned (.tuple #[.slice y m c, .bool (rowB len a n s)]) ∧ SegI w' .i64 y m l ∧ Below w.heap.size w w' := by
  subst e2 e1
  cases hb : rowB len a n s
  · have e : rowOf zs a n s = [] := by unfold rowOf; rw [hs.1, hb]; rfl
    rw [e]
    refine (row_no x len cap a n s w hl hb).mono ?_
    rintro e w' ⟨rfl, hbel⟩
    exact ⟨none, 0, rfl, segI_nil _ _ _, hbel⟩
  · have e : rowOf zs a n s = rowL zs a.toNat s.toNat n.toNat := by unfold rowOf; rw [hs.1, hb]; rfl
    rw [e, rowL_len]
    obtain ⟨p, k, z, rfl, rfl, rfl, hz, hin⟩ := rowB_open hb
    simp only [Int.toNat_natCast]
    refine (row_yes x len cap p k z zs w hl hcap hs hz hin hb).mono ?_
    rintro e w' ⟨rfl, hrow, hbel⟩
    exact ⟨_, _, rfl, segI_row hrow, hbel⟩

theorem rrow_all (x : Option Addr) (len cap : Nat) (zs : List Int) (a n s : Int) (w : World) (hl : len ≤ 5000) (hcap : len ≤ cap) (hm : cap ≤ maxLen) (hs : Seg w x len zs) (l : List Int) (m : Nat) (e1 : l = rowOf zs a n s) (e2 : l.length = m) :
    Calls Try.prog 24 #[.slice x len cap, .int .i64 a, .int .i64 n, .int .i64 s] w fun e w' =>
      ∃ y c, e = .returned (.tuple #[.slice y m c, .bool (rowB len a n s)]) ∧ SegI w' .i64 y m l ∧ Below w.heap.size w w' := by
  subst e2 e1
  cases hb : rowB len a n s
  · have e : rowOf zs a n s = [] := by unfold rowOf; rw [hs.1, hb]; rfl
    rw [e]
    refine (rrow_no x len cap a n s w hl hb).mono ?_
    rintro e w' ⟨rfl, rfl⟩
    exact ⟨none, 0, rfl, segI_nil _ _ _, Below.refl _ _⟩
  · have e : rowOf zs a n s = rowL zs a.toNat s.toNat n.toNat := by unfold rowOf; rw [hs.1, hb]; rfl
    rw [e, rowL_len]
    obtain ⟨p, k, z, rfl, rfl, rfl, hz, hin⟩ := rowB_open hb
    simp only [Int.toNat_natCast]
    refine (rrow_yes x len cap p k z zs w hl hcap hm hs hz hin).mono ?_
    rintro e w' ⟨v, rfl, hown, hbel⟩
    obtain ⟨y, c, rfl, hseg⟩ := segI_own hown
    exact ⟨y, c, rfl, hseg, hbel⟩

theorem rowOf_le (zs : List Int) (a n s : Int) : (rowOf zs a n s).length ≤ zs.length := by
  unfold rowOf
  cases hb : rowB zs.length a n s
  · exact Nat.zero_le _
  · obtain ⟨p, k, z, rfl, rfl, rfl, hz, hin⟩ := rowB_open hb
    rw [if_pos rfl, rowL_len]
    simp only [Int.toNat_natCast]
    rcases hz with rfl | rfl | rfl <;> omega
theorem putOf_le (n s : Int) : (putOf n s).length ≤ 8 := by
  unfold putOf
  split
  · rw [lowL_len]; omega
  · exact Nat.zero_le _

theorem put_all (n s : Int) (w : World) (l : List Int) (m : Nat) (e1 : l = putOf n s) (e2 : l.length = m) :
    Calls Try.prog 27 #[.int .i64 n, .int .i64 s] w fun e w' => ∃ y c, e = .returned (.slice y m c) ∧ SegI w' .u8 y m l ∧ Below w.heap.size w w' := by
  subst e2 e1
  by_cases h : 0 ≤ s ∧ s ≤ 8
  · have e : putOf n s = lowL n s.toNat := by unfold putOf; rw [if_pos h]
    rw [e, lowL_len]
    obtain ⟨z, rfl⟩ := Int.eq_ofNat_of_zero_le h.1
    simp only [Int.toNat_natCast]
    refine (put_in n z w (by omega)).mono ?_
    rintro e w' ⟨rfl, hrow, hbel⟩
    exact ⟨_, _, rfl, by rw [← putL_low]; exact segI_row hrow, hbel⟩
  · have e : putOf n s = [] := by unfold putOf; rw [if_neg h]
    rw [e]
    refine (put_out n s w (by omega)).mono ?_
    rintro e w' ⟨rfl, hbel⟩
    exact ⟨none, 0, rfl, segI_nil _ _ _, hbel⟩

theorem rput_all (n s : Int) (w : World) (l : List Int) (m : Nat) (e1 : l = putOf n s) (e2 : l.length = m) :
    Calls Try.prog 28 #[.int .i64 n, .int .i64 s] w fun e w' => ∃ y c, e = .returned (.slice y m c) ∧ SegI w' .u8 y m l ∧ Below w.heap.size w w' := by
  subst e2 e1
  by_cases h : 0 ≤ s ∧ s ≤ 8
  · have e : putOf n s = lowL n s.toNat := by unfold putOf; rw [if_pos h]
    rw [e, lowL_len]
    obtain ⟨z, rfl⟩ := Int.eq_ofNat_of_zero_le h.1
    simp only [Int.toNat_natCast]
    refine (rput_in n z w (by omega)).mono ?_
    rintro e w' ⟨v, rfl, hown, hbel⟩
    obtain ⟨y, c, rfl, hseg⟩ := segI_own hown
    exact ⟨y, c, rfl, hseg, hbel⟩
  · have e : putOf n s = [] := by unfold putOf; rw [if_neg h]
    rw [e]
    by_cases h0 : s < 0
    · refine (rput_neg n s w h0).mono ?_
      rintro e w' ⟨rfl, rfl⟩
      exact ⟨none, 0, rfl, segI_nil _ _ _, Below.refl _ _⟩
    · refine (rput_big n s w (by omega)).mono ?_
      rintro e w' ⟨rfl, rfl⟩
      exact ⟨none, 0, rfl, segI_nil _ _ _, Below.refl _ _⟩
end Go.Proofs.Ytpniapegamobmaa.A
