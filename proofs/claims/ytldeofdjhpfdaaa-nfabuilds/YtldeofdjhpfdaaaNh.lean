/- Ahead of layer 6: the document's 'into': a number into rising ones, once. -/
import Derived.Test.YtldeofdjhpfdaaaNb
import Derived.Laws.AppendOwnNone
namespace Go.Proofs.Ytldeofdjhpfdaaa.A
open Go.RowKit

/-- A number into rising ones, once. -/
def intoL : List Int → Int → List Int
  | [], x => [x]
  | a :: r, x => if a < x then a :: intoL r x else if a = x then a :: r else x :: a :: r
theorem into_end : ∀ (l : List Int) (x : Int), (∀ z ∈ l, z < x) → intoL l x = l ++ [x]
  | [], x, _ => rfl
  | a :: r, x, h => by rw [intoL, if_pos (h a (by simp)), into_end r x (fun z hz => h z (by simp [hz]))]; rfl
theorem into_at : ∀ (k : Nat) (l : List Int) (x z : Int), (∀ p, p < k → ∀ y, l[p]? = some y → y < x) → l[k]? = some z → x ≤ z → intoL l x = l.take k ++ ((if z = x then [] else [x]) ++ l.drop k)
  | 0, a :: r, x, z, _, hz, hx => by
    have e : a = z := by simpa using hz
    subst e
    rw [intoL, if_neg (by omega)]
    by_cases q : a = x
    · simp [q]
    · simp [q]
  | k + 1, a :: r, x, z, h, hz, hx => by
    have h0 := h 0 (by omega) a (by simp)
    rw [intoL, if_pos h0, into_at k r x z (fun p hp y hy => h (p + 1) (by omega) y (by simpa using hy)) (by simpa using hz) hx]
    simp
  | 0, [], x, z, _, hz, _ => by simp at hz
  | k + 1, [], x, z, _, hz, _ => by simp at hz
theorem into_len (l : List Int) (x : Int) : (intoL l x).length ≤ l.length + 1 := by
  induction l with
  | nil => simp [intoL]
  | cons a r ih =>
    unfold intoL
    split
    · simp; omega
    · split <;> simp
theorem into_mem (l : List Int) (x z : Int) : z ∈ intoL l x ↔ z = x ∨ z ∈ l := by
  induction l with
  | nil => simp [intoL]
  | cons a r ih =>
    unfold intoL
    split
    · rw [List.mem_cons, ih, List.mem_cons]
      constructor
      · rintro (h | h | h)
        · exact .inr (.inl h)
        · exact .inl h
        · exact .inr (.inr h)
      · rintro (h | h | h)
        · exact .inr (.inl h)
        · exact .inl h
        · exact .inr (.inr h)
    · split
      · rename_i h; subst h; simp
      · simp
theorem into_sorted {l : List Int} (x : Int) (h : l.Pairwise (· < ·)) : (intoL l x).Pairwise (· < ·) := by
  induction l with
  | nil => simp [intoL]
  | cons a r ih =>
    rw [List.pairwise_cons] at h
    unfold intoL
    split
    · rename_i q
      rw [List.pairwise_cons]
      refine ⟨fun z hz => ?_, ih h.2⟩
      rcases (into_mem r x z).1 hz with rfl | hz
      · exact q
      · exact h.1 z hz
    · split
      · rw [List.pairwise_cons]; exact h
      · rename_i q1 q2
        rw [List.pairwise_cons, List.pairwise_cons]
        refine ⟨fun z hz => ?_, h⟩
        rcases List.mem_cons.1 hz with rfl | hz
        · omega
        · have := h.1 z hz; omega
theorem wd_cells {w : World} {b off : Nat} {l : List Int} {len cap : Nat} (hl : l.length = len) (hc : len ≤ cap) (k : Nat) (h : Wd w (some ⟨b, off, none⟩) l) : ∀ j u, ((l.drop k).map (Value.int .i64))[j]? = some u → w.cell? ((if cap = k then (⟨b, off, none⟩ : Addr) else ⟨b, off + k, none⟩).add j) = some u := by
  intro j u hj
  rw [List.getElem?_map, List.getElem?_drop] at hj
  obtain ⟨z, hz, rfl⟩ := Option.map_eq_some_iff.1 hj
  have hlt := (List.getElem?_eq_some_iff.1 hz).1
  rw [if_neg (by omega)]
  obtain ⟨b', off', e, c⟩ := h (k + j) z hz
  simp only [Option.some.injEq, Addr.mk.injEq] at e
  obtain ⟨rfl, rfl, _⟩ := e
  have ha : (⟨b, off + k, none⟩ : Addr).add j = ⟨b, off + k + j, none⟩ := by
    simp only [Addr.add]
    split
    · rename_i h0; rw [h0]; rfl
    · rfl
  rw [ha, Nat.add_assoc]
  exact c
theorem wd_cells' {w : World} {b off : Nat} {l : List Int} {len cap k : Nat} (hl : l.length = len) (hc : len ≤ cap) (hk : k < len) (h : Wd w (some ⟨b, off, none⟩) l) : ∀ j u, ((l.drop k).map (Value.int .i64))[j]? = some u → w.cell? ((⟨b, off + k, none⟩ : Addr).add j) = some u := by
  have := wd_cells hl hc k h
  rw [if_neg (by omega)] at this
  exact this
theorem one_ints (l : List Int) : ∀ u ∈ l.map (Value.int .i64), u.oneCell' = true := by
  intro u hu
  obtain ⟨z, _, rfl⟩ := List.mem_map.1 hu
  rfl

set_option maxRecDepth 100000 in
set_option maxHeartbeats 3200000 in
theorem into_nil (x : Int) (w : World) :
    Calls Try.prog 34 #[.slice none 0 0, .int .i64 x] w fun e w' => ∃ v, e = .returned v ∧ w'.ownsRow w.heap.size 3 1 v 1 [Value.int .i64 x] ∧ Below w.heap.size w w' := by
  obtain ⟨i0, hi, hz0, hz1, hz2⟩ := info_parts info3
  go_enter Try.func34, Try.ntmps34
  go_wp2_with fail
  go_loopw [5, 6] (fun v i wr => v = .slice none 0 0 ∧ i = .int .i64 0 ∧ wr = w) (fun _ _ _ => 0)
  case atStart => exact ⟨rfl, rfl, rfl⟩
  case round =>
    obtain ⟨rfl, rfl, rfl⟩ := hrel
    go_wp2_with (at_builtin; refine wpList_append_own _ rfl _ _ 27 rfl wr.heap.size 3 i0 (.int .i64 0) 1 8 Try.underlying27 hi hz0 hz1 hz2 rfl (by decide) _ _ _ rfl ((World.ownsRow_nil wr wr.heap.size 3 1).alloc _) ⟨_, 0, none⟩ 1 1 [.int .i64 x] rfl rfl ?c1 ?c2 ?c3 ?c4 ?c5 ?_)
    case c1 => exact one_new _ _ _
    case c2 => intro u hu; simp only [List.mem_singleton] at hu; subst hu; rfl
    case c3 => unfold maxLen; omega
    case c4 => omega
    case c5 => simp
    · intro v' w1 hown' hgrow _
      have hbel' : Below wr.heap.size wr w1 := ((Below.refl wr.heap.size wr).alloc (Nat.le_refl _) _).grown hgrow (by simp) (fun k' e => by cases e)
      have HO := hide hown'
      clear hown' hgrow
      go_wp2_with (at_builtin; refine wpList_append_own_none rfl _ _ 27 rfl wr.heap.size 3 i0 1 Try.underlying27 hi _ _ _ rfl HO.out rfl ?_)
      go_wp2
      go_ret
      exact ⟨_, rfl, HO.out, hbel'⟩

set_option maxRecDepth 100000 in
set_option maxHeartbeats 3200000 in
theorem into_some (b off len cap : Nat) (l : List Int) (x : Int) (w : World) (hl : l.length = len) (hlen : len ≤ 10000) (hcap : len ≤ cap) (hW : Wd w (some ⟨b, off, none⟩) l) :
    Calls Try.prog 34 #[.slice (some ⟨b, off, none⟩) len cap, .int .i64 x] w fun e w' => ∃ v, e = .returned v ∧ w'.ownsRow w.heap.size 3 1 v (intoL l x).length ((intoL l x).map (Value.int .i64)) ∧ Below w.heap.size w w' := by
  obtain ⟨i0, hi, hz0, hz1, hz2⟩ := info_parts info3
  have HW := hide hW
  have HL := hide hl
  clear hW hl
  go_enter Try.func34, Try.ntmps34
  go_wp2_with fail
  go_loopw [5, 6] (fun v i wr => ∃ k : Nat, k ≤ len ∧ i = .int .i64 k ∧ (∀ p, p < k → ∀ y, l[p]? = some y → y < x) ∧ wr.ownsRow w.heap.size 3 1 v k ((l.take k).map (Value.int .i64)) ∧ Below w.heap.size w wr) (fun _ i _ => len - (intOf i).toNat)
  case atStart => exact ⟨0, Nat.zero_le _, rfl, fun p hp => by omega, World.ownsRow_nil _ _ _ _, Below.refl _ _⟩
  case round =>
    obtain ⟨k, hk, rfl, hlow, hown, hbel⟩ := hrel
    have HLO := hide hlow
    clear hlow
    obtain ⟨tk, htk⟩ : ∃ tk, (l.take k).map (Value.int .i64) = tk := ⟨_, rfl⟩
    rw [htk] at hown
    have HTK := hide htk
    clear htk
    obtain ⟨dl, hdl⟩ : ∃ dl, (l.drop k).map (Value.int .i64) = dl := ⟨_, rfl⟩
    obtain ⟨m, hm⟩ : ∃ m, m = len - k := ⟨_, rfl⟩
    have HDL := hide (show dl.length = m * 1 by rw [← hdl, List.length_map, List.length_drop, HL.out, hm]; omega)
    have HD1 := hide (hdl ▸ one_ints (l.drop k))
    have hm2 : k + m ≤ 10000 := by omega
    have HDQ := hide hdl
    have HMQ := hide hm
    clear hdl hm
    have j1 : (0 : Int) ≤ (k : Int) := by omega
    have j2 : (k : Int) ≤ (len : Int) := by omega
    have j3 : (len : Int) ≤ (cap : Int) := by omega
    have j4 : (k : Int) ≤ (cap : Int) := by omega
    by_cases hlt : k < len
    · obtain ⟨z, hz⟩ : ∃ z, l[k]? = some z := ⟨_, List.getElem?_eq_getElem (by rw [HL.out]; exact hlt)⟩
      obtain ⟨b', off', e', k0⟩ := wd_below hbel HW.out k z hz
      simp only [Option.some.injEq, Addr.mk.injEq] at e'
      obtain ⟨rfl, rfl, -⟩ := e'
      have HZ := hide hz
      have i2 : (k : Int) < (len : Int) := by omega
      have hne : ((k : Int) == (len : Int)) = false := by simp; omega
      clear hz
      by_cases hzx : z < x
      · go_wp2_with (at_builtin; refine wpList_append_own _ rfl _ _ 27 rfl w.heap.size 3 i0 (.int .i64 0) 1 8 Try.underlying27 hi hz0 hz1 hz2 rfl (by decide) _ _ _ rfl (hown.alloc _) ⟨_, 0, none⟩ 1 1 [.int .i64 z] rfl rfl (one_new _ _ _) (fun u hu => by simp only [List.mem_singleton] at hu; subst hu; rfl) (by unfold maxLen; omega) (by omega) (by have := hbel.size; simp; omega) ?_)
        · intro v' w1 hown' hgrow _
          have hbel' : Below w.heap.size w w1 := (hbel.alloc hbel.size _).grown hgrow (by have := hbel.size; simp; omega) (fun k' e => (hown.lt k' e).1)
          have hown2 : w1.ownsRow w.heap.size 3 1 v' (k + 1) ((l.take (k + 1)).map (Value.int .i64)) := by rw [take_at HZ.out, List.map_append, HTK.out]; exact hown'
          have HLN := hide (show ∀ p, p < k + 1 → ∀ y, l[p]? = some y → y < x from fun p hp y hy => by
            by_cases e : p = k
            · subst e; rw [HZ.out] at hy; cases hy; exact hzx
            · exact HLO.out p (by omega) y hy)
          clear hown' hgrow hown hbel
          go_wp2
          go_roundw
          case rel => exact ⟨k + 1, by omega, by go_num, HLN.out, hown2, hbel'⟩
          case measure => simp [intOf]; omega
      · by_cases hzq : z = x
        · have HI := hide (into_at k l x z HLO.out HZ.out (by omega))
          have hne2 : (z != x) = false := by simp [hzq]
          have HC := hide (HDQ.out ▸ wd_cells' HL.out hcap hlt (wd_below hbel HW.out))
          have HBZ := hide hbel.size
          go_wp2_with (at_builtin; refine wpList_append_own _ rfl _ _ 27 rfl w.heap.size 3 i0 (.int .i64 0) 1 8 Try.underlying27 hi hz0 hz1 hz2 rfl (by decide) _ _ _ rfl hown ⟨b, off + k, none⟩ m (cap - k) dl (by rw [HMQ.out]; rfl) HDL.out HC.out HD1.out (by unfold maxLen; omega) (by omega) (by have := HBZ.out; omega) ?_)
          · intro v' w1 hown' hgrow _
            have hbel' : Below w.heap.size w w1 := hbel.grown hgrow (by have := hbel.size; omega) (fun k' e => (hown.lt k' e).1)
            have HO := hide (show w1.ownsRow w.heap.size 3 1 v' (intoL l x).length ((intoL l x).map (Value.int .i64)) by
              rw [HI.out, if_pos hzq, List.nil_append, List.map_append, List.length_append, List.length_take, List.length_drop, HL.out, Nat.min_eq_left (by omega), HTK.out, HDQ.out, ← HMQ.out]; exact hown')
            clear hown' hgrow hown hbel
            go_wp2
            go_ret
            exact ⟨_, rfl, HO.out, hbel'⟩
        · have HI := hide (into_at k l x z HLO.out HZ.out (by omega))
          have hne2 : (z != x) = true := by simp [hzq]
          go_wp2_with (at_builtin; refine wpList_append_own _ rfl _ _ 27 rfl w.heap.size 3 i0 (.int .i64 0) 1 8 Try.underlying27 hi hz0 hz1 hz2 rfl (by decide) _ _ _ rfl (hown.alloc _) ⟨_, 0, none⟩ 1 1 [.int .i64 x] rfl rfl (one_new _ _ _) (fun u hu => by simp only [List.mem_singleton] at hu; subst hu; rfl) (by unfold maxLen; omega) (by omega) (by have := hbel.size; simp; omega) ?_)
          · intro v1 w1 hown1 hgrow _
            have hbel1 : Below w.heap.size w w1 := (hbel.alloc hbel.size _).grown hgrow (by have := hbel.size; simp; omega) (fun k' e => (hown.lt k' e).1)
            clear hgrow hown hbel
            have HC := hide (HDQ.out ▸ wd_cells' HL.out hcap hlt (wd_below hbel1 HW.out))
            have HBZ := hide hbel1.size
            go_wp2_with (at_builtin; refine wpList_append_own _ rfl _ _ 27 rfl w.heap.size 3 i0 (.int .i64 0) 1 8 Try.underlying27 hi hz0 hz1 hz2 rfl (by decide) _ _ _ rfl hown1 ⟨b, off + k, none⟩ m (cap - k) dl (by rw [HMQ.out]; rfl) HDL.out HC.out HD1.out (by unfold maxLen; omega) (by omega) (by have := HBZ.out; omega) ?_)
            · intro v' w2 hown' hgrow _
              have hbel' : Below w.heap.size w w2 := hbel1.grown hgrow (by have := hbel1.size; omega) (fun k' e => (hown1.lt k' e).1)
              have HO := hide (show w2.ownsRow w.heap.size 3 1 v' (intoL l x).length ((intoL l x).map (Value.int .i64)) by
                rw [HI.out, if_neg hzq, ← List.append_assoc, List.map_append, List.map_append, List.length_append, List.length_append, List.length_take, List.length_drop, HL.out, Nat.min_eq_left (by omega), HTK.out, HDQ.out, ← HMQ.out, List.append_assoc]; exact hown')
              clear hown' hgrow hown1 hbel1
              go_wp2
              go_ret
              exact ⟨_, rfl, HO.out, hbel'⟩
    · have e : k = len := by omega
      subst e
      have HI := hide (into_end l x (fun z hz => by obtain ⟨p, hp, e⟩ := List.getElem_of_mem hz; exact HLO.out p (by rw [← HL.out]; exact hp) z (by rw [List.getElem?_eq_getElem hp, e])))
      have HF := hide (show ((intoL l x).map (Value.int .i64)) = tk ++ [Value.int .i64 x] ∧ (intoL l x).length = k + 1 from ⟨by
        have ht : l.take k = l := List.take_of_length_le (by rw [HL.out]; exact Nat.le_refl _)
        rw [HI.out, List.map_append, ← HTK.out, ht]; rfl, by rw [HI.out, List.length_append, HL.out]; rfl⟩)
      clear HDL HD1 HDQ HMQ hm2 HI
      have hkk : ((k : Int) == (k : Int)) = true := by simp
      go_wp2_with (at_builtin; refine wpList_append_own _ rfl _ _ 27 rfl w.heap.size 3 i0 (.int .i64 0) 1 8 Try.underlying27 hi hz0 hz1 hz2 rfl (by decide) _ _ _ rfl (hown.alloc _) ⟨_, 0, none⟩ 1 1 [.int .i64 x] rfl rfl (one_new _ _ _) (fun u hu => by simp only [List.mem_singleton] at hu; subst hu; rfl) (by unfold maxLen; omega) (by omega) (by have := hbel.size; simp; omega) ?_)
      · intro v1 w1 hown1 hgrow _
        have hbel1 : Below w.heap.size w w1 := (hbel.alloc hbel.size _).grown hgrow (by have := hbel.size; simp; omega) (fun k' e => (hown.lt k' e).1)
        clear hgrow hown hbel
        have HBZ := hide hbel1.size
        by_cases hck : cap = k
        · subst hck
          go_wp2_with (at_builtin; refine wpList_append_own _ rfl _ _ 27 rfl w.heap.size 3 i0 (.int .i64 0) 1 8 Try.underlying27 hi hz0 hz1 hz2 rfl (by decide) _ _ _ rfl hown1 ⟨b, off, none⟩ 0 0 [] rfl rfl (fun j u h => by simp at h) (fun u h => by cases h) (by unfold maxLen; omega) (by omega) (by have := HBZ.out; omega) ?_)
          · intro v' w2 hown' hgrow _
            have hbel' : Below w.heap.size w w2 := hbel1.grown hgrow (by have := hbel1.size; omega) (fun k' e => (hown1.lt k' e).1)
            have HO := hide (show w2.ownsRow w.heap.size 3 1 v' (intoL l x).length ((intoL l x).map (Value.int .i64)) by
              rw [HF.out.1, HF.out.2]; exact hown')
            clear hown' hgrow hown1 hbel1
            go_wp2
            go_ret
            exact ⟨_, rfl, HO.out, hbel'⟩
        · go_wp2_with (at_builtin; refine wpList_append_own _ rfl _ _ 27 rfl w.heap.size 3 i0 (.int .i64 0) 1 8 Try.underlying27 hi hz0 hz1 hz2 rfl (by decide) _ _ _ rfl hown1 ⟨b, off + k, none⟩ 0 (cap - k) [] rfl rfl (fun j u h => by simp at h) (fun u h => by cases h) (by unfold maxLen; omega) (by omega) (by have := HBZ.out; omega) ?_)
          · intro v' w2 hown' hgrow _
            have hbel' : Below w.heap.size w w2 := hbel1.grown hgrow (by have := hbel1.size; omega) (fun k' e => (hown1.lt k' e).1)
            have HO := hide (show w2.ownsRow w.heap.size 3 1 v' (intoL l x).length ((intoL l x).map (Value.int .i64)) by
              rw [HF.out.1, HF.out.2]; exact hown')
            clear hown' hgrow hown1 hbel1
            go_wp2
            go_ret
            exact ⟨_, rfl, HO.out, hbel'⟩

end Go.Proofs.Ytldeofdjhpfdaaa.A
