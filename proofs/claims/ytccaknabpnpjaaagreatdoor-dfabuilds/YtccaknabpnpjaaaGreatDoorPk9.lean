/- The machine of an expression, and of several: what is come to. Plain mathematics. -/
import Derived.Test.YtccaknabpnpjaaaGreatDoorPk8
import Derived.Test.YtccaknabpnpjaaaGreatDoorPk5
import Derived.Laws.AppendOwnNone
namespace Go.Proofs.YtccaknabpnpjaaaGreatDoor.A
set_option linter.unusedVariables false

/-- A step by a set, within parts, one behind the other. -/
theorem chain_step (word : List Int) {n : Nat} {s' : Nat} :
    ∀ (l : List (Ex n)) (s i0 q q' i : Nat), (∀ x ∈ l, ∀ (b i0 q q' i : Nat), AtE word n x b i0 q i → Sp n x b q s' q' → (∃ c, word[i]? = some c ∧ inS s' c = true) → AtE word n x b i0 q' (i + 1)) → (∀ x ∈ l, full n x) → (∃ c, word[i]? = some c ∧ inS s' c = true) →
      AtC (Mt word n) (AtE word n) (layE s l) i0 q i → (∃ p ∈ layE s l, Sp n p.2 p.1 q s' q') → AtC (Mt word n) (AtE word n) (layE s l) i0 q' (i + 1)
  | [], s, i0, q, q', i, _, _, _, h, _ => h.elim
  | x :: l, s, i0, q, q', i, hc, hf, hw, h, ⟨p, hp, g⟩ => by
    have hx : full n x := hf x (by simp)
    have hr := real_pos hx
    have hf' : ∀ y ∈ l, full n y := fun y hy => hf y (by simp [hy])
    rcases List.mem_cons.1 (show p ∈ (s, x) :: layE (s + 2 * realN n x) l from hp) with rfl | hp
    · have gr := sp_rng n x s q s' q' hx g
      rcases h with h | ⟨j, h1, h2⟩
      · exact .inl (hc x (by simp) s i0 q q' i h g hw)
      · obtain ⟨p', hp', j', hat⟩ := atc_in _ _ _ _ h2
        obtain ⟨b1, _, b3⟩ := lay_rng _ _ _ hp'
        have hq := ate_rng word n p'.2 p'.1 j' q i (hf' _ b3) hat
        omega
    · obtain ⟨b1, _, b3⟩ := lay_rng _ _ _ hp
      have gr := sp_rng n p.2 p.1 q s' q' (hf' _ b3) g
      rcases h with h | ⟨j, h1, h2⟩
      · have hq := ate_rng word n x s i0 q i hx h
        have hq2 : q ≤ s + 2 * realN n x - 1 := hq.2
        omega
      · exact .inr ⟨j, h1, chain_step word l _ j q q' i (fun y hy => hc y (by simp [hy])) hf' hw h2 ⟨p, hp, g⟩⟩
/-- A step by a set. -/
theorem ate_step (word : List Int) {s' : Nat} : ∀ (n : Nat) (t : Ex n) (b i0 q q' i : Nat), full n t → shapesE n t = true → AtE word n t b i0 q i → Sp n t b q s' q' → (∃ c, word[i]? = some c ∧ inS s' c = true) → AtE word n t b i0 q' (i + 1)
  | 0, _, _, _, _, _, _, h, _, _, _, _ => h.elim
  | n + 1, t, b, i0, q, q', i, hf, hsh, ⟨hi, h⟩, g, hw => by
    obtain ⟨hok, hks⟩ := shapes_open hsh
    have hrn := sp_rng (n + 1) t b q s' q' hf g
    have hcl : ∀ x ∈ ks t, ∀ (b i0 q q' i : Nat), AtE word n x b i0 q i → Sp n x b q s' q' → (∃ c, word[i]? = some c ∧ inS s' c = true) → AtE word n x b i0 q' (i + 1) := fun x hx b i0 q q' i h g hw => ate_step word n x b i0 q q' i (hf x hx) (hks x hx) h g hw
    refine ⟨hi, ?_⟩
    have inb : ∀ p ∈ layE (b + 1) (ks t), Sp n p.2 p.1 q s' q' → b < q ∧ p.1 ≤ q ∧ q < en p := fun p hp g => by
      obtain ⟨a1, a2, a3, a4, _, _⟩ := lay_in hf hp
      have := sp_rng n p.2 p.1 q s' q' a4 g
      unfold en
      omega
    have atp : ∀ p ∈ layE (b + 1) (ks t), ∀ j, AtE word n p.2 p.1 j q i → b < q ∧ p.1 ≤ q ∧ q ≤ en p := fun p hp j h => by
      obtain ⟨a1, a2, a3, a4, _, _⟩ := lay_in hf hp
      have := ate_rng word n p.2 p.1 j q i a4 h
      unfold en
      omega
    have none1 : kd t = 1 → layE (b + 1) (ks t) = [] := fun hk => by
      have hl := ok_none hok (.inr hk)
      match hx : ks t, hl with
      | [], _ => rfl
    rcases g with ⟨k1, e1, e2, e3⟩ | ⟨p', hp', g⟩
    · rcases h with ⟨rfl, rfl⟩ | ⟨e, _⟩ | ⟨k2, h⟩ | ⟨k3, _⟩ | ⟨k4, _⟩ | ⟨k5, _⟩
      · obtain ⟨c, hc1, hc2⟩ := hw
        rw [e2] at hc2
        exact .inr (.inl ⟨e3, hi, .inr (.inl ⟨k1, rfl, c, hc1, hc2⟩)⟩)
      all_goals omega
    · have r2 := inb p' hp' g
      rcases h with ⟨rfl, _⟩ | ⟨e, _⟩ | ⟨k2, h⟩ | ⟨k3, p, hp, h⟩ | ⟨k4, p, hp, m, j, hm, h⟩ | ⟨k5, p, hp, h⟩
      · omega
      · omega
      · exact .inr (.inr (.inl ⟨k2, chain_step word (ks t) (b + 1) i0 q q' i hcl hf hw h ⟨p', hp', g⟩⟩))
      · have r1 := atp p hp i0 h
        obtain rfl := lay_uniq (ks t) _ q p p' hf hp hp' r1.2.1 r1.2.2 r2.2.1 (by omega)
        exact .inr (.inr (.inr (.inl ⟨k3, p, hp, hcl _ (lay_in hf hp).2.2.2.2.1 _ _ _ _ _ h g hw⟩)))
      · have hp0 := head_in hp
        have r1 := atp p hp0 j h
        obtain rfl := lay_uniq (ks t) _ q p p' hf hp0 hp' r1.2.1 r1.2.2 r2.2.1 (by omega)
        exact .inr (.inr (.inr (.inr (.inl ⟨k4, p, hp, m, j, hm, hcl _ (lay_in hf hp0).2.2.2.2.1 _ _ _ _ _ h g hw⟩))))
      · have hp0 := head_in hp
        have r1 := atp p hp0 i0 h
        obtain rfl := lay_uniq (ks t) _ q p p' hf hp0 hp' r1.2.1 r1.2.2 r2.2.1 (by omega)
        exact .inr (.inr (.inr (.inr (.inr ⟨k5, p, hp, hcl _ (lay_in hf hp0).2.2.2.2.1 _ _ _ _ _ h g hw⟩))))

/-- The machine of expressions: its free steps, and those by a set. -/
def FrA {n : Nat} (ts : List (Ex n)) (q q' : Nat) : Prop := ∃ p ∈ layE 1 ts, (q = 0 ∧ q' = p.1) ∨ Fr n p.2 p.1 q q'
def SpA {n : Nat} (ts : List (Ex n)) (q s q' : Nat) : Prop := ∃ p ∈ layE 1 ts, Sp n p.2 p.1 q s q'
/-- What is come to in it is come to in one of its expressions. -/
theorem way_in (word : List Int) {n : Nat} {ts : List (Ex n)} (hf : ∀ x ∈ ts, full n x) (hsh : ∀ x ∈ ts, shapesE n x = true) {q i : Nat} (h : Wy word (FrA ts) (SpA ts) 0 0 q i) : (q = 0 ∧ i = 0) ∨ ∃ p ∈ layE 1 ts, AtE word n p.2 p.1 0 q i := by
  induction h with
  | here => exact .inl ⟨rfl, rfl⟩
  | free _ g ih =>
    obtain ⟨p, hp, g⟩ := g
    obtain ⟨b1, _, b3⟩ := lay_rng _ _ _ hp
    rcases ih with ⟨rfl, rfl⟩ | ⟨p', hp', ih⟩
    · rcases g with ⟨_, rfl⟩ | g
      · exact .inr ⟨p, hp, ate_begin word p.1 0 (hf _ b3) (Nat.zero_le _)⟩
      · have := fr_rng n p.2 p.1 _ _ (hf _ b3) g; omega
    · obtain ⟨c1, _, c3⟩ := lay_rng _ _ _ hp'
      have r1 := ate_rng word n p'.2 p'.1 _ _ _ (hf _ c3) ih
      rcases g with ⟨e, _⟩ | g
      · omega
      · have r2 := fr_rng n p.2 p.1 _ _ (hf _ b3) g
        obtain rfl := lay_uniq ts _ _ p' p hf hp' hp r1.1 (by unfold en; omega) r2.1 (by unfold en; omega)
        exact .inr ⟨p', hp', ate_free word n _ _ _ _ _ _ (hf _ c3) (hsh _ c3) ih g⟩
  | step _ g hc hin ih =>
    obtain ⟨p, hp, g⟩ := g
    obtain ⟨b1, _, b3⟩ := lay_rng _ _ _ hp
    rcases ih with ⟨rfl, rfl⟩ | ⟨p', hp', ih⟩
    · have := sp_rng n p.2 p.1 _ _ _ (hf _ b3) g; omega
    · obtain ⟨c1, _, c3⟩ := lay_rng _ _ _ hp'
      have r1 := ate_rng word n p'.2 p'.1 _ _ _ (hf _ c3) ih
      have r2 := sp_rng n p.2 p.1 _ _ _ (hf _ b3) g
      obtain rfl := lay_uniq ts _ _ p' p hf hp' hp r1.1 (by unfold en; omega) r2.1 (by unfold en; omega)
      exact .inr ⟨p', hp', ate_step word n _ _ _ _ _ _ (hf _ c3) (hsh _ c3) ih g ⟨_, hc, hin⟩⟩
/-- At an expression's end one comes by its words alone. -/
theorem way_end (word : List Int) {n : Nat} {ts : List (Ex n)} (hf : ∀ x ∈ ts, full n x) (hsh : ∀ x ∈ ts, shapesE n x = true) {p : Nat × Ex n} (hp : p ∈ layE 1 ts) (i : Nat) : Wy word (FrA ts) (SpA ts) 0 0 (en p) i ↔ Mt word n p.2 0 i := by
  obtain ⟨b1, _, b3⟩ := lay_rng _ _ _ hp
  have hr := real_pos (hf _ b3)
  constructor
  · intro h
    rcases way_in word hf hsh h with ⟨e, _⟩ | ⟨p', hp', h⟩
    · unfold en at e; omega
    · obtain ⟨c1, _, c3⟩ := lay_rng _ _ _ hp'
      have r1 := ate_rng word n p'.2 p'.1 _ _ _ (hf _ c3) h
      obtain rfl := lay_uniq ts _ (en p) p' p hf hp' hp r1.1 (by unfold en at r1 ⊢; omega) (by unfold en; omega) (Nat.le_refl _)
      exact ate_end word (hf _ c3) h
  · intro h
    have w1 : Wy word (FrA ts) (SpA ts) 0 0 p.1 0 := Wy.here.free ⟨p, hp, .inl ⟨rfl, rfl⟩⟩
    exact w1.trans (way_of n p.2 word p.1 0 i _ _ h (fun a c g => ⟨p, hp, .inr g⟩) (fun a s c g => ⟨p, hp, g⟩))
end Go.Proofs.YtccaknabpnpjaaaGreatDoor.A

/- Ahead of layer 6: the document's 'into': a number into rising ones, once. -/
namespace Go.Proofs.YtccaknabpnpjaaaGreatDoor.A
open Go.RowKit

/-- A number into rising ones, once. -/
def intoL : List Int → Int → List Int
  | [], x => [x]
  | a :: r, x => if a < x then a :: intoL r x else if a = x then a :: r else x :: a :: r
theorem into_end : ∀ (l : List Int) (x : Int), (∀ z ∈ l, z < x) → intoL l x = l ++ [x]
  | [], x, _ => rfl
  | a :: r, x, h => by rw [intoL, if_pos (h a (by simp)), into_end r x (fun z hz => h z (by simp [hz]))]; rfl
theorem into_at : ∀ (k : Nat) (l : List Int) (x z : Int), (∀ p, p < k → ∀ y, l[p]? = some y → y < x) → l[k]? = some z → x ≤ z → intoL l x = l.take k ++ ((if z = x then [] else [x]) ++ l.drop k)
  | 0, a :: r, x, z, _, hz, hx => by
    have e : a = z := by simpa using hz
    subst e
    rw [intoL, if_neg (by omega)]
    by_cases q : a = x
    · simp [q]
    · simp [q]
  | k + 1, a :: r, x, z, h, hz, hx => by
    have h0 := h 0 (by omega) a (by simp)
    rw [intoL, if_pos h0, into_at k r x z (fun p hp y hy => h (p + 1) (by omega) y (by simpa using hy)) (by simpa using hz) hx]
    simp
  | 0, [], x, z, _, hz, _ => by simp at hz
  | k + 1, [], x, z, _, hz, _ => by simp at hz
theorem into_len (l : List Int) (x : Int) : (intoL l x).length ≤ l.length + 1 := by
  induction l with
  | nil => simp [intoL]
  | cons a r ih =>
    unfold intoL
    split
    · simp; omega
    · split <;> simp
theorem into_mem (l : List Int) (x z : Int) : z ∈ intoL l x ↔ z = x ∨ z ∈ l := by
  induction l with
  | nil => simp [intoL]
  | cons a r ih =>
    unfold intoL
    split
    · rw [List.mem_cons, ih, List.mem_cons]
      constructor
      · rintro (h | h | h)
        · exact .inr (.inl h)
        · exact .inl h
        · exact .inr (.inr h)
      · rintro (h | h | h)
        · exact .inr (.inl h)
        · exact .inl h
        · exact .inr (.inr h)
    · split
      · rename_i h; subst h; simp
      · simp
theorem into_sorted {l : List Int} (x : Int) (h : l.Pairwise (· < ·)) : (intoL l x).Pairwise (· < ·) := by
  induction l with
  | nil => simp [intoL]
  | cons a r ih =>
    rw [List.pairwise_cons] at h
    unfold intoL
    split
    · rename_i q
      rw [List.pairwise_cons]
      refine ⟨fun z hz => ?_, ih h.2⟩
      rcases (into_mem r x z).1 hz with rfl | hz
      · exact q
      · exact h.1 z hz
    · split
      · rw [List.pairwise_cons]; exact h
      · rename_i q1 q2
        rw [List.pairwise_cons, List.pairwise_cons]
        refine ⟨fun z hz => ?_, h⟩
        rcases List.mem_cons.1 hz with rfl | hz
        · omega
        · have := h.1 z hz; omega
theorem wd_cells {w : World} {b off : Nat} {l : List Int} {len cap : Nat} (hl : l.length = len) (hc : len ≤ cap) (k : Nat) (h : Wd w (some ⟨b, off, none⟩) l) : ∀ j u, ((l.drop k).map (Value.int .i64))[j]? = some u → w.cell? ((if cap = k then (⟨b, off, none⟩ : Addr) else ⟨b, off + k, none⟩).add j) = some u := by
  intro j u hj
  rw [List.getElem?_map, List.getElem?_drop] at hj
  obtain ⟨z, hz, rfl⟩ := Option.map_eq_some_iff.1 hj
  have hlt := (List.getElem?_eq_some_iff.1 hz).1
  rw [if_neg (by omega)]
  obtain ⟨b', off', e, c⟩ := h (k + j) z hz
  simp only [Option.some.injEq, Addr.mk.injEq] at e
  obtain ⟨rfl, rfl, _⟩ := e
  have ha : (⟨b, off + k, none⟩ : Addr).add j = ⟨b, off + k + j, none⟩ := by
    simp only [Addr.add]
    split
    · rename_i h0; rw [h0]; rfl
    · rfl
  rw [ha, Nat.add_assoc]
  exact c
theorem wd_cells' {w : World} {b off : Nat} {l : List Int} {len cap k : Nat} (hl : l.length = len) (hc : len ≤ cap) (hk : k < len) (h : Wd w (some ⟨b, off, none⟩) l) : ∀ j u, ((l.drop k).map (Value.int .i64))[j]? = some u → w.cell? ((⟨b, off + k, none⟩ : Addr).add j) = some u := by
  have := wd_cells hl hc k h
  rw [if_neg (by omega)] at this
  exact this
theorem one_ints (l : List Int) : ∀ u ∈ l.map (Value.int .i64), u.oneCell' = true := by
  intro u hu
  obtain ⟨z, _, rfl⟩ := List.mem_map.1 hu
  rfl

set_option maxRecDepth 100000 in
set_option maxHeartbeats 3200000 in
theorem into_nil (x : Int) (w : World) :
    Calls Tryz.prog 49 #[.slice none 0 0, .int .i64 x] w fun e w' => ∃ v, e = .returned v ∧ w'.ownsRow w.heap.size 3 1 v 1 [Value.int .i64 x] ∧ Below w.heap.size w w' := by
  obtain ⟨i0, hi, hz0, hz1, hz2⟩ := info_parts info3
  go_enter Tryz.func49, Tryz.ntmps49
  go_wp2_with fail
  go_loopw [5, 6] (fun v i wr => v = .slice none 0 0 ∧ i = .int .i64 0 ∧ wr = w) (fun _ _ _ => 0)
  case atStart => exact ⟨rfl, rfl, rfl⟩
  case round =>
    obtain ⟨rfl, rfl, rfl⟩ := hrel
    go_wp2_with (at_builtin; refine wpList_append_own _ rfl _ _ 26 rfl wr.heap.size 3 i0 (.int .i64 0) 1 8 Tryz.underlying26 hi hz0 hz1 hz2 rfl (by decide) _ _ _ rfl ((World.ownsRow_nil wr wr.heap.size 3 1).alloc _) ⟨_, 0, none⟩ 1 1 [.int .i64 x] rfl rfl ?c1 ?c2 ?c3 ?c4 ?c5 ?_)
    case c1 => exact one_new _ _ _
    case c2 => intro u hu; simp only [List.mem_singleton] at hu; subst hu; rfl
    case c3 => unfold maxLen; omega
    case c4 => omega
    case c5 => simp
    · intro v' w1 hown' hgrow _
      have hbel' : Below wr.heap.size wr w1 := ((Below.refl wr.heap.size wr).alloc (Nat.le_refl _) _).grown hgrow (by simp) (fun k' e => by cases e)
      have HO := hide hown'
      clear hown' hgrow
      go_wp2_with (at_builtin; refine wpList_append_own_none rfl _ _ 26 rfl wr.heap.size 3 i0 1 Tryz.underlying26 hi _ _ _ rfl HO.out rfl ?_)
      go_wp2
      go_ret
      exact ⟨_, rfl, HO.out, hbel'⟩

set_option maxRecDepth 100000 in
set_option maxHeartbeats 3200000 in
theorem into_some (b off len cap : Nat) (l : List Int) (x : Int) (w : World) (hl : l.length = len) (hlen : len ≤ 10000) (hcap : len ≤ cap) (hW : Wd w (some ⟨b, off, none⟩) l) :
    Calls Tryz.prog 49 #[.slice (some ⟨b, off, none⟩) len cap, .int .i64 x] w fun e w' => ∃ v, e = .returned v ∧ w'.ownsRow w.heap.size 3 1 v (intoL l x).length ((intoL l x).map (Value.int .i64)) ∧ Below w.heap.size w w' := by
  obtain ⟨i0, hi, hz0, hz1, hz2⟩ := info_parts info3
  have HW := hide hW
  have HL := hide hl
  clear hW hl
  go_enter Tryz.func49, Tryz.ntmps49
  go_wp2_with fail
  go_loopw [5, 6] (fun v i wr => ∃ k : Nat, k ≤ len ∧ i = .int .i64 k ∧ (∀ p, p < k → ∀ y, l[p]? = some y → y < x) ∧ wr.ownsRow w.heap.size 3 1 v k ((l.take k).map (Value.int .i64)) ∧ Below w.heap.size w wr) (fun _ i _ => len - (intOf i).toNat)
  case atStart => exact ⟨0, Nat.zero_le _, rfl, fun p hp => by omega, World.ownsRow_nil _ _ _ _, Below.refl _ _⟩
  case round =>
    obtain ⟨k, hk, rfl, hlow, hown, hbel⟩ := hrel
    have HLO := hide hlow
    clear hlow
    obtain ⟨tk, htk⟩ : ∃ tk, (l.take k).map (Value.int .i64) = tk := ⟨_, rfl⟩
    rw [htk] at hown
    have HTK := hide htk
    clear htk
    obtain ⟨dl, hdl⟩ : ∃ dl, (l.drop k).map (Value.int .i64) = dl := ⟨_, rfl⟩
    obtain ⟨m, hm⟩ : ∃ m, m = len - k := ⟨_, rfl⟩
    have HDL := hide (show dl.length = m * 1 by rw [← hdl, List.length_map, List.length_drop, HL.out, hm]; omega)
    have HD1 := hide (hdl ▸ one_ints (l.drop k))
    have hm2 : k + m ≤ 10000 := by omega
    have HDQ := hide hdl
    have HMQ := hide hm
    clear hdl hm
    have j1 : (0 : Int) ≤ (k : Int) := by omega
    have j2 : (k : Int) ≤ (len : Int) := by omega
    have j3 : (len : Int) ≤ (cap : Int) := by omega
    have j4 : (k : Int) ≤ (cap : Int) := by omega
    by_cases hlt : k < len
    · obtain ⟨z, hz⟩ : ∃ z, l[k]? = some z := ⟨_, List.getElem?_eq_getElem (by rw [HL.out]; exact hlt)⟩
      obtain ⟨b', off', e', k0⟩ := wd_below hbel HW.out k z hz
      simp only [Option.some.injEq, Addr.mk.injEq] at e'
      obtain ⟨rfl, rfl, -⟩ := e'
      have HZ := hide hz
      have i2 : (k : Int) < (len : Int) := by omega
      have hne : ((k : Int) == (len : Int)) = false := by simp; omega
      clear hz
      by_cases hzx : z < x
      · go_wp2_with (at_builtin; refine wpList_append_own _ rfl _ _ 26 rfl w.heap.size 3 i0 (.int .i64 0) 1 8 Tryz.underlying26 hi hz0 hz1 hz2 rfl (by decide) _ _ _ rfl (hown.alloc _) ⟨_, 0, none⟩ 1 1 [.int .i64 z] rfl rfl (one_new _ _ _) (fun u hu => by simp only [List.mem_singleton] at hu; subst hu; rfl) (by unfold maxLen; omega) (by omega) (by have := hbel.size; simp; omega) ?_)
        · intro v' w1 hown' hgrow _
          have hbel' : Below w.heap.size w w1 := (hbel.alloc hbel.size _).grown hgrow (by have := hbel.size; simp; omega) (fun k' e => (hown.lt k' e).1)
          have hown2 : w1.ownsRow w.heap.size 3 1 v' (k + 1) ((l.take (k + 1)).map (Value.int .i64)) := by rw [take_at HZ.out, List.map_append, HTK.out]; exact hown'
          have HLN := hide (show ∀ p, p < k + 1 → ∀ y, l[p]? = some y → y < x from fun p hp y hy => by
            by_cases e : p = k
            · subst e; rw [HZ.out] at hy; cases hy; exact hzx
            · exact HLO.out p (by omega) y hy)
          clear hown' hgrow hown hbel
          go_wp2
          go_roundw
          case rel => exact ⟨k + 1, by omega, by go_num, HLN.out, hown2, hbel'⟩
          case measure => simp [intOf]; omega
      · by_cases hzq : z = x
        · have HI := hide (into_at k l x z HLO.out HZ.out (by omega))
          have hne2 : (z != x) = false := by simp [hzq]
          have HC := hide (HDQ.out ▸ wd_cells' HL.out hcap hlt (wd_below hbel HW.out))
          have HBZ := hide hbel.size
          go_wp2_with (at_builtin; refine wpList_append_own _ rfl _ _ 26 rfl w.heap.size 3 i0 (.int .i64 0) 1 8 Tryz.underlying26 hi hz0 hz1 hz2 rfl (by decide) _ _ _ rfl hown ⟨b, off + k, none⟩ m (cap - k) dl (by rw [HMQ.out]; rfl) HDL.out HC.out HD1.out (by unfold maxLen; omega) (by omega) (by have := HBZ.out; omega) ?_)
          · intro v' w1 hown' hgrow _
            have hbel' : Below w.heap.size w w1 := hbel.grown hgrow (by have := hbel.size; omega) (fun k' e => (hown.lt k' e).1)
            have HO := hide (show w1.ownsRow w.heap.size 3 1 v' (intoL l x).length ((intoL l x).map (Value.int .i64)) by
              rw [HI.out, if_pos hzq, List.nil_append, List.map_append, List.length_append, List.length_take, List.length_drop, HL.out, Nat.min_eq_left (by omega), HTK.out, HDQ.out, ← HMQ.out]; exact hown')
            clear hown' hgrow hown hbel
            go_wp2
            go_ret
            exact ⟨_, rfl, HO.out, hbel'⟩
        · have HI := hide (into_at k l x z HLO.out HZ.out (by omega))
          have hne2 : (z != x) = true := by simp [hzq]
          go_wp2_with (at_builtin; refine wpList_append_own _ rfl _ _ 26 rfl w.heap.size 3 i0 (.int .i64 0) 1 8 Tryz.underlying26 hi hz0 hz1 hz2 rfl (by decide) _ _ _ rfl (hown.alloc _) ⟨_, 0, none⟩ 1 1 [.int .i64 x] rfl rfl (one_new _ _ _) (fun u hu => by simp only [List.mem_singleton] at hu; subst hu; rfl) (by unfold maxLen; omega) (by omega) (by have := hbel.size; simp; omega) ?_)
          · intro v1 w1 hown1 hgrow _
            have hbel1 : Below w.heap.size w w1 := (hbel.alloc hbel.size _).grown hgrow (by have := hbel.size; simp; omega) (fun k' e => (hown.lt k' e).1)
            clear hgrow hown hbel
            have HC := hide (HDQ.out ▸ wd_cells' HL.out hcap hlt (wd_below hbel1 HW.out))
            have HBZ := hide hbel1.size
            go_wp2_with (at_builtin; refine wpList_append_own _ rfl _ _ 26 rfl w.heap.size 3 i0 (.int .i64 0) 1 8 Tryz.underlying26 hi hz0 hz1 hz2 rfl (by decide) _ _ _ rfl hown1 ⟨b, off + k, none⟩ m (cap - k) dl (by rw [HMQ.out]; rfl) HDL.out HC.out HD1.out (by unfold maxLen; omega) (by omega) (by have := HBZ.out; omega) ?_)
            · intro v' w2 hown' hgrow _
              have hbel' : Below w.heap.size w w2 := hbel1.grown hgrow (by have := hbel1.size; omega) (fun k' e => (hown1.lt k' e).1)
              have HO := hide (show w2.ownsRow w.heap.size 3 1 v' (intoL l x).length ((intoL l x).map (Value.int .i64)) by
                rw [HI.out, if_neg hzq, ← List.append_assoc, List.map_append, List.map_append, List.length_append, List.length_append, List.length_take, List.length_drop, HL.out, Nat.min_eq_left (by omega), HTK.out, HDQ.out, ← HMQ.out, List.append_assoc]; exact hown')
              clear hown' hgrow hown1 hbel1
              go_wp2
              go_ret
              exact ⟨_, rfl, HO.out, hbel'⟩
    · have e : k = len := by omega
      subst e
      have HI := hide (into_end l x (fun z hz => by obtain ⟨p, hp, e⟩ := List.getElem_of_mem hz; exact HLO.out p (by rw [← HL.out]; exact hp) z (by rw [List.getElem?_eq_getElem hp, e])))
      have HF := hide (show ((intoL l x).map (Value.int .i64)) = tk ++ [Value.int .i64 x] ∧ (intoL l x).length = k + 1 from ⟨by
        have ht : l.take k = l := List.take_of_length_le (by rw [HL.out]; exact Nat.le_refl _)
        rw [HI.out, List.map_append, ← HTK.out, ht]; rfl, by rw [HI.out, List.length_append, HL.out]; rfl⟩)
      clear HDL HD1 HDQ HMQ hm2 HI
      have hkk : ((k : Int) == (k : Int)) = true := by simp
      go_wp2_with (at_builtin; refine wpList_append_own _ rfl _ _ 26 rfl w.heap.size 3 i0 (.int .i64 0) 1 8 Tryz.underlying26 hi hz0 hz1 hz2 rfl (by decide) _ _ _ rfl (hown.alloc _) ⟨_, 0, none⟩ 1 1 [.int .i64 x] rfl rfl (one_new _ _ _) (fun u hu => by simp only [List.mem_singleton] at hu; subst hu; rfl) (by unfold maxLen; omega) (by omega) (by have := hbel.size; simp; omega) ?_)
      · intro v1 w1 hown1 hgrow _
        have hbel1 : Below w.heap.size w w1 := (hbel.alloc hbel.size _).grown hgrow (by have := hbel.size; simp; omega) (fun k' e => (hown.lt k' e).1)
        clear hgrow hown hbel
        have HBZ := hide hbel1.size
        by_cases hck : cap = k
        · subst hck
          go_wp2_with (at_builtin; refine wpList_append_own _ rfl _ _ 26 rfl w.heap.size 3 i0 (.int .i64 0) 1 8 Tryz.underlying26 hi hz0 hz1 hz2 rfl (by decide) _ _ _ rfl hown1 ⟨b, off, none⟩ 0 0 [] rfl rfl (fun j u h => by simp at h) (fun u h => by cases h) (by unfold maxLen; omega) (by omega) (by have := HBZ.out; omega) ?_)
          · intro v' w2 hown' hgrow _
            have hbel' : Below w.heap.size w w2 := hbel1.grown hgrow (by have := hbel1.size; omega) (fun k' e => (hown1.lt k' e).1)
            have HO := hide (show w2.ownsRow w.heap.size 3 1 v' (intoL l x).length ((intoL l x).map (Value.int .i64)) by
              rw [HF.out.1, HF.out.2]; exact hown')
            clear hown' hgrow hown1 hbel1
            go_wp2
            go_ret
            exact ⟨_, rfl, HO.out, hbel'⟩
        · go_wp2_with (at_builtin; refine wpList_append_own _ rfl _ _ 26 rfl w.heap.size 3 i0 (.int .i64 0) 1 8 Tryz.underlying26 hi hz0 hz1 hz2 rfl (by decide) _ _ _ rfl hown1 ⟨b, off + k, none⟩ 0 (cap - k) [] rfl rfl (fun j u h => by simp at h) (fun u h => by cases h) (by unfold maxLen; omega) (by omega) (by have := HBZ.out; omega) ?_)
          · intro v' w2 hown' hgrow _
            have hbel' : Below w.heap.size w w2 := hbel1.grown hgrow (by have := hbel1.size; omega) (fun k' e => (hown1.lt k' e).1)
            have HO := hide (show w2.ownsRow w.heap.size 3 1 v' (intoL l x).length ((intoL l x).map (Value.int .i64)) by
              rw [HF.out.1, HF.out.2]; exact hown')
            clear hown' hgrow hown1 hbel1
            go_wp2
            go_ret
            exact ⟨_, rfl, HO.out, hbel'⟩

end Go.Proofs.YtccaknabpnpjaaaGreatDoor.A

/- What the document's 'lay' writes: plain mathematics. (The lemmas on intoL are the scratch seat's Nh's as well: keep one of the two.) -/
namespace Go.Proofs.YtccaknabpnpjaaaGreatDoor.A

/-- Rising lists with the same members are one. -/
theorem rising_eq : ∀ {l l' : List Int}, l.Pairwise (· < ·) → l'.Pairwise (· < ·) → (∀ z, z ∈ l ↔ z ∈ l') → l = l'
  | [], [], _, _, _ => rfl
  | [], b :: r', _, _, h => by have := (h b).2 (by simp); simp at this
  | a :: r, [], _, _, h => by have := (h a).1 (by simp); simp at this
  | a :: r, b :: r', h1, h2, h => by
    rw [List.pairwise_cons] at h1 h2
    have e : a = b := by
      have ha := (h a).1 (by simp)
      have hb := (h b).2 (by simp)
      rcases List.mem_cons.1 ha with ha | ha
      · exact ha
      · rcases List.mem_cons.1 hb with hb | hb
        · exact hb.symm
        · have q1 := h2.1 a ha
          have q2 := h1.1 b hb
          omega
    subst e
    rw [rising_eq h1.2 h2.2 (fun z => ?_)]
    constructor
    · intro hz
      rcases List.mem_cons.1 ((h z).1 (by simp [hz])) with q | q
      · have := h1.1 z hz; omega
      · exact q
    · intro hz
      rcases List.mem_cons.1 ((h z).2 (by simp [hz])) with q | q
      · have := h2.1 z hz; omega
      · exact q

/-- A machine that is being made: free steps, sets, where they lead. -/
structure Mc where
  fr : Nat → List Int
  st : Nat → Nat
  to : Nat → Int
/-- A free step more. -/
def addF (m : Mc) (a : Nat) (x : Nat) : Mc := ⟨fun i => if i = a then intoL (m.fr a) (x : Int) else m.fr i, m.st, m.to⟩
theorem mem_addF (m : Mc) (a x i : Nat) (z : Int) : z ∈ (addF m a x).fr i ↔ z ∈ m.fr i ∨ (i = a ∧ z = x) := by
  unfold addF
  show z ∈ (if i = a then intoL (m.fr a) (x : Int) else m.fr i) ↔ _
  by_cases e : i = a
  · subst e; rw [if_pos rfl, into_mem]
    constructor
    · rintro (h | h)
      · exact .inr ⟨rfl, h⟩
      · exact .inl h
    · rintro (h | h)
      · exact .inr h
      · exact .inl h.2
  · rw [if_neg e]
    constructor
    · exact .inl
    · rintro (h | h)
      · exact h
      · exact absurd h.1 e
/-- A round of its loop over the parts: what is written, where the next part begins, where the last one ended. -/
def layR {n : Nat} (lay1 : Ex n → Nat → Mc → Mc) (kind at_ e : Nat) (q : Mc × Nat × Nat) (x : Ex n) : Mc × Nat × Nat :=
  if kind = 2 then (addF (lay1 x q.2.1 q.1) q.2.2 q.2.1, q.2.1 + 2 * realN n x - 1 + 1, q.2.1 + 2 * realN n x - 1)
  else if kind = 4 then (addF (addF (addF (lay1 x q.2.1 q.1) (q.2.1 + 2 * realN n x - 1) q.2.1) at_ q.2.1) (q.2.1 + 2 * realN n x - 1) e, q.2.1 + 2 * realN n x - 1 + 1, q.2.2)
  else (addF (addF (lay1 x q.2.1 q.1) at_ q.2.1) (q.2.1 + 2 * realN n x - 1) e, q.2.1 + 2 * realN n x - 1 + 1, q.2.2)
/-- What the document's 'lay' makes of a machine. -/
def layM : (n : Nat) → Ex n → Nat → Mc → Mc
  | 0, _, _, m => m
  | n + 1, t, b, m =>
    if kd t = 1 then ⟨m.fr, fun i => if i = b then A.st t else m.st i, fun i => if i = b then ((b + 2 * realN (n + 1) t - 1 : Nat) : Int) else m.to i⟩
    else if kd t = 2 then addF ((ks t).foldl (layR (layM n) 2 b (b + 2 * realN (n + 1) t - 1)) (m, b + 1, b)).1 ((ks t).foldl (layR (layM n) 2 b (b + 2 * realN (n + 1) t - 1)) (m, b + 1, b)).2.2 (b + 2 * realN (n + 1) t - 1)
    else if kd t = 3 then ((ks t).foldl (layR (layM n) 3 b (b + 2 * realN (n + 1) t - 1)) (m, b + 1, b)).1
    else ((ks t).foldl (layR (layM n) (kd t) b (b + 2 * realN (n + 1) t - 1)) (addF m b (b + 2 * realN (n + 1) t - 1), b + 1, b)).1

/-- What lay1 adds to the free steps. -/
def Adds {n : Nat} (lay1 : Ex n → Nat → Mc → Mc) (R : Ex n → Nat → Nat → Nat → Prop) (x : Ex n) : Prop := ∀ (b : Nat) (m : Mc) (i : Nat) (z : Int), z ∈ (lay1 x b m).fr i ↔ z ∈ m.fr i ∨ ∃ j : Nat, z = j ∧ R x b i j
theorem lay_two {n : Nat} {lay1 : Ex n → Nat → Mc → Mc} {R : Ex n → Nat → Nat → Nat → Prop} (b e : Nat) : ∀ (l : List (Ex n)) (m : Mc) (s last i : Nat) (z : Int), (∀ x ∈ l, Adds lay1 R x ∧ 1 ≤ realN n x) →
    (z ∈ (addF (l.foldl (layR lay1 2 b e) (m, s, last)).1 (l.foldl (layR lay1 2 b e) (m, s, last)).2.2 e).fr i ↔ z ∈ m.fr i ∨ ∃ j : Nat, z = j ∧ ((∃ p ∈ layE s l, R p.2 p.1 i j) ∨ Cj last (layE s l) e i j))
  | [], m, s, last, i, z, _ => by
    show z ∈ (addF m last e).fr i ↔ _
    rw [mem_addF]
    constructor
    · rintro (h | ⟨h1, h2⟩)
      · exact .inl h
      · exact .inr ⟨e, h2, .inr ⟨h1, rfl⟩⟩
    · rintro (h | ⟨j, h1, ⟨p, hp, _⟩ | ⟨h2, h3⟩⟩)
      · exact .inl h
      · cases hp
      · exact .inr ⟨h2, by rw [h1, h3]⟩
  | x :: l, m, s, last, i, z, h => by
    obtain ⟨hx, h1⟩ := h x (by simp)
    have ih := lay_two b e l (addF (lay1 x s m) last s) (s + 2 * realN n x - 1 + 1) (s + 2 * realN n x - 1) i z (fun y hy => h y (by simp [hy]))
    have es : s + 2 * realN n x - 1 + 1 = s + 2 * realN n x := by omega
    rw [List.foldl_cons]
    show z ∈ (addF (l.foldl (layR lay1 2 b e) (addF (lay1 x s m) last s, s + 2 * realN n x - 1 + 1, s + 2 * realN n x - 1)).1 (l.foldl (layR lay1 2 b e) (addF (lay1 x s m) last s, s + 2 * realN n x - 1 + 1, s + 2 * realN n x - 1)).2.2 e).fr i ↔ _
    rw [ih, mem_addF, hx s m i z, es]
    show _ ↔ z ∈ m.fr i ∨ ∃ j : Nat, z = j ∧ ((∃ p ∈ (s, x) :: layE (s + 2 * realN n x) l, R p.2 p.1 i j) ∨ ((i = last ∧ j = s) ∨ Cj (s + 2 * realN n x - 1) (layE (s + 2 * realN n x) l) e i j))
    constructor
    · rintro (((h | ⟨j, e1, e2⟩) | ⟨e1, e2⟩) | ⟨j, e1, ⟨p, hp, e2⟩ | e2⟩)
      · exact .inl h
      · exact .inr ⟨j, e1, .inl ⟨(s, x), by simp, e2⟩⟩
      · exact .inr ⟨s, e2, .inr (.inl ⟨e1, rfl⟩)⟩
      · exact .inr ⟨j, e1, .inl ⟨p, by simp [hp], e2⟩⟩
      · exact .inr ⟨j, e1, .inr (.inr e2)⟩
    · rintro (h | ⟨j, e1, ⟨p, hp, e2⟩ | (⟨e2, e3⟩ | e2)⟩)
      · exact .inl (.inl (.inl h))
      · rcases List.mem_cons.1 hp with rfl | hp
        · exact .inl (.inl (.inr ⟨j, e1, e2⟩))
        · exact .inr ⟨j, e1, .inl ⟨p, hp, e2⟩⟩
      · exact .inl (.inr ⟨e2, by rw [e1, e3]⟩)
      · exact .inr ⟨j, e1, .inr e2⟩
theorem lay_more {n : Nat} {lay1 : Ex n → Nat → Mc → Mc} {R : Ex n → Nat → Nat → Nat → Prop} (kind b e : Nat) (hk : kind ≠ 2) : ∀ (l : List (Ex n)) (m : Mc) (s last i : Nat) (z : Int), (∀ x ∈ l, Adds lay1 R x ∧ 1 ≤ realN n x) →
    (z ∈ (l.foldl (layR lay1 kind b e) (m, s, last)).1.fr i ↔ z ∈ m.fr i ∨ ∃ j : Nat, z = j ∧ ∃ p ∈ layE s l, R p.2 p.1 i j ∨ (i = b ∧ j = p.1) ∨ (i = en p ∧ j = e) ∨ (kind = 4 ∧ i = en p ∧ j = p.1))
  | [], m, s, last, i, z, _ => by
    show z ∈ m.fr i ↔ _
    constructor
    · exact .inl
    · rintro (h | ⟨j, _, p, hp, _⟩)
      · exact h
      · cases hp
  | x :: l, m, s, last, i, z, h => by
    obtain ⟨hx, h1⟩ := h x (by simp)
    have es : s + 2 * realN n x - 1 + 1 = s + 2 * realN n x := by omega
    rw [List.foldl_cons]
    show _ ↔ z ∈ m.fr i ∨ ∃ j : Nat, z = j ∧ ∃ p ∈ (s, x) :: layE (s + 2 * realN n x) l, R p.2 p.1 i j ∨ (i = b ∧ j = p.1) ∨ (i = en p ∧ j = e) ∨ (kind = 4 ∧ i = en p ∧ j = p.1)
    by_cases h4 : kind = 4
    · have er : layR lay1 kind b e (m, s, last) x = (addF (addF (addF (lay1 x s m) (s + 2 * realN n x - 1) s) b s) (s + 2 * realN n x - 1) e, s + 2 * realN n x, last) := by
        unfold layR; rw [if_neg hk, if_pos h4]; simp only []; rw [es]
      rw [er, lay_more kind b e hk l _ _ _ i z (fun y hy => h y (by simp [hy])), mem_addF, mem_addF, mem_addF, hx s m i z]
      constructor
      · rintro (((((h | ⟨j, e1, e2⟩) | ⟨e1, e2⟩) | ⟨e1, e2⟩) | ⟨e1, e2⟩) | ⟨j, e1, p, hp, e2⟩)
        · exact .inl h
        · exact .inr ⟨j, e1, (s, x), by simp, .inl e2⟩
        · exact .inr ⟨s, e2, (s, x), by simp, .inr (.inr (.inr ⟨h4, e1, rfl⟩))⟩
        · exact .inr ⟨s, e2, (s, x), by simp, .inr (.inl ⟨e1, rfl⟩)⟩
        · exact .inr ⟨e, e2, (s, x), by simp, .inr (.inr (.inl ⟨e1, rfl⟩))⟩
        · exact .inr ⟨j, e1, p, by simp [hp], e2⟩
      · rintro (h | ⟨j, e1, p, hp, e2⟩)
        · exact .inl (.inl (.inl (.inl (.inl h))))
        · rcases List.mem_cons.1 hp with rfl | hp
          · rcases e2 with e2 | ⟨e2, e3⟩ | ⟨e2, e3⟩ | ⟨_, e2, e3⟩
            · exact .inl (.inl (.inl (.inl (.inr ⟨j, e1, e2⟩))))
            · exact .inl (.inl (.inr ⟨e2, by rw [e1, e3]⟩))
            · exact .inl (.inr ⟨e2, by rw [e1, e3]⟩)
            · exact .inl (.inl (.inl (.inr ⟨e2, by rw [e1, e3]⟩)))
          · exact .inr ⟨j, e1, p, hp, e2⟩
    · have er : layR lay1 kind b e (m, s, last) x = (addF (addF (lay1 x s m) b s) (s + 2 * realN n x - 1) e, s + 2 * realN n x, last) := by
        unfold layR; rw [if_neg hk, if_neg h4]; simp only []; rw [es]
      rw [er, lay_more kind b e hk l _ _ _ i z (fun y hy => h y (by simp [hy])), mem_addF, mem_addF, hx s m i z]
      constructor
      · rintro ((((h | ⟨j, e1, e2⟩) | ⟨e1, e2⟩) | ⟨e1, e2⟩) | ⟨j, e1, p, hp, e2⟩)
        · exact .inl h
        · exact .inr ⟨j, e1, (s, x), by simp, .inl e2⟩
        · exact .inr ⟨s, e2, (s, x), by simp, .inr (.inl ⟨e1, rfl⟩)⟩
        · exact .inr ⟨e, e2, (s, x), by simp, .inr (.inr (.inl ⟨e1, rfl⟩))⟩
        · exact .inr ⟨j, e1, p, by simp [hp], e2⟩
      · rintro (h | ⟨j, e1, p, hp, e2⟩)
        · exact .inl (.inl (.inl (.inl h)))
        · rcases List.mem_cons.1 hp with rfl | hp
          · rcases e2 with e2 | ⟨e2, e3⟩ | ⟨e2, e3⟩ | ⟨e2, _⟩
            · exact .inl (.inl (.inl (.inr ⟨j, e1, e2⟩)))
            · exact .inl (.inl (.inr ⟨e2, by rw [e1, e3]⟩))
            · exact .inl (.inr ⟨e2, by rw [e1, e3]⟩)
            · exact absurd e2 h4
          · exact .inr ⟨j, e1, p, hp, e2⟩

end Go.Proofs.YtccaknabpnpjaaaGreatDoor.A
