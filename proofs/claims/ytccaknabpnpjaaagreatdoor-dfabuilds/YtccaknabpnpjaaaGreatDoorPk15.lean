/- The program's measure, Right. -/
import Derived.Test.YtccaknabpnpjaaaGreatDoorPk14
import Derived.Test.YtccaknabpnpjaaaGreatDoorPk8
import Derived.Test.YtccaknabpnpjaaaGreatDoorPk13
import Derived.Test.YtccaknabpnpjaaaGreatDoorPk10
namespace Go.Proofs.YtccaknabpnpjaaaGreatDoor.A
open Go.RowKit

theorem ret_meas {a b c d : Nat} {x y : Bool} (h1 : a = b) (h2 : c = d) (h3 : x = y) : Ending.returned (.tuple #[.int .i64 (a : Int), .int .i64 (c : Int), .bool x]) = .returned (.tuple #[.int .i64 (b : Int), .int .i64 (d : Int), .bool y]) := by rw [h1, h2, h3]
set_option maxRecDepth 100000 in
set_option maxHeartbeats 1600000 in
theorem measure_any (n : Nat) (t : Ex n) (v : Value) (w : World) (h : Rx w n t v) :
    Calls Tryz.prog 60 #[v] w fun e w' => e = .returned (.tuple #[.int .i64 (nodesR n t : Nat), .int .i64 (deepR n t : Nat), .bool (rightE n t)]) ∧ Below w.heap.size w w' := by
  obtain ⟨c0, c1, c2, rfl⟩ := rx_form h
  obtain ⟨kx, sx, ax, lx, cx, rfl, rfl, rfl⟩ := rx_cells h
  have hmf : ∀ (fn : Fn) (first cap : Array Value) (w : World), (Instr.makeFunc fn first cap).run Tryz.prog w = .ok (.func fn first cap) w := fun _ _ _ _ => rfl
  have HW := hide (walk_right (rx_full n t _ h))
  have HX := hide h
  clear h
  have HN := hide (show nodesR n t = if rightE n t = true then nodesE n t else 0 from rfl)
  have HD := hide (show deepR n t = if rightE n t = true then deepE n t 12 else 0 from rfl)
  have HB0 := hide ((((Below.refl w.heap.size w).alloc (Nat.le_refl _) (.cells #[.int .u8 kx, .int .u16 sx, .slice ax lx cx] 38)).alloc (by simp) (.cells #[.int .i64 0] 3)).alloc (by simp; omega) (.cells #[.int .i64 0] 3))
  have HC1 := hide (show Cn (((w.alloc (.cells #[.int .u8 kx, .int .u16 sx, .slice ax lx cx] 38)).alloc (.cells #[.int .i64 0] 3)).alloc (.cells #[.int .i64 0] 3)) (w.heap.size + 1) 0 from by
    have e := heap_alloc_last (w.alloc (.cells #[.int .u8 kx, .int .u16 sx, .slice ax lx cx] 38)) (.cells #[.int .i64 0] 3)
    rw [show (w.alloc (.cells #[.int .u8 kx, .int .u16 sx, .slice ax lx cx] 38)).heap.size = w.heap.size + 1 by simp] at e
    exact cn_alloc (x := 0) e _)
  have HC2 := hide (show Cn (((w.alloc (.cells #[.int .u8 kx, .int .u16 sx, .slice ax lx cx] 38)).alloc (.cells #[.int .i64 0] 3)).alloc (.cells #[.int .i64 0] 3)) (w.heap.size + 2) 0 from by
    have e := heap_alloc_last ((w.alloc (.cells #[.int .u8 kx, .int .u16 sx, .slice ax lx cx] 38)).alloc (.cells #[.int .i64 0] 3)) (.cells #[.int .i64 0] 3)
    rw [show ((w.alloc (.cells #[.int .u8 kx, .int .u16 sx, .slice ax lx cx] 38)).alloc (.cells #[.int .i64 0] 3)).heap.size = w.heap.size + 2 by simp] at e
    exact e)
  go_enter Tryz.func60, Tryz.ntmps60
  go_wp2_with fail
  refine (walk_any w (w.heap.size + 1) (w.heap.size + 2) (by omega) (by omega) (by omega) n t _ 1 0 0 _ (by omega) (by omega) (by omega) HX.out ⟨HB0.out, HC1.out, HC2.out⟩).mono ?_
  rintro e w1 ⟨rfl, hb1, hc1, hc2⟩
  have HB1 := hide hb1
  obtain ⟨d1, _⟩ := cn_cell hc1
  obtain ⟨d2, _⟩ := cn_cell hc2
  clear hb1 hc1 hc2 HB0 HC1 HC2
  rw [HW.out.1]
  have HW2 := hide HW.out.2
  clear HW
  cases hr : rightE n t with
  | false =>
    rw [hr] at HN HD
    have HR := hide hr
    clear hr
    go_wp2
    go_ret3
    exact ⟨by rw [HN.out, HD.out, HR.out]; rfl, HB1.out⟩
  | true =>
    rw [hr] at HN HD
    obtain ⟨e1, e2⟩ := HW2.out hr
    rw [e1] at d1
    rw [e2] at d2
    have HR := hide hr
    clear hr e1 e2 HW2
    go_wp2
    go_quiet (fail)
    go_wp2
    go_ret3
    exact ⟨by rw [HN.out, HD.out, HR.out]; rfl, below_drewN HB1.out _⟩
set_option maxHeartbeats 800000 in
theorem right_any (n : Nat) (t : Ex n) (v : Value) (w : World) (h : Rx w n t v) :
    Calls Tryz.prog 39 #[v] w fun e w' => e = .returned (.bool (rightE n t)) ∧ Below w.heap.size w w' := by
  obtain ⟨c0, c1, c2, rfl⟩ := rx_form h
  have HX := hide h
  have HB0 := hide ((Below.refl w.heap.size w).alloc (Nat.le_refl _) (.cells #[c0, c1, c2] 38))
  clear h
  go_enter Tryz.func39, Tryz.ntmps39
  go_wp2_with fail
  refine (measure_any n t _ _ (rx_below HB0.out n t _ HX.out)).mono ?_
  rintro e w1 ⟨rfl, hb1⟩
  have HB1 := hide (HB0.out.trans (hb1.mono HB0.out.size))
  clear hb1
  go_wp2
  go_ret
  exact ⟨rfl, HB1.out⟩
end Go.Proofs.YtccaknabpnpjaaaGreatDoor.A

/- The program's builder: the steps of a node, whatever its kind. -/
namespace Go.Proofs.YtccaknabpnpjaaaGreatDoor.A
open Go.RowKit

/-- Where the parts begin, and where they end. -/
def pbE {n : Nat} (P : List (Nat × Ex n)) (m : Nat) : Nat := match P[m]? with | some p => p.1 | none => 0
def peE {n : Nat} (P : List (Nat × Ex n)) (m : Nat) : Nat := match P[m]? with | some p => en p | none => 0
theorem pb_at {n : Nat} {P : List (Nat × Ex n)} {m : Nat} {p : Nat × Ex n} (h : P[m]? = some p) : pbE P m = p.1 ∧ peE P m = en p := by
  unfold pbE peE; rw [h]; exact ⟨rfl, rfl⟩
theorem lay_len {n : Nat} : ∀ (l : List (Ex n)) (s : Nat), (layE s l).length = l.length
  | [], _ => rfl
  | x :: r, s => by show (layE _ r).length + 1 = r.length + 1; rw [lay_len r]
/-- Where a part begins. -/
def posE {n : Nat} (s : Nat) (l : List (Ex n)) (k : Nat) : Nat := s + 2 * ((l.take k).map (fun x => realN n x)).sum
theorem lay_at {n : Nat} : ∀ (l : List (Ex n)) (s k : Nat) (x : Ex n), l[k]? = some x → (layE s l)[k]? = some (posE s l k, x)
  | [], _, _, _, h => by simp at h
  | y :: r, s, 0, x, h => by
    have e : y = x := by simpa using h
    subst e
    show some (s, y) = some (posE s (y :: r) 0, y)
    simp [posE]
  | y :: r, s, k + 1, x, h => by
    have ih := lay_at r (s + 2 * realN n y) k x (by simpa using h)
    show (layE (s + 2 * realN n y) r)[k]? = _
    rw [ih]
    simp only [posE, List.take_succ_cons, List.map_cons, List.sum_cons, Option.some.injEq, Prod.mk.injEq, and_true]
    omega
theorem pos_next {n : Nat} {l : List (Ex n)} {s k : Nat} {x : Ex n} (h : l[k]? = some x) : posE s l (k + 1) = posE s l k + 2 * realN n x := by
  unfold posE
  rw [take_at h, List.map_append, List.sum_append]
  simp only [List.map_cons, List.map_nil, List.sum_cons, List.sum_nil]
  omega
theorem pos_all {n : Nat} (l : List (Ex n)) (s : Nat) : posE s l l.length = s + 2 * (l.map (fun x => realN n x)).sum := by
  unfold posE; rw [List.take_length]
theorem pos_mono {n : Nat} {l : List (Ex n)} {s : Nat} : ∀ (m k : Nat), k ≤ m → m ≤ l.length → posE s l k ≤ posE s l m
  | 0, k, h, _ => by have e : k = 0 := by omega
                     subst e; exact Nat.le_refl _
  | m + 1, k, h, hm => by
    by_cases e : k = m + 1
    · subst e; exact Nat.le_refl _
    · have ih := pos_mono (l := l) (s := s) m k (by omega) (by omega)
      have hm' : m < l.length := by omega
      have e2 := pos_next (s := s) (List.getElem?_eq_getElem hm')
      omega
/-- A node's own free steps. -/
def NodeF {n : Nat} (t : Ex (n + 1)) (b i j : Nat) : Prop := (kd t = 0 ∧ i = b ∧ j = b + 2 * realN (n + 1) t - 1) ∨
      (kd t = 2 ∧ Cj b (layE (b + 1) (ks t)) (b + 2 * realN (n + 1) t - 1) i j) ∨
      (kd t = 3 ∧ ∃ p ∈ layE (b + 1) (ks t), (i = b ∧ j = p.1) ∨ (i = en p ∧ j = b + 2 * realN (n + 1) t - 1)) ∨
      (kd t = 4 ∧ ∃ p ∈ layE (b + 1) (ks t), (i = b ∧ j = p.1) ∨ (i = b ∧ j = b + 2 * realN (n + 1) t - 1) ∨ (i = en p ∧ j = p.1) ∨ (i = en p ∧ j = b + 2 * realN (n + 1) t - 1)) ∨
      (kd t = 5 ∧ ∃ p ∈ layE (b + 1) (ks t), (i = b ∧ j = p.1) ∨ (i = b ∧ j = b + 2 * realN (n + 1) t - 1) ∨ (i = en p ∧ j = b + 2 * realN (n + 1) t - 1))
theorem fr_node {n : Nat} (t : Ex (n + 1)) (b i j : Nat) : Fr (n + 1) t b i j ↔ (∃ p ∈ layE (b + 1) (ks t), Fr n p.2 p.1 i j) ∨ NodeF t b i j := Iff.rfl
theorem src_cons {n : Nat} (last : Nat) (p : Nat × Ex n) (r : List (Nat × Ex n)) : ∀ m, src last (peE (p :: r)) (m + 1) = src (en p) (peE r) m
  | 0 => rfl
  | _ + 1 => rfl
theorem cj_iff {n : Nat} : ∀ (P : List (Nat × Ex n)) (last e i j : Nat), Cj last P e i j ↔ (∃ m, m < P.length ∧ i = src last (peE P) m ∧ j = pbE P m) ∨ (i = src last (peE P) P.length ∧ j = e)
  | [], last, e, i, j => by
    show (i = last ∧ j = e) ↔ _
    constructor
    · exact .inr
    · rintro (⟨m, h, _⟩ | h)
      · exact absurd h (by simp)
      · exact h
  | p :: r, last, e, i, j => by
    show ((i = last ∧ j = p.1) ∨ Cj (en p) r e i j) ↔ _
    rw [cj_iff r]
    constructor
    · rintro (⟨h1, h2⟩ | ⟨m, h1, h2, h3⟩ | ⟨h1, h2⟩)
      · exact .inl ⟨0, by simp, h1, h2⟩
      · exact .inl ⟨m + 1, by simpa using h1, by rw [src_cons]; exact h2, h3⟩
      · exact .inr ⟨by rw [List.length_cons, src_cons]; exact h1, h2⟩
    · rintro (⟨m, h1, h2, h3⟩ | ⟨h1, h2⟩)
      · cases m with
        | zero => exact .inl ⟨h2, h3⟩
        | succ m => exact .inr (.inl ⟨m, by simpa using h1, by rw [src_cons] at h2; exact h2, h3⟩)
      · exact .inr (.inr ⟨by rw [List.length_cons, src_cons] at h1; exact h1, h2⟩)
theorem some_part {n : Nat} {P : List (Nat × Ex n)} {Q : Nat → Nat → Prop} : (∃ p ∈ P, Q p.1 (en p)) ↔ ∃ m, m < P.length ∧ Q (pbE P m) (peE P m) := by
  constructor
  · rintro ⟨p, hp, h⟩
    obtain ⟨m, hm, e⟩ := List.getElem_of_mem hp
    obtain ⟨e1, e2⟩ := pb_at (P := P) (m := m) (p := p) (by rw [List.getElem?_eq_getElem hm, e])
    exact ⟨m, hm, by rw [e1, e2]; exact h⟩
  · rintro ⟨m, hm, h⟩
    obtain ⟨e1, e2⟩ := pb_at (P := P) (m := m) (List.getElem?_eq_getElem hm)
    exact ⟨P[m], List.getElem_mem hm, by rw [e1, e2] at h; exact h⟩
theorem lay_geo {n : Nat} {t : Ex (n + 1)} (h : full (n + 1) t) (b : Nat) : Geo b (b + 2 * realN (n + 1) t - 1) (ks t).length (pbE (layE (b + 1) (ks t))) (peE (layE (b + 1) (ks t))) := by
  have at_ : ∀ m, m < (ks t).length → ∃ p, p ∈ layE (b + 1) (ks t) ∧ pbE (layE (b + 1) (ks t)) m = p.1 ∧ peE (layE (b + 1) (ks t)) m = en p ∧ p.1 = posE (b + 1) (ks t) m ∧ en p + 1 = posE (b + 1) (ks t) (m + 1) := fun m hm => by
    have e := lay_at (ks t) (b + 1) m _ (List.getElem?_eq_getElem hm)
    obtain ⟨e1, e2⟩ := pb_at e
    have hr := real_pos (h _ (List.getElem_mem hm))
    refine ⟨_, List.mem_of_getElem? e, e1, e2, rfl, ?_⟩
    rw [pos_next (List.getElem?_eq_getElem hm)]
    show posE (b + 1) (ks t) m + 2 * realN n (ks t)[m] - 1 + 1 = posE (b + 1) (ks t) m + 2 * realN n (ks t)[m]
    omega
  refine ⟨fun m hm => ?_, fun m hm => ?_, fun m hm => ?_, fun m m' h1 h2 => ?_⟩
  · obtain ⟨p, hp, e1, e2, _⟩ := at_ m hm
    rw [e1]; exact (lay_in h hp).1
  · obtain ⟨p, hp, e1, e2, _⟩ := at_ m hm
    rw [e1, e2]; exact (lay_in h hp).2.1
  · obtain ⟨p, hp, e1, e2, _⟩ := at_ m hm
    rw [e2]; exact (lay_in h hp).2.2.1
  · obtain ⟨p, hp, e1, e2, e3, e4⟩ := at_ m (by omega)
    obtain ⟨p', hp', f1, f2, f3, f4⟩ := at_ m' h2
    rw [e2, f1, f3]
    have := pos_mono (l := ks t) (s := b + 1) m' (m + 1) (by omega) (by omega)
    omega

theorem steps_any (base q : Nat) (F : Nat → Nat → Prop) (S : Nat → Nat → Nat → Prop) (N : Nat) (rs : List Int) {n : Nat} (t : Ex (n + 1)) (x : Value) (a : Option Addr) (cap b e M : Nat) (w : World) (hB : Bm w base q F S N rs) (hN : N ≤ 10000) (hM : M ≤ 10000) (hFM : ∀ a b, F a b → b < M) (heM : e < M) (heN : e < N)
    (he : b + 2 * realN (n + 1) t - 1 = e) (hf : full (n + 1) t) (hok : okE (kd t) (st t) (ks t).length = true) (hK : (ks t).length ≤ 10000)
    (hFb : ∀ m j, m ≤ (ks t).length → ¬ F (src b (peE (layE (b + 1) (ks t))) m) j) (hS : ∀ s j, ¬ S b s j) (hP : Pts w a (ks t).length (pbE (layE (b + 1) (ks t))) (peE (layE (b + 1) (ks t)))) :
    Calls Tryz.prog 62 #[.pointer (some ⟨q, 0, none⟩), .agg #[.int .u8 (kd t : Nat), .int .u16 (st t : Nat), x], .agg #[.int .i64 b, .int .i64 e], .slice a (ks t).length cap] w fun en w' => en = .returned (.tuple #[]) ∧ Bm w' base q (fun i j => F i j ∨ NodeF t b i j) (fun i s j => S i s j ∨ (kd t = 1 ∧ i = b ∧ s = st t ∧ j = e)) N rs ∧ Kb base w w' := by
  have hg := lay_geo hf b
  have hr := real_pos hf
  have hbe : b < e := by omega
  rw [he] at hg
  have ll := lay_len (ks t) (b + 1)
  rcases ok_kind hok with k | k | k | k | k | k
  · rw [k]
    refine (steps_k0 base q F S N rs (st t) x _ b e M w hB hN hM (by omega) hFM (fun j => hFb 0 j (by omega))).mono ?_
    rintro en w' ⟨rfl, h1, h2⟩
    refine ⟨rfl, bm_congr h1 (fun i j => ?_) (fun i s j => ?_), h2⟩
    · unfold NodeF; rw [k, he]; simp
    · simp
  · rw [k]
    refine (steps_k1 base q F S N rs (st t) x _ b e w hB hN (by omega) hS).mono ?_
    rintro en w' ⟨rfl, h1, h2⟩
    refine ⟨rfl, bm_congr h1 (fun i j => ?_) (fun i s j => ?_), h2⟩
    · unfold NodeF; rw [k]; simp
    · simp
  · rw [k]
    refine (steps_k2 base q F S N rs (st t) x a _ cap b e M _ _ w hB hN hM hFM heM heN hbe hK hg hFb hP).mono ?_
    rintro en w' ⟨rfl, h1, h2⟩
    refine ⟨rfl, bm_congr h1 (fun i j => ?_) (fun i s j => ?_), h2⟩
    · unfold NodeF; rw [k, he, cj_iff, ll]; simp
    · simp
  · rw [k]
    refine (steps_k3 base q F S N rs (st t) x a _ cap b e M _ _ w hB hN hM hFM heM heN hbe hK hg hFb hP).mono ?_
    rintro en w' ⟨rfl, h1, h2⟩
    refine ⟨rfl, bm_congr h1 (fun i j => ?_) (fun i s j => ?_), h2⟩
    · unfold NodeF
      rw [k, he, some_part (P := layE (b + 1) (ks t)) (Q := fun x y => (i = b ∧ j = x) ∨ (i = y ∧ j = e)), ll]; simp
    · simp
  · have hl := ok_one hok (.inl k)
    rw [k]
    rw [hl] at hg hFb hP ll ⊢
    refine (steps_k4 base q F S N rs (st t) x a cap b e M _ _ w hB hN hM hFM heM heN hbe hg hFb hP).mono ?_
    rintro en w' ⟨rfl, h1, h2⟩
    refine ⟨rfl, bm_congr h1 (fun i j => ?_) (fun i s j => ?_), h2⟩
    · unfold NodeF
      rw [k, he, some_part (P := layE (b + 1) (ks t)) (Q := fun x y => (i = b ∧ j = x) ∨ (i = b ∧ j = e) ∨ (i = y ∧ j = x) ∨ (i = y ∧ j = e)), ll]
      constructor
      · rintro ((((h | h) | h) | h) | h)
        · exact .inl h
        · exact .inr (.inr (.inr (.inr (.inl ⟨rfl, 0, by omega, .inr (.inr (.inl h))⟩))))
        · exact .inr (.inr (.inr (.inr (.inl ⟨rfl, 0, by omega, .inl h⟩))))
        · exact .inr (.inr (.inr (.inr (.inl ⟨rfl, 0, by omega, .inr (.inl h)⟩))))
        · exact .inr (.inr (.inr (.inr (.inl ⟨rfl, 0, by omega, .inr (.inr (.inr h))⟩))))
      · rintro (h | ⟨h, _⟩ | ⟨h, _⟩ | ⟨h, _⟩ | ⟨_, m, hm, h⟩ | ⟨h, _⟩)
        · exact .inl (.inl (.inl (.inl h)))
        · omega
        · omega
        · omega
        · obtain rfl : m = 0 := by omega
          rcases h with h | h | h | h
          · exact .inl (.inl (.inr h))
          · exact .inl (.inr h)
          · exact .inl (.inl (.inl (.inr h)))
          · exact .inr h
        · omega
    · simp
  · have hl := ok_one hok (.inr k)
    rw [k]
    rw [hl] at hg hFb hP ll ⊢
    refine (steps_k5 base q F S N rs (st t) x a cap b e M _ _ w hB hN hM hFM heM heN hbe hg hFb hP).mono ?_
    rintro en w' ⟨rfl, h1, h2⟩
    refine ⟨rfl, bm_congr h1 (fun i j => ?_) (fun i s j => ?_), h2⟩
    · unfold NodeF
      rw [k, he, some_part (P := layE (b + 1) (ks t)) (Q := fun x y => (i = b ∧ j = x) ∨ (i = b ∧ j = e) ∨ (i = y ∧ j = e)), ll]
      constructor
      · rintro (((h | h) | h) | h)
        · exact .inl h
        · exact .inr (.inr (.inr (.inr (.inr ⟨rfl, 0, by omega, .inl h⟩))))
        · exact .inr (.inr (.inr (.inr (.inr ⟨rfl, 0, by omega, .inr (.inl h)⟩))))
        · exact .inr (.inr (.inr (.inr (.inr ⟨rfl, 0, by omega, .inr (.inr h)⟩))))
      · rintro (h | ⟨h, _⟩ | ⟨h, _⟩ | ⟨h, _⟩ | ⟨h, _⟩ | ⟨_, m, hm, h⟩)
        · exact .inl (.inl (.inl h))
        · omega
        · omega
        · omega
        · omega
        · obtain rfl : m = 0 := by omega
          rcases h with h | h | h
          · exact .inl (.inl (.inr h))
          · exact .inl (.inr h)
          · exact .inr h
    · simp
end Go.Proofs.YtccaknabpnpjaaaGreatDoor.A

/- The program's builder: rows of parts; what stays behind a store elsewhere. -/
namespace Go.Proofs.YtccaknabpnpjaaaGreatDoor.A
open Go.RowKit

theorem bv_grown {w w' : World} {base q : Nat} {v0 v1 v2 v3 : Value} {vf : List Value} {ff : List (List Int)} {ss : List Nat} {ts rs : List Int} {r : Option Nat} (h : Bv w base q v0 v1 v2 v3 vf ff ss ts rs) (hg : w.grownBy w' r) (hr : ∀ k, r = some k → ∃ cs fr, w.heap[k]? = some (.cells cs 89 fr)) : Bv w' base q v0 v1 v2 v3 vf ff ss ts rs := by
  have mv : ∀ {e : TypeId} {v : Value} {n : Nat} {xs : List Value}, w.ownsRow base e 1 v n xs → e ≠ 89 → w'.ownsRow base e 1 v n xs := fun hv he => own_move hv (fun k hk => hg.block k (own_type hv hk).2.1 (fun e => by
    obtain ⟨cs, fr, hc⟩ := hr k e.symm
    exact own_not hv hc he hk))
  have hq : q < w.heap.size := (Array.getElem?_eq_some_iff.1 h.blk).1
  refine ⟨(hg.block q hq (fun e => ?_)).trans h.blk, h.low, mv h.o0 (by decide), mv h.o1 (by decide), mv h.o2 (by decide), mv h.o3 (by decide), h.len, fun i v l a b => mv (h.rows i v l a b) (by decide), h.ap⟩
  obtain ⟨cs, fr, hc⟩ := hr q e.symm
  have := h.blk
  rw [hc] at this
  cases this
theorem bm_grown {w w' : World} {base q N : Nat} {F : Nat → Nat → Prop} {S : Nat → Nat → Nat → Prop} {rs : List Int} {r : Option Nat} (h : Bm w base q F S N rs) (hg : w.grownBy w' r) (hr : ∀ k, r = some k → ∃ cs fr, w.heap[k]? = some (.cells cs 89 fr)) : Bm w' base q F S N rs := by
  obtain ⟨ff, ss, ts, ⟨v0, v1, v2, v3, vf, h1⟩, h2, h3⟩ := h
  exact ⟨ff, ss, ts, ⟨v0, v1, v2, v3, vf, bv_grown h1 hg hr⟩, h2, h3⟩
theorem kb_grown {base : Nat} {W w w' : World} {r : Option Nat} (h : Kb base W w) (hg : w.grownBy w' r) (hr : ∀ k, r = some k → W.heap.size ≤ k) : Kb base W w' :=
  ⟨hg.os.trans h.os, hg.tape.trans h.tape, hg.output.trans h.output, Nat.le_trans h.size hg.size, fun k hk hf => (hg.block k (Nat.lt_of_lt_of_le hk h.size) (fun e => by have := hr k e.symm; omega)).trans (h.block k hk hf)⟩
theorem own_kb {base H : Nat} {w w' : World} {v : Value} {n : Nat} {xs : List Value} (h : w.ownsRow H 89 2 v n xs) (hk : Kb base w w') : w'.ownsRow H 89 2 v n xs :=
  own_move h (fun k hk' => by
    obtain ⟨_, hlt, cs, hc⟩ := own_type h hk'
    exact hk.block k hlt (far60 hc))
/-- The cells of the first parts. -/
def prC {n : Nat} (P : List (Nat × Ex n)) (k : Nat) : List Value := (P.take k).flatMap fun p => [.int .i64 (p.1 : Int), .int .i64 (en p : Int)]
theorem prC_next {n : Nat} {P : List (Nat × Ex n)} {k : Nat} {p : Nat × Ex n} (h : P[k]? = some p) : prC P (k + 1) = prC P k ++ [.int .i64 (p.1 : Int), .int .i64 (en p : Int)] := by
  unfold prC; rw [take_at h]; simp
theorem flat_at {α : Type} (f g : α → Value) : ∀ (l : List α) (m : Nat) (x : α), l[m]? = some x → (l.flatMap fun p => [f p, g p])[m * 2]? = some (f x) ∧ (l.flatMap fun p => [f p, g p])[m * 2 + 1]? = some (g x)
  | [], _, _, h => by simp at h
  | y :: r, 0, x, h => by
    have e : y = x := by simpa using h
    subst e; simp
  | y :: r, m + 1, x, h => by
    obtain ⟨h1, h2⟩ := flat_at f g r m x (by simpa using h)
    rw [List.flatMap_cons, show (m + 1) * 2 = m * 2 + 1 + 1 by omega]
    exact ⟨by simpa using h1, by simpa using h2⟩
theorem pts_own {n : Nat} {w : World} {H K : Nat} {v : Value} {P : List (Nat × Ex n)} (h : w.ownsRow H 89 2 v K (prC P K)) (hK : P.length = K) : ∃ a cap, v = .slice a K cap ∧ Pts w a K (pbE P) (peE P) := by
  obtain ⟨hl, ⟨rfl, rfl⟩ | ⟨g, cap, cur, rfl, hb, hg, r⟩⟩ := id h
  · exact ⟨none, 0, rfl, fun m hm => absurd hm (by omega)⟩
  · refine ⟨_, cap, rfl, fun m hm => ⟨g, 0, cur, rfl, hg, ?_⟩⟩
    have e : P[m]? = some P[m] := List.getElem?_eq_getElem (by omega)
    obtain ⟨e1, e2⟩ := pb_at e
    obtain ⟨f1, f2⟩ := flat_at (fun p : Nat × Ex n => Value.int .i64 (p.1 : Int)) (fun p => Value.int .i64 (en p : Int)) P m _ e
    have ep : prC P K = P.flatMap fun p => [.int .i64 (p.1 : Int), .int .i64 (en p : Int)] := by
      unfold prC; rw [List.take_of_length_le (by omega)]
    rw [Nat.zero_add, h.cellAt (m * 2) (by omega), h.cellAt (m * 2 + 1) (by omega), ep, f1, f2, e1, e2]
    exact ⟨rfl, rfl⟩
theorem info89 : (Tryz.prog.info? 89).map (fun i => (i.zero, i.size, i.bytes)) = some (some (.agg #[.int .i64 0, .int .i64 0]), 2, 16) := by kernel_rfl
theorem two_new (w : World) (x y : Value) (t : TypeId) : ∀ j u, [x, y][j]? = some u → (w.alloc (.cells #[x, y] t)).cell? ((⟨w.heap.size, 0, none⟩ : Addr).add j) = some u := World.news_of_block (cs := #[x, y]) (heap_alloc_last w _)

/-- Where the steps of the first parts lie. -/
theorem take_rng {n : Nat} {l : List (Ex n)} {s k : Nat} (hf : ∀ x ∈ l, full n x) (hk : k ≤ l.length) {p : Nat × Ex n} (hp : p ∈ (layE s l).take k) : s ≤ p.1 ∧ p.1 + 2 * realN n p.2 ≤ posE s l k ∧ full n p.2 ∧ 1 ≤ realN n p.2 := by
  obtain ⟨m, hm, e⟩ := List.getElem_of_mem hp
  have hm' : m < k ∧ m < (layE s l).length := by rw [List.length_take] at hm; omega
  have hml : m < l.length := by rw [← lay_len l s]; exact hm'.2
  have e2 := lay_at l s m _ (List.getElem?_eq_getElem hml)
  have e3 : (layE s l)[m]? = some p := by rw [← e, List.getElem_take]; exact List.getElem?_eq_getElem hm'.2
  rw [e3] at e2
  obtain rfl : p = (posE s l m, l[m]) := Option.some.inj e2
  have h1 := pos_next (s := s) (List.getElem?_eq_getElem hml)
  have h2 := pos_mono (l := l) (s := s) k (m + 1) (by omega) hk
  refine ⟨by show s ≤ posE s l m; unfold posE; omega, by show posE s l m + 2 * realN n l[m] ≤ _; omega, hf _ (List.getElem_mem hml), real_pos (hf _ (List.getElem_mem hml))⟩
def FK {n : Nat} (F : Nat → Nat → Prop) (s : Nat) (l : List (Ex n)) (k i j : Nat) : Prop := F i j ∨ ∃ p ∈ (layE s l).take k, Fr n p.2 p.1 i j
def SK {n : Nat} (S : Nat → Nat → Nat → Prop) (s : Nat) (l : List (Ex n)) (k i u j : Nat) : Prop := S i u j ∨ ∃ p ∈ (layE s l).take k, Sp n p.2 p.1 i u j
theorem fk_rng {n : Nat} {F : Nat → Nat → Prop} {l : List (Ex n)} {N s k : Nat} (hs : N ≤ s) (hF : ∀ i j, F i j → i < N ∧ j < N) (hf : ∀ x ∈ l, full n x) (hk : k ≤ l.length) (i j : Nat) (h : FK F s l k i j) : i < posE s l k ∧ j < posE s l k := by
  rcases h with h | ⟨p, hp, h⟩
  · have := hF i j h; unfold posE; omega
  · obtain ⟨a1, a2, a3, a4⟩ := take_rng hf hk hp
    have := fr_rng n p.2 p.1 i j a3 h
    omega
theorem sk_rng {n : Nat} {S : Nat → Nat → Nat → Prop} {l : List (Ex n)} {N s k : Nat} (hs : N ≤ s) (hS : ∀ i u j, S i u j → i < N) (hf : ∀ x ∈ l, full n x) (hk : k ≤ l.length) (i u j : Nat) (h : SK S s l k i u j) : i < posE s l k := by
  rcases h with h | ⟨p, hp, h⟩
  · have := hS i u j h; unfold posE; omega
  · obtain ⟨a1, a2, a3, a4⟩ := take_rng hf hk hp
    have := sp_rng n p.2 p.1 i u j a3 h
    omega
theorem fk_next {n : Nat} {F : Nat → Nat → Prop} {l : List (Ex n)} {s k : Nat} {x : Ex n} (hx : l[k]? = some x) (i j : Nat) : (FK F s l k i j ∨ Fr n x (posE s l k) i j) ↔ FK F s l (k + 1) i j := by
  unfold FK
  rw [take_at (lay_at l s k x hx)]
  constructor
  · rintro ((h | ⟨p, hp, h⟩) | h)
    · exact .inl h
    · exact .inr ⟨p, by simp [hp], h⟩
    · exact .inr ⟨(posE s l k, x), by simp, h⟩
  · rintro (h | ⟨p, hp, h⟩)
    · exact .inl (.inl h)
    · rcases List.mem_append.1 hp with hp | hp
      · exact .inl (.inr ⟨p, hp, h⟩)
      · rw [List.mem_singleton] at hp; subst hp; exact .inr h
theorem sk_next {n : Nat} {S : Nat → Nat → Nat → Prop} {l : List (Ex n)} {s k : Nat} {x : Ex n} (hx : l[k]? = some x) (i u j : Nat) : (SK S s l k i u j ∨ Sp n x (posE s l k) i u j) ↔ SK S s l (k + 1) i u j := by
  unfold SK
  rw [take_at (lay_at l s k x hx)]
  constructor
  · rintro ((h | ⟨p, hp, h⟩) | h)
    · exact .inl h
    · exact .inr ⟨p, by simp [hp], h⟩
    · exact .inr ⟨(posE s l k, x), by simp, h⟩
  · rintro (h | ⟨p, hp, h⟩)
    · exact .inl (.inl h)
    · rcases List.mem_append.1 hp with hp | hp
      · exact .inl (.inr ⟨p, hp, h⟩)
      · rw [List.mem_singleton] at hp; subst hp; exact .inr h
theorem fk_zero {n : Nat} {F : Nat → Nat → Prop} {l : List (Ex n)} {s : Nat} (i j : Nat) : F i j ↔ FK F s l 0 i j := ⟨.inl, fun h => h.elim id (fun ⟨_, hp, _⟩ => by simp at hp)⟩
theorem sk_zero {n : Nat} {S : Nat → Nat → Nat → Prop} {l : List (Ex n)} {s : Nat} (i u j : Nat) : S i u j ↔ SK S s l 0 i u j := ⟨.inl, fun h => h.elim id (fun ⟨_, hp, _⟩ => by simp at hp)⟩
/-- Behind all parts no step leaves the node's first state, nor the last one of a part. -/
theorem fk_src {n : Nat} {F : Nat → Nat → Prop} {t : Ex (n + 1)} {N : Nat} (hF : ∀ i j, F i j → i < N ∧ j < N) (hf : full (n + 1) t) (m j : Nat) (hm : m ≤ (ks t).length) : ¬ FK F (N + 1) (ks t) (ks t).length (src N (peE (layE (N + 1) (ks t))) m) j := by
  have hg := lay_geo hf N
  rintro (h | ⟨p, hp, h⟩)
  · have h1 := (hF _ _ h).1
    cases m with
    | zero => exact absurd h1 (by show ¬ N < N; omega)
    | succ m =>
      have h2 : peE (layE (N + 1) (ks t)) m < N := h1
      have := hg.lo m (by omega); have := hg.mid m (by omega); omega
  · have hp0 := List.mem_of_mem_take hp
    obtain ⟨a1, a2, a3, a4, _, _⟩ := lay_in hf hp0
    have hr := fr_rng n p.2 p.1 _ _ a4 h
    cases m with
    | zero => have h2 : p.1 ≤ N := hr.1; omega
    | succ m =>
      have e := lay_at (ks t) (N + 1) m _ (List.getElem?_eq_getElem (show m < (ks t).length by omega))
      obtain ⟨_, e2⟩ := pb_at e
      have hp' := List.mem_of_getElem? e
      have hr1 : p.1 ≤ peE (layE (N + 1) (ks t)) m := hr.1
      have hr2 : peE (layE (N + 1) (ks t)) m < p.1 + 2 * realN n p.2 - 1 := hr.2.1
      rw [e2] at hr1 hr2
      have b := lay_in hf hp'
      have := lay_uniq (ks t) (N + 1) (en (posE (N + 1) (ks t) m, (ks t)[m])) p _ hf hp0 hp' hr1 (by unfold en at hr2 ⊢; omega) b.2.1 (Nat.le_refl _)
      rw [← this] at hr2
      have h3 : en p < en p := hr2
      omega
theorem sk_here {n : Nat} {S : Nat → Nat → Nat → Prop} {t : Ex (n + 1)} {N : Nat} (hS : ∀ i u j, S i u j → i < N) (hf : full (n + 1) t) (u j : Nat) : ¬ SK S (N + 1) (ks t) (ks t).length N u j := by
  rintro (h | ⟨p, hp, h⟩)
  · have := hS _ _ _ h; omega
  · obtain ⟨a1, a2, a3, a4⟩ := take_rng (l := ks t) hf (Nat.le_refl _) hp
    have := sp_rng n p.2 p.1 N u j a3 h
    omega
end Go.Proofs.YtccaknabpnpjaaaGreatDoor.A

/- The program's builder: the states and steps of an expression. -/
namespace Go.Proofs.YtccaknabpnpjaaaGreatDoor.A
open Go.RowKit

theorem blk60 {w : World} {g : Nat} {x y : Value} (h : w.heap[g]? = some (.cells #[x, y] 89 (0, 0))) : (w.cell? ⟨g, 0, none⟩ = some x ∧ w.cell? ⟨g, 1, none⟩ = some y) ∧ ∀ i, w.frozen? ⟨g, i, none⟩ = false := by
  refine ⟨⟨?_, ?_⟩, fun i => ?_⟩
  · rw [cell_of_row _ _ _ _ _ _ h]; rfl
  · rw [cell_of_row _ _ _ _ _ _ h]; rfl
  · simp [World.frozen?, h]
theorem blk51 {w : World} {g : Nat} {x y z : Value} (h : w.heap[g]? = some (.cells #[x, y, z] 38 (0, 0))) : w.cell? ⟨g, 0, none⟩ = some x ∧ w.cell? ⟨g, 1, none⟩ = some y ∧ w.cell? ⟨g, 2, none⟩ = some z := by
  refine ⟨?_, ?_, ?_⟩
  · rw [cell_of_row _ _ _ _ _ _ h]; rfl
  · rw [cell_of_row _ _ _ _ _ _ h]; rfl
  · rw [cell_of_row _ _ _ _ _ _ h]; rfl
theorem kb60 {base : Nat} {w w' : World} {g : Nat} {cs : Array Value} (hk : Kb base w w') (h : w.heap[g]? = some (.cells cs 89 (0, 0))) : w'.heap[g]? = some (.cells cs 89 (0, 0)) := (hk.block g (Array.getElem?_eq_some_iff.1 h).1 (far60 h)).trans h
theorem kb51 {base : Nat} {w w' : World} {g : Nat} {cs : Array Value} (hk : Kb base w w') (h : w.heap[g]? = some (.cells cs 38 (0, 0))) : w'.heap[g]? = some (.cells cs 38 (0, 0)) := (hk.block g (Array.getElem?_eq_some_iff.1 h).1 (far51 h)).trans h
theorem rep_next (rs : List Int) {a N k : Nat} (h : N ≤ a) : (rs ++ List.replicate (a - N) (-1)) ++ List.replicate k (-1) = rs ++ List.replicate (a + k - N) (-1) := by
  rw [List.append_assoc, List.replicate_append_replicate, show a - N + k = a + k - N by omega]

theorem len_real {n : Nat} : ∀ (l : List (Ex n)), (∀ x ∈ l, full n x) → l.length ≤ (l.map (fun x => realN n x)).sum
  | [], _ => by simp
  | x :: r, h => by
    have h1 := real_pos (h x (by simp))
    have h2 := len_real r (fun y hy => h y (by simp [hy]))
    rw [List.map_cons, List.sum_cons, List.length_cons]
    omega
theorem expr_boxes {w : World} {base q N : Nat} {F : Nat → Nat → Prop} {S : Nat → Nat → Nat → Prop} {rs : List Int} (hB : Bm w base q F S N rs) (kk ss : Nat) (x : Value) :
    ((w.alloc (.cells #[.int .u8 kk, .int .u16 ss, x] 38)).alloc (.cells #[.int .i64 0, .int .i64 0] 89)).heap[w.heap.size]? = some (.cells #[.int .u8 kk, .int .u16 ss, x] 38 (0, 0)) ∧ ((w.alloc (.cells #[.int .u8 kk, .int .u16 ss, x] 38)).alloc (.cells #[.int .i64 0, .int .i64 0] 89)).heap[w.heap.size + 1]? = some (.cells #[.int .i64 0, .int .i64 0] 89 (0, 0)) ∧
      Below w.heap.size w ((w.alloc (.cells #[.int .u8 kk, .int .u16 ss, x] 38)).alloc (.cells #[.int .i64 0, .int .i64 0] 89)) ∧ Bm ((w.alloc (.cells #[.int .u8 kk, .int .u16 ss, x] 38)).alloc (.cells #[.int .i64 0, .int .i64 0] 89)) base q F S N rs ∧ ((w.alloc (.cells #[.int .u8 kk, .int .u16 ss, x] 38)).alloc (.cells #[.int .i64 0, .int .i64 0] 89)).heap.size = w.heap.size + 2 := by
  have hb := ((Below.refl w.heap.size w).alloc (Nat.le_refl _) (.cells #[.int .u8 kk, .int .u16 ss, x] 38)).alloc (by simp) (.cells #[.int .i64 0, .int .i64 0] 89)
  have e := heap_alloc_last (w.alloc (.cells #[.int .u8 kk, .int .u16 ss, x] 38)) (.cells #[.int .i64 0, .int .i64 0] 89)
  rw [show (w.alloc (.cells #[.int .u8 kk, .int .u16 ss, x] 38)).heap.size = w.heap.size + 1 by simp] at e
  exact ⟨by rw [Below.heap_alloc _ _ _ (by simp)]; exact heap_alloc_last w _, e, hb, bm_below hb hB, by simp⟩

set_option maxRecDepth 100000 in
set_option maxHeartbeats 6400000 in
theorem expr_any (base q : Nat) (w0 : World) (h0 : w0.heap.size ≤ base) : ∀ (n : Nat) (t : Ex n) (v : Value) (F : Nat → Nat → Prop) (S : Nat → Nat → Nat → Prop) (N : Nat) (rs : List Int) (w : World), Rx w0 n t v → Below w0.heap.size w0 w → shapesE n t = true → N + 2 * realN n t ≤ 9999 → (∀ i j, F i j → i < N ∧ j < N) → (∀ i s j, S i s j → i < N) → Bm w base q F S N rs →
    Calls Tryz.prog 42 #[.pointer (some ⟨q, 0, none⟩), v] w fun e w' => e = .returned (.agg #[.int .i64 N, .int .i64 (N + 2 * realN n t - 1 : Nat)]) ∧ Bm w' base q (fun i j => F i j ∨ Fr n t N i j) (fun i s j => S i s j ∨ Sp n t N i s j) (N + 2 * realN n t) (rs ++ List.replicate (2 * realN n t) (-1)) ∧ Kb base w w' := by
  intro n
  obtain ⟨i60, hi60, hz60, hs60, hy60⟩ := info_parts info89
  induction n with
  | zero => intro t v F S N rs w h; exact h.elim
  | succ n ih =>
    intro t v F S N rs w h hb0 hsh hle hF hS hB
    have hful := rx_full (n + 1) t v h
    obtain ⟨a, len, cap, rfl, hkd, hst, hl, h6, hkids⟩ := rx_open h
    obtain ⟨hok, hksh⟩ := shapes_open hsh
    have hre := real_eq t
    have hpa := pos_all (ks t) (N + 1)
    have hlr := len_real (ks t) hful
    have hlen : len ≤ 5000 := by omega
    have H := hide (expr_boxes hB (kd t) (st t) (.slice a len cap))
    have HBS := hide (bm_lt hB)
    have HB0 := hide (hb0.trans (H.out.2.2.1.mono hb0.size))
    have HF := hide hF
    have HS := hide hS
    have HFUL := hide hful
    have HK := hide hkids
    have HOK := hide hok
    have HKS := hide hksh
    have HRE := hide hre
    have HPA := hide hpa
    have HLE := hide hle
    have HL6 := hide h6
    have HSB := hide (show base ≤ w.heap.size by have := bm_lt hB; omega)
    clear hB hb0 hF hS hful hkids h hsh hok hksh hlr
    unfold maxLen at hl
    go_enter Tryz.func42, Tryz.ntmps42
    go_wp2_with fail
    generalize (w.alloc (.cells #[.int .u8 (kd t : Nat), .int .u16 (st t : Nat), .slice a len cap] 38)).alloc (.cells #[.int .i64 0, .int .i64 0] 89) = W at *
    generalize hQ : w.heap.size = P at *
    refine (state_m base q F S N rs W H.out.2.2.2.1 (by omega) (fun j hj => by have := HF.out N j hj; omega) (fun s j hj => by have := HS.out N s j hj; omega)).mono ?_
    rintro e w1 ⟨rfl, hbm1, hk1⟩
    have HBM1 := hide hbm1
    have HK1 := hide hk1
    obtain ⟨-, -, d2⟩ := blk51 (kb51 hk1 H.out.1)
    clear hbm1 hk1 hre hpa hle h6
    go_wp2_with fail
    go_loopw [6, 8, 15] (fun vk _ i wr => ∃ (k : Nat), k ≤ len ∧ i = .int .i64 k ∧ wr.ownsRow W.heap.size 89 2 vk k (prC (layE (N + 1) (ks t)) k) ∧ Bm wr base q (FK F (N + 1) (ks t) k) (SK S (N + 1) (ks t) k) (posE (N + 1) (ks t) k) (rs ++ List.replicate (posE (N + 1) (ks t) k - N) (-1)) ∧ Kb base W wr) (fun _ _ i _ => len - (intOf i).toNat)
    case atStart => exact ⟨0, Nat.zero_le _, rfl, World.ownsRow_nil _ _ _ _, by
      have := bm_congr HBM1.out (fun i j => fk_zero (n := n) (l := ks t) (s := N + 1) i j) (fun i u j => sk_zero (n := n) (l := ks t) (s := N + 1) i u j)
      have e : posE (N + 1) (ks t) 0 = N + 1 := by simp [posE]
      rw [e, show N + 1 - N = 1 by omega]
      exact this, HK1.out⟩
    case round =>
      obtain ⟨k, hk, rfl, hown, hbm, hkb⟩ := hrel
      have HOWN := hide hown
      have HBM := hide hbm
      have HKB := hide hkb
      clear hown hbm hkb d2
      have HB1 := hide (show Below w0.heap.size w0 wr from HB0.out.trans ((HKB.out.below (by have := H.out.2.2.2.2; have := HSB.out; omega)).mono h0))
      by_cases hlt : k < len
      · obtain ⟨x, b, off, c0, c1, c2, rfl, hx, m0, m1, m2, m3⟩ := HK.out wr HB1.out k hlt
        obtain ⟨x', b', off', c0', c1', c2', eb, hx', m0', m1', m2', m3'⟩ := HK.out w0 (Below.refl _ _) k hlt
        obtain rfl : x = x' := Option.some.inj (hx.symm.trans hx')
        cases eb
        have e0 : c0' = c0 := Option.some.inj (((HB1.out.cell (p := ⟨b, off + k * 3, none⟩) (cell_lt m0')).trans m0').symm.trans m0)
        have e1 : c1' = c1 := Option.some.inj (((HB1.out.cell (p := ⟨b, off + k * 3 + 1, none⟩) (cell_lt m1')).trans m1').symm.trans m1)
        have e2 : c2' = c2 := Option.some.inj (((HB1.out.cell (p := ⟨b, off + k * 3 + 2, none⟩) (cell_lt m2')).trans m2').symm.trans m2)
        subst e0; subst e1; subst e2
        obtain ⟨kx, sx, ax, lx, cx, rfl, rfl, rfl⟩ := rx_cells m3'
        have HX3 := hide m3'
        have HXX := hide hx
        have i3 : (0 : Int) ≤ (k : Int) := by omega
        have i4 : (k : Int) < (len : Int) := by omega
        have hmx := List.mem_of_getElem? hx
        have HMX := hide hmx
        have hpn := pos_next (s := N + 1) hx
        have hpm := pos_mono (l := ks t) (s := N + 1) (ks t).length (k + 1) (by have := HL6.out; omega) (Nat.le_refl _)
        have hbound : posE (N + 1) (ks t) k + 2 * realN n x ≤ N + 2 * realN (n + 1) t := by have := HPA.out; have := HRE.out; omega
        have hrx := real_pos (HFUL.out x hmx)
        have hgeN : N + 1 ≤ posE (N + 1) (ks t) k := by unfold posE; omega
        have HPN := hide hpn
        have HBD := hide hbound
        have HGE := hide hgeN
        have HBA := hide (bm_below ((Below.refl _ _).alloc (Nat.le_refl _) (.cells #[.int .u8 kx, .int .u16 sx, .slice ax lx cx] 38)) HBM.out)
        have HBB := hide (HB1.out.alloc HB1.out.size (.cells #[.int .u8 kx, .int .u16 sx, .slice ax lx cx] 38))
        have HRX := hide hrx
        have HPRC := hide (show prC (layE (N + 1) (ks t)) (k + 1) = prC (layE (N + 1) (ks t)) k ++ [.int .i64 (posE (N + 1) (ks t) k : Nat), .int .i64 (posE (N + 1) (ks t) k + 2 * realN n x - 1 : Nat)] from prC_next (lay_at (ks t) (N + 1) k x hx))
        have HFN := hide (fun i j => fk_next (F := F) (s := N + 1) hx i j)
        have HSN := hide (fun i u j => sk_next (S := S) (s := N + 1) hx i u j)
        clear m0' m1' m2' m3' m3 hx hx' hmx hpn hpm hbound hrx hgeN
        go_wp2_with fail
        refine (ih x _ (FK F (N + 1) (ks t) k) (SK S (N + 1) (ks t) k) (posE (N + 1) (ks t) k) _ _ HX3.out HBB.out (HKS.out x HMX.out) (by have := HBD.out; have := HLE.out; omega) (fk_rng (by omega) HF.out HFUL.out (by have := HL6.out; omega)) (sk_rng (by omega) HS.out HFUL.out (by have := HL6.out; omega)) HBA.out).mono ?_
        rintro e w2 ⟨rfl, hbm2, hk2⟩
        have HO2 := hide (own_kb (HOWN.out.alloc (.cells #[.int .u8 kx, .int .u16 sx, .slice ax lx cx] 38)) hk2)
        have HK2 := hide (HKB.out.trans ((kb_alloc (.cells #[.int .u8 kx, .int .u16 sx, .slice ax lx cx] 38)).trans hk2))
        have HBM2 := hide hbm2
        have HPB := hide (show posE (N + 1) (ks t) k ≤ 10000 ∧ posE (N + 1) (ks t) k + 2 * realN n x - 1 ≤ 10000 by have := HBD.out; have := HLE.out; omega)
        have HENQ := hide (show en (posE (N + 1) (ks t) k, x) = posE (N + 1) (ks t) k + 2 * realN n x - 1 from rfl)
        have HWS := hide (show W.heap.size ≤ w2.heap.size from HK2.out.size)
        clear hbm2 hk2 m0 m1 m2
        generalize posE (N + 1) (ks t) k = pk at *
        generalize hek : pk + 2 * realN n x - 1 = ek at *
        go_wp2_with (at_builtin; refine wpList_append_lies _ rfl _ _ 114 rfl W.heap.size 89 i60 (.agg #[.int .i64 0, .int .i64 0]) 2 16 Tryz.underlying114 hi60 hz60 hs60 hy60 rfl (by decide) _ _ _ rfl (HO2.out.alloc _) ⟨_, 0, none⟩ 1 1 [.int .i64 pk, .int .i64 ek] rfl rfl (two_new w2 _ _ _) (fun u hu => by simp only [List.mem_cons, List.not_mem_nil, or_false] at hu; rcases hu with rfl | rfl <;> rfl) (by decide) (by unfold maxLen; omega) (by omega) (by have := HWS.out; simp; omega) _ rfl ?_)
        intro g cap' w3 hown3 hgrow3 hat3 hlt3
        have HO3 := hide (show w3.ownsRow W.heap.size 89 2 (.slice (some ⟨g, 0, none⟩) (k + 1) cap') (k + 1) (prC (layE (N + 1) (ks t)) (k + 1)) from by rw [HPRC.out]; exact hown3)
        have HB3 := hide (bm_grown (bm_below ((Below.refl _ _).alloc (Nat.le_refl _) _) HBM2.out) hgrow3 (fun j hj => by
          obtain ⟨_, _, cs, hc⟩ := own_type (HO2.out.alloc _) hj
          exact ⟨cs, _, hc⟩))
        have HK3 := hide (kb_grown (HK2.out.trans (kb_alloc _)) hgrow3 (fun j hj => (own_type HO2.out hj).1))
        clear hown3 hgrow3 hat3 hlt3
        go_wp2
        go_roundw
        case rel => exact ⟨k + 1, by omega, by go_num, HO3.out, by
          have := bm_congr HB3.out HFN.out HSN.out
          rw [HPN.out, ← rep_next rs (by have := HGE.out; omega)]
          exact this, HK3.out⟩
        case measure => simp [intOf]; omega
      · have e' : k = len := by omega
        subst e'
        obtain ⟨ed, hed⟩ : ∃ ed, N + 2 * realN (n + 1) t - 1 = ed := ⟨_, rfl⟩
        have hpe : posE (N + 1) (ks t) k = ed := by have := HPA.out; have := HRE.out; have := HL6.out; rw [← HL6.out]; omega
        have hr1 := real_pos HFUL.out
        have hedN : N < ed ∧ ed ≤ 9998 := by have := HLE.out; omega
        have HED := hide hed
        have HEN := hide hedN
        have hfr := fk_rng (k := k) (show N ≤ N + 1 by omega) HF.out HFUL.out (by have := HL6.out; omega)
        have hsr := sk_rng (k := k) (show N ≤ N + 1 by omega) HS.out HFUL.out (by have := HL6.out; omega)
        rw [hpe] at HBM hfr hsr
        have HFR := hide hfr
        have HSR := hide hsr
        have hfs := fun m j hm => fk_src (t := t) HF.out HFUL.out m j hm
        have hsh := fun u j => sk_here (t := t) HS.out HFUL.out u j
        rw [HL6.out] at hfs hsh
        have HFS := hide hfs
        have HSH := hide hsh
        clear hed hpe hr1 hedN hfr hsr hfs hsh
        go_wp2_with fail
        refine (state_m base q _ _ ed _ wr HBM.out (by have := HEN.out; omega) (fun j hj => by have := HFR.out ed j hj; omega) (fun s j hj => by have := HSR.out ed s j hj; omega)).mono ?_
        rintro e w2 ⟨rfl, hbm2, hk2⟩
        have HBM2 := hide hbm2
        have HK2 := hide (HKB.out.trans hk2)
        have HO2 := hide (own_kb HOWN.out hk2)
        obtain ⟨d0, d1, d2⟩ := blk51 (kb51 HK2.out H.out.1)
        obtain ⟨av, capv, rfl, hpts⟩ := pts_own HO2.out (by rw [lay_len]; exact HL6.out)
        have HPT := hide (pts_kb (kb_alloc (base := base) (.cells #[.int .i64 N, .int .i64 ed] 89)) hpts)
        have HBMA := hide (bm_below ((Below.refl _ _).alloc (Nat.le_refl _) (.cells #[.int .i64 N, .int .i64 ed] 89)) hbm2)
        have HKA := hide (HK2.out.trans (kb_alloc (.cells #[.int .i64 N, .int .i64 ed] 89)))
        have HP9 := hide (heap_alloc_last w2 (.cells #[.int .i64 N, .int .i64 ed] 89))
        have hlt2 := cell_lt d0
        clear hbm2 hk2 hpts
        go_wp2_with fail
        have st := steps_any base q _ _ (ed + 1) _ t (.slice a k cap) av capv N ed (ed + 1) _ HBMA.out (by have := HEN.out; omega) (by have := HEN.out; omega) (fun a b h => by have := HFR.out a b h; omega) (by omega) (by omega) HED.out HFUL.out HOK.out (by have := HL6.out; omega) (by rw [HL6.out]; exact HFS.out) HSH.out (by rw [HL6.out]; exact HPT.out)
        rw [HL6.out] at st
        refine st.mono ?_
        rintro e w3 ⟨rfl, hbm3, hk3⟩
        have HBM3 := hide hbm3
        have HK3 := hide (HKA.out.trans hk3)
        obtain ⟨⟨s0, s1⟩, -⟩ := blk60 (kb60 hk3 HP9.out)
        have hP1 := kb60 HK3.out H.out.2.1
        obtain ⟨⟨r0, r1⟩, rz⟩ := blk60 hP1
        have f0 := rz 0
        have f1 := rz 1
        have HP1 := hide hP1
        clear hbm3 hk3 d0 d1 d2 rz hP1 st
        have g3 : w3.grownBy ((w3.setCell ⟨P + 1, 0, none⟩ (.int .i64 N)).setCell ⟨P + 1, 1, none⟩ (.int .i64 ed)) (some (P + 1)) := ⟨rfl, rfl, rfl, by simp, fun k _ hk => by rw [Below.heap_setCell _ _ _ _ (fun e => hk (by rw [show k = P + 1 from e])), Below.heap_setCell _ _ _ _ (fun e => hk (by rw [show k = P + 1 from e]))]⟩
        have HWF := hide (blk_set (blk_set HP1.out 0 (.int .i64 N)) 1 (.int .i64 ed))
        have HBF := hide (bm_grown HBM3.out g3 (fun k e => by cases e; exact ⟨_, _, HP1.out⟩))
        have HKF := hide (kb_grown (Kb.trans (show Kb base w W from ⟨H.out.2.2.1.os, H.out.2.2.1.tape, H.out.2.2.1.output, by have := H.out.2.2.2.2; omega, fun k hk _ => H.out.2.2.1.block k (by omega)⟩) HK3.out) g3 (fun k e => by cases e; omega))
        clear g3
        go_wp2
        obtain ⟨⟨m0, m1⟩, -⟩ := blk60 HWF.out
        refine bodyPost_ret (v := .agg #[.int .i64 N, .int .i64 ed]) (by simp [results, Tryz.results42, go_sem, m0, m1]) rfl ?_
        refine ⟨by rw [HED.out], ?_, HKF.out⟩
        have hE := HEN.out
        have hD := HED.out
        have e1 : N + 2 * realN (n + 1) t = ed + 1 := by have := real_pos HFUL.out; omega
        have e2 : 2 * realN (n + 1) t = ed + 1 - N := by omega
        have hB := HBF.out
        rw [show ([-1] : List Int) = List.replicate 1 (-1) from rfl, rep_next rs (by omega)] at hB
        rw [e1, e2]
        have ht : (layE (N + 1) (ks t)).take k = layE (N + 1) (ks t) := List.take_of_length_le (by rw [lay_len]; have := HL6.out; omega)
        refine bm_congr hB (fun i j => ?_) (fun i u j => ?_)
        · rw [fr_node]; unfold FK; rw [ht]; exact or_assoc
        · unfold SK
          rw [ht]
          show ((S i u j ∨ ∃ p ∈ layE (N + 1) (ks t), Sp n p.2 p.1 i u j) ∨ _) ↔ (S i u j ∨ ((kd t = 1 ∧ i = N ∧ u = st t ∧ j = N + 2 * realN (n + 1) t - 1) ∨ ∃ p ∈ layE (N + 1) (ks t), Sp n p.2 p.1 i u j))
          rw [hD]
          constructor
          · rintro ((h | h) | h)
            · exact .inl h
            · exact .inr (.inr h)
            · exact .inr (.inl h)
          · rintro (h | h | h)
            · exact .inl (.inl h)
            · exact .inr h
            · exact .inl (.inr h)
end Go.Proofs.YtccaknabpnpjaaaGreatDoor.A

/- The program's Build: expressions that may not be. -/
namespace Go.Proofs.YtccaknabpnpjaaaGreatDoor.A
open Go.RowKit

set_option maxHeartbeats 800000 in
theorem wrong_any (n : Nat) (x : Ex n) (v : Value) (w : World) (h : Rx w n x v) : Calls Tryz.prog 38 #[v] w fun e w' => e = .returned (.bool (!rightE n x)) ∧ Below w.heap.size w w' := by
  obtain ⟨c0, c1, c2, rfl⟩ := rx_form h
  have HB0 := hide ((Below.refl w.heap.size w).alloc (Nat.le_refl _) (.cells #[c0, c1, c2] 38))
  have HC := hide (right_any n x _ _ (rx_below HB0.out n x _ h))
  clear h
  go_enter Tryz.func38, Tryz.ntmps38
  go_wp2_with fail
  refine HC.out.mono ?_
  rintro e w1 ⟨rfl, hb1⟩
  have HB1 := hide (HB0.out.trans (hb1.mono HB0.out.size))
  clear hb1 HC
  go_wp2
  go_ret
  exact ⟨rfl, HB1.out⟩
set_option maxHeartbeats 1600000 in
theorem indexR_any (n : Nat) (a : Option Addr) (len cap : Nat) (l : List (Ex n)) (w : World) (hl : len ≤ maxLen) (h6 : l.length = len) (hkids : Kids w n a len l) :
    Calls Tryz.prog 61 #[.slice a len cap, .func (.func 38) #[] #[]] w fun e w' => ∃ z : Int, e = .returned (.int .i64 z) ∧ decide (0 ≤ z) = l.any (fun x => !rightE n x) ∧ Below w.heap.size w w' := by
  unfold maxLen at hl
  have HK := hide hkids
  have HL := hide h6
  clear hkids h6
  go_enter Tryz.func61, Tryz.ntmps61
  go_wp2_with fail
  go_loopw [5, 8] (fun _ u wr => ∃ i : Nat, i ≤ len ∧ u = .int .i64 i ∧ (l.take i).any (fun x => !rightE n x) = false ∧ Below w.heap.size w wr) (fun _ u _ => len - (intOf u).toNat)
  case atStart => exact ⟨0, Nat.zero_le _, rfl, rfl, Below.refl _ _⟩
  case round =>
    obtain ⟨i, hi, rfl, hd, hb⟩ := hrel
    have HD := hide hd
    have HBW := hide hb
    clear hd
    by_cases hlt : i < len
    · obtain ⟨x, b, off, c0, c1, c2, rfl, hx, k0, k1, k2, k3⟩ := HK.out wr hb i hlt
      have HN := hide (show (l.take (i + 1)).any (fun x => !rightE n x) = !rightE n x from by rw [take_at hx, List.any_append, HD.out]; simp)
      have HIN := hide (show (!rightE n x) = true → l.any (fun x => !rightE n x) = true from fun g => List.any_eq_true.2 ⟨x, List.mem_of_getElem? hx, g⟩)
      have HK3 := hide k3
      have i3 : (0 : Int) ≤ (i : Int) := by omega
      have i4 : (i : Int) < (len : Int) := by omega
      clear hx k3 hb
      go_wp2_with fail
      refine (wrong_any n x _ wr HK3.out).mono ?_
      rintro e w2 ⟨rfl, hb2⟩
      have HB2 := hide (HBW.out.trans (hb2.mono HBW.out.size))
      clear hb2
      cases hf : (!rightE n x)
      · have HF := hide hf
        clear hf
        go_wp2
        go_roundw
        case rel => exact ⟨i + 1, by omega, by go_num, by rw [HN.out, HF.out], HB2.out⟩
        case measure => simp [intOf]; omega
      · have HF := hide hf
        clear hf
        go_wp2
        go_ret
        exact ⟨(i : Int), rfl, by rw [HIN.out HF.out]; simp, HB2.out⟩
    · have e : i = len := by omega
      subst e
      have HT := hide (show l.take i = l from List.take_of_length_le (by have := HL.out; omega))
      clear hb
      go_wp2
      go_ret
      exact ⟨-1, rfl, by rw [← HT.out, HD.out]; rfl, HBW.out⟩
set_option maxHeartbeats 800000 in
theorem containsR_any (n : Nat) (a : Option Addr) (len cap : Nat) (l : List (Ex n)) (w : World) (hl : len ≤ maxLen) (h6 : l.length = len) (hkids : Kids w n a len l) :
    Calls Tryz.prog 40 #[.slice a len cap, .func (.func 38) #[] #[]] w fun e w' => e = .returned (.bool (l.any (fun x => !rightE n x))) ∧ Below w.heap.size w w' := by
  have HC := hide (indexR_any n a len cap l w hl h6 hkids)
  clear hkids h6
  go_enter Tryz.func40, Tryz.ntmps40
  go_wp2_with fail
  refine HC.out.mono ?_
  rintro e w2 ⟨z, rfl, hz, hb2⟩
  have HB := hide hb2
  clear hb2 HC
  cases hg : l.any (fun x => !rightE n x)
  · have hz' : decide (0 ≤ z) = false := hz.trans hg
    have HG := hide hg
    clear hg hz
    go_wp2
    go_ret
    exact ⟨by rw [HG.out]; rfl, HB.out⟩
  · have hz' : decide (0 ≤ z) = true := hz.trans hg
    have HG := hide hg
    clear hg hz
    go_wp2
    go_ret
    exact ⟨by rw [HG.out]; rfl, HB.out⟩
/-- May there be a machine of expressions? -/
def mayB {n : Nat} (l : List (Ex n)) : Bool := decide (1 ≤ l.length) && (decide (l.length ≤ 16) && l.all (fun x => rightE n x))
theorem kids_below {w w' : World} {n : Nat} {a : Option Addr} {len : Nat} {l : List (Ex n)} (hb : Below w.heap.size w w') (h : Kids w n a len l) : Kids w' n a len l := fun V hV => h V (hb.trans (hV.mono hb.size))
def noM : Value := .tuple #[.agg #[.slice none 0 0, .slice none 0 0, .slice none 0 0, .slice none 0 0], .int .i64 1]
theorem nil4 (w : World) : ((w.alloc (.cells #[.slice none 0 0, .slice none 0 0, .slice none 0 0, .slice none 0 0] 55)).heap[w.heap.size]? = some (.cells #[.slice none 0 0, .slice none 0 0, .slice none 0 0, .slice none 0 0] 55 (0, 0))) := heap_alloc_last w _
theorem blk29 {w : World} {g : Nat} {x y z u : Value} (h : w.heap[g]? = some (.cells #[x, y, z, u] 55 (0, 0))) : (w.cell? ⟨g, 0, none⟩ = some x ∧ w.cell? ⟨g, 1, none⟩ = some y ∧ w.cell? ⟨g, 2, none⟩ = some z ∧ w.cell? ⟨g, 3, none⟩ = some u) ∧ ∀ i, w.frozen? ⟨g, i, none⟩ = false := by
  refine ⟨⟨?_, ?_, ?_, ?_⟩, fun i => ?_⟩
  · rw [cell_of_row _ _ _ _ _ _ h]; rfl
  · rw [cell_of_row _ _ _ _ _ _ h]; rfl
  · rw [cell_of_row _ _ _ _ _ _ h]; rfl
  · rw [cell_of_row _ _ _ _ _ _ h]; rfl
  · simp [World.frozen?, h]
theorem set4 {w : World} {g : Nat} {t : TypeId} {x y z u : Value} {c0 c1 c2 c3 : Value} (h : w.heap[g]? = some (.cells #[c0, c1, c2, c3] t (0, 0))) : ((((w.setCell ⟨g, 0, none⟩ x).setCell ⟨g, 1, none⟩ y).setCell ⟨g, 2, none⟩ z).setCell ⟨g, 3, none⟩ u).heap[g]? = some (.cells #[x, y, z, u] t (0, 0)) := blk_set (blk_set (blk_set (blk_set h 0 x) 1 y) 2 z) 3 u
theorem below_set4 {B : Nat} {w w' : World} {g : Nat} {x y z u : Value} (h : Below B w w') (hg : B ≤ g) : Below B w ((((w'.setCell ⟨g, 0, none⟩ x).setCell ⟨g, 1, none⟩ y).setCell ⟨g, 2, none⟩ z).setCell ⟨g, 3, none⟩ u) := (((h.setCell (p := ⟨g, 0, none⟩) hg x).setCell (p := ⟨g, 1, none⟩) hg y).setCell (p := ⟨g, 2, none⟩) hg z).setCell (p := ⟨g, 3, none⟩) hg u

set_option maxRecDepth 100000 in
set_option maxHeartbeats 1600000 in
theorem build_no (n : Nat) (a : Option Addr) (len cap : Nat) (l : List (Ex n)) (w : World) (hl : len ≤ maxLen) (h6 : l.length = len) (hkids : Kids w n a len l) (hno : mayB l = false) :
    Calls Tryz.prog 19 #[.slice a len cap] w fun e w' => e = .returned noM ∧ Below w.heap.size w w' := by
  have hb0 := ((Below.refl w.heap.size w).alloc (Nat.le_refl _) (.cells #[.slice none 0 0, .slice none 0 0, .slice none 0 0, .slice none 0 0] 55))
  have HB0 := hide hb0
  have HN4 := hide (nil4 w)
  obtain ⟨⟨p0, p1, p2, p3⟩, pz⟩ := blk29 (nil4 w)
  have z0 := pz 0
  have z1 := pz 1
  have z2 := pz 2
  have z3 := pz 3
  have HC := hide (containsR_any n a len cap l _ hl h6 (kids_below hb0 hkids))
  have HNO := hide hno
  have HL := hide h6
  clear hkids h6 hno hb0 pz
  unfold maxLen at hl
  by_cases c1 : len < 1
  · have d1 : decide ((len : Int) < 1) = true := by simp; omega
    clear z0 z1 z2 z3
    go_enter Tryz.func19, Tryz.ntmps19
    go_wp2
    refine bodyPost_ret (v := noM) (by simp [noM, results, Tryz.results19, go_sem, p0, p1, p2, p3]) rfl ?_
    exact ⟨rfl, HB0.out⟩
  have d1 : decide ((len : Int) < 1) = false := by simp; omega
  by_cases c2 : 16 < len
  · have d2 : decide ((16 : Int) < (len : Int)) = true := by simp; omega
    clear z0 z1 z2 z3
    go_enter Tryz.func19, Tryz.ntmps19
    go_wp2
    refine bodyPost_ret (v := noM) (by simp [noM, results, Tryz.results19, go_sem, p0, p1, p2, p3]) rfl ?_
    exact ⟨rfl, HB0.out⟩
  have d2 : decide ((16 : Int) < (len : Int)) = false := by simp; omega
  have HANY := hide (show l.any (fun x => !rightE n x) = true from by
    have h := HNO.out
    unfold mayB at h
    rw [show decide (1 ≤ l.length) = true by have := HL.out; simp; omega, show decide (l.length ≤ 16) = true by have := HL.out; simp; omega, Bool.true_and, Bool.true_and] at h
    rw [List.any_eq_true]
    rw [List.all_eq_false] at h
    obtain ⟨x, hx, h⟩ := h
    exact ⟨x, hx, by simpa using h⟩)
  go_enter Tryz.func19, Tryz.ntmps19
  go_wp2_with fail
  generalize w.alloc (.cells #[.slice none 0 0, .slice none 0 0, .slice none 0 0, .slice none 0 0] 55) = W at *
  refine HC.out.mono ?_
  rintro e w1 ⟨rfl, hb1⟩
  rw [HANY.out]
  have HB1 := hide (HB0.out.trans (hb1.mono HB0.out.size))
  have h1 := (hb1.block w.heap.size (Array.getElem?_eq_some_iff.1 HN4.out).1).trans HN4.out
  have HWF := hide (set4 (x := .slice none 0 0) (y := .slice none 0 0) (z := .slice none 0 0) (u := .slice none 0 0) h1)
  have HBF := hide (below_set4 (x := .slice none 0 0) (y := .slice none 0 0) (z := .slice none 0 0) (u := .slice none 0 0) HB1.out (Nat.le_refl w.heap.size))
  obtain ⟨⟨q0, q1, q2, q3⟩, qz⟩ := blk29 h1
  have y0 := qz 0
  have y1 := qz 1
  have y2 := qz 2
  have y3 := qz 3
  clear hb1 h1 qz p0 p1 p2 p3 z0 z1 z2 z3
  go_wp2
  obtain ⟨⟨m0, m1, m2, m3⟩, -⟩ := blk29 HWF.out
  refine bodyPost_ret (v := noM) (by simp [noM, results, Tryz.results19, go_sem, m0, m1, m2, m3]) rfl ?_
  exact ⟨rfl, HBF.out⟩
end Go.Proofs.YtccaknabpnpjaaaGreatDoor.A

/- The program's Build: the machine of expressions. -/
namespace Go.Proofs.YtccaknabpnpjaaaGreatDoor.A
open Go.RowKit

/-- The steps of the first expressions. -/
def FB {n : Nat} (l : List (Ex n)) (k i j : Nat) : Prop := ∃ p ∈ (layE 1 l).take k, (i = 0 ∧ j = p.1) ∨ Fr n p.2 p.1 i j
def SB {n : Nat} (l : List (Ex n)) (k i u j : Nat) : Prop := ∃ p ∈ (layE 1 l).take k, Sp n p.2 p.1 i u j
/-- The rules of the first expressions. -/
def RsI {n : Nat} (l : List (Ex n)) (k : Nat) (rs : List Int) : Prop := ∀ (i : Nat) (r : Int), rs[i]? = some r → (∃ (m : Nat) (p : Nat × Ex n), m < k ∧ (layE 1 l)[m]? = some p ∧ i = en p ∧ r = (m : Int)) ∨ ((∀ (m : Nat) (p : Nat × Ex n), m < k → (layE 1 l)[m]? = some p → i ≠ en p) ∧ r = -1)
section
variable {n : Nat} {l : List (Ex n)} {k : Nat} {x : Ex n}
theorem fb_rng (hf : ∀ x ∈ l, full n x) (hk : k ≤ l.length) (i j : Nat) (h : FB l k i j) : i < posE 1 l k ∧ j < posE 1 l k := by
  obtain ⟨p, hp, h⟩ := h
  obtain ⟨a1, a2, a3, a4⟩ := take_rng hf hk hp
  rcases h with ⟨rfl, rfl⟩ | h
  · omega
  · have := fr_rng n p.2 p.1 i j a3 h; omega
theorem sb_rng (hf : ∀ x ∈ l, full n x) (hk : k ≤ l.length) (i u j : Nat) (h : SB l k i u j) : i < posE 1 l k := by
  obtain ⟨p, hp, h⟩ := h
  obtain ⟨a1, a2, a3, a4⟩ := take_rng hf hk hp
  have := sp_rng n p.2 p.1 i u j a3 h; omega
theorem fb_next (hx : l[k]? = some x) (i j : Nat) : ((FB l k i j ∨ Fr n x (posE 1 l k) i j) ∨ (i = 0 ∧ j = posE 1 l k)) ↔ FB l (k + 1) i j := by
  unfold FB
  rw [take_at (lay_at l 1 k x hx)]
  constructor
  · rintro ((⟨p, hp, h⟩ | h) | h)
    · exact ⟨p, by simp [hp], h⟩
    · exact ⟨(posE 1 l k, x), by simp, .inr h⟩
    · exact ⟨(posE 1 l k, x), by simp, .inl h⟩
  · rintro ⟨p, hp, h⟩
    rcases List.mem_append.1 hp with hp | hp
    · exact .inl (.inl ⟨p, hp, h⟩)
    · rw [List.mem_singleton] at hp; subst hp
      rcases h with h | h
      · exact .inr h
      · exact .inl (.inr h)
theorem sb_next (hx : l[k]? = some x) (i u j : Nat) : (SB l k i u j ∨ Sp n x (posE 1 l k) i u j) ↔ SB l (k + 1) i u j := by
  unfold SB
  rw [take_at (lay_at l 1 k x hx)]
  constructor
  · rintro (⟨p, hp, h⟩ | h)
    · exact ⟨p, by simp [hp], h⟩
    · exact ⟨(posE 1 l k, x), by simp, h⟩
  · rintro ⟨p, hp, h⟩
    rcases List.mem_append.1 hp with hp | hp
    · exact .inl ⟨p, hp, h⟩
    · rw [List.mem_singleton] at hp; subst hp; exact .inr h
/-- No step leaves the first state for one that isn't ahead. -/
theorem fb_first (hf : ∀ x ∈ l, full n x) (hx : l[k]? = some x) (hfx : full n x) (j : Nat) (h : FB l k 0 j ∨ Fr n x (posE 1 l k) 0 j) : j < posE 1 l k := by
  have hk : k ≤ l.length := by have := (List.getElem?_eq_some_iff.1 hx).1; omega
  rcases h with h | h
  · exact (fb_rng hf hk 0 j h).2
  · have := fr_rng n x _ 0 j hfx h
    unfold posE at this; omega
theorem rs_zero : RsI l 0 [-1] := fun i r h => .inr ⟨fun m p hm => absurd hm (by omega), by
  match i with
  | 0 => simpa using h.symm
  | i + 1 => simp at h⟩
theorem rs_next {rs : List Int} (hf : ∀ x ∈ l, full n x) (hl : rs.length = posE 1 l k) (h : RsI l k rs) (hx : l[k]? = some x) : RsI l (k + 1) ((rs ++ List.replicate (2 * realN n x) (-1)).set (posE 1 l k + 2 * realN n x - 1) (k : Int)) := by
  have hk : k < l.length := (List.getElem?_eq_some_iff.1 hx).1
  have hfx := hf x (List.mem_of_getElem? hx)
  have hr := real_pos hfx
  have lk := lay_at l 1 k x hx
  have hen : en (posE 1 l k, x) = posE 1 l k + 2 * realN n x - 1 := rfl
  have old : ∀ (m : Nat) (p : Nat × Ex n), m < k → (layE 1 l)[m]? = some p → en p < posE 1 l k := fun m p hm hp => by
    have hml : m < l.length := by omega
    have e := lay_at l 1 m _ (List.getElem?_eq_getElem hml)
    rw [hp] at e
    obtain rfl : p = (posE 1 l m, l[m]) := Option.some.inj e
    have h1 := pos_next (s := 1) (List.getElem?_eq_getElem hml)
    have h2 := pos_mono (l := l) (s := 1) k (m + 1) (by omega) (by omega)
    have h3 := real_pos (hf _ (List.getElem_mem hml))
    show posE 1 l m + 2 * realN n l[m] - 1 < posE 1 l k
    omega
  intro i r hi
  by_cases e : i = posE 1 l k + 2 * realN n x - 1
  · rw [e, List.getElem?_set_self (by simp; omega)] at hi
    cases hi
    exact .inl ⟨k, _, by omega, lk, by rw [hen]; exact e, rfl⟩
  · rw [List.getElem?_set_ne (Ne.symm e)] at hi
    by_cases c : i < rs.length
    · rw [List.getElem?_append_left c] at hi
      rcases h i r hi with ⟨m, p, hm, hp, h1, h2⟩ | ⟨h1, h2⟩
      · exact .inl ⟨m, p, by omega, hp, h1, h2⟩
      · refine .inr ⟨fun m p hm hp => ?_, h2⟩
        by_cases q : m = k
        · subst q; rw [lk] at hp; cases hp; rw [hen]; exact e
        · exact h1 m p (by omega) hp
    · rw [List.getElem?_append_right (by omega)] at hi
      have hr' : r = -1 := by
        have := List.mem_of_getElem? hi
        exact List.eq_of_mem_replicate this
      refine .inr ⟨fun m p hm hp => ?_, hr'⟩
      by_cases q : m = k
      · subst q; rw [lk] at hp; cases hp; rw [hen]; exact e
      · have := old m p (by omega) hp; omega
theorem fb_all (i j : Nat) : FB l l.length i j ↔ FrA l i j := by
  unfold FB FrA; rw [List.take_of_length_le (by rw [lay_len]; omega)]
theorem sb_all (i u j : Nat) : SB l l.length i u j ↔ SpA l i u j := by
  unfold SB SpA; rw [List.take_of_length_le (by rw [lay_len]; omega)]
end
/-- A row of sets that one owns, as it is read. -/
theorem own_sts {w : World} {base : Nat} {v : Value} {l : List Nat} (h : w.ownsRow base 36 1 v l.length (l.map fun (s : Nat) => Value.int .u16 (s : Int))) (hs : ∀ s ∈ l, s < 65536) : ∃ a cap, v = .slice a l.length cap ∧ Sts w a l := by
  obtain ⟨_, ⟨rfl, h0⟩ | ⟨g, cap, cur, rfl, hb, hg, r⟩⟩ := id h
  · exact ⟨none, 0, by rw [h0], fun i s hi => by have := (List.getElem?_eq_some_iff.1 hi).1; omega⟩
  · refine ⟨_, cap, rfl, fun i s hi => ⟨g, 0, rfl, ?_, hs s (List.mem_of_getElem? hi)⟩⟩
    rw [Nat.zero_add, h.cellAt i (by have := (List.getElem?_eq_some_iff.1 hi).1; omega), List.getElem?_map, hi]; rfl
theorem own_fs {w : World} {base : Nat} {v : Value} {vf : List Value} {ff : List (List Int)} (h : w.ownsRow base 26 1 v vf.length vf) (hl : vf.length = ff.length) (hr : ∀ (i : Nat) (v : Value) (l : List Int), vf[i]? = some v → ff[i]? = some l → w.ownsRow base 3 1 v l.length (l.map (Value.int .i64))) : ∃ a cap, v = .slice a ff.length cap ∧ Fs w a ff := by
  obtain ⟨_, ⟨rfl, h0⟩ | ⟨g, cap, cur, rfl, hb, hg, r⟩⟩ := id h
  · exact ⟨none, 0, by rw [← hl, h0], fun i s hi => by have := (List.getElem?_eq_some_iff.1 hi).1; omega⟩
  · refine ⟨_, cap, by rw [hl], fun i l hi => ?_⟩
    have hlt := (List.getElem?_eq_some_iff.1 hi).1
    have hv : vf[i]? = some vf[i] := List.getElem?_eq_getElem (by omega)
    obtain ⟨a', c', e, hw⟩ := own_slice (hr i _ l hv hi)
    refine ⟨g, 0, a', c', rfl, ?_, hw⟩
    rw [Nat.zero_add, h.cellAt i (by omega), hv, e]
end Go.Proofs.YtccaknabpnpjaaaGreatDoor.A

/- The program's Build: the machine of expressions, walked. -/
namespace Go.Proofs.YtccaknabpnpjaaaGreatDoor.A
open Go.RowKit

theorem sp_small {w : World} : ∀ (n : Nat) (t : Ex n) (v : Value) (b i s j : Nat), Rx w n t v → Sp n t b i s j → s < 65536
  | 0, _, _, _, _, _, _, h, _ => h.elim
  | n + 1, t, v, b, i, s, j, ⟨a, len, cap, h1, h2, h3, h4, h5, h6, h7⟩, hs => by
    rcases hs with ⟨_, _, rfl, _⟩ | ⟨p, hp, hs⟩
    · exact h3
    · obtain ⟨_, _, hm⟩ := lay_rng _ _ _ hp
      obtain ⟨k, hk, e⟩ := List.getElem_of_mem hm
      rcases h7 with h7 | ⟨b', off, _, h7⟩
      · omega
      · obtain ⟨c0, c1, c2, _, _, _, r⟩ := h7 k p.2 (by rw [List.getElem?_eq_getElem hk, e])
        exact sp_small n p.2 _ _ i s j r hs
theorem sum_le {n : Nat} : ∀ (l : List (Ex n)), (∀ x ∈ l, realN n x ≤ 100) → (l.map (fun x => realN n x)).sum ≤ 100 * l.length
  | [], _ => by simp
  | x :: r, h => by
    have h1 := h x (by simp)
    have h2 := sum_le r (fun y hy => h y (by simp [hy]))
    rw [List.map_cons, List.sum_cons, List.length_cons]
    omega
theorem bm_zero (w : World) (base : Nat) (hb : base ≤ w.heap.size) : Bm (w.alloc (.cells #[.slice none 0 0, .slice none 0 0, .slice none 0 0, .slice none 0 0] 86)) base w.heap.size (fun _ _ => False) (fun _ _ _ => False) 0 [] :=
  ⟨[], [], [], ⟨_, _, _, _, [], heap_alloc_last w _, hb, World.ownsRow_nil _ _ _ _, World.ownsRow_nil _ _ _ _, World.ownsRow_nil _ _ _ _, World.ownsRow_nil _ _ _ _, rfl, fun i v l h => by simp at h, by simp [List.pairwise_cons, ap_nil]⟩, ⟨rfl, rfl, rfl, fun i l h => by simp at h, fun i l h => by simp at h, fun i s t h => by simp at h⟩, rfl⟩
theorem far29 {w : World} {base g : Nat} {cs : Array Value} (h : w.heap[g]? = some (.cells cs 55 (0, 0))) : Far w base g := .inr ⟨cs, 55, _, h, by decide, by decide, by decide, by decide⟩
theorem kb29 {base : Nat} {w w' : World} {g : Nat} {cs : Array Value} (hk : Kb base w w') (h : w.heap[g]? = some (.cells cs 55 (0, 0))) : w'.heap[g]? = some (.cells cs 55 (0, 0)) := (hk.block g (Array.getElem?_eq_some_iff.1 h).1 (far29 h)).trans h
theorem bv_move {w w' : World} {base q : Nat} {v0 v1 v2 v3 : Value} {vf : List Value} {ff : List (List Int)} {ss : List Nat} {ts rs : List Int} {g : Nat} {cs : Array Value} {fr : Nat × Nat} (h : Bv w base q v0 v1 v2 v3 vf ff ss ts rs) (hg : w.heap[g]? = some (.cells cs 55 fr)) (hk : ∀ k, k < w.heap.size → k ≠ g → w'.heap[k]? = w.heap[k]?) : Bv w' base q v0 v1 v2 v3 vf ff ss ts rs := by
  have mv : ∀ {e : TypeId} {v : Value} {n : Nat} {xs : List Value}, w.ownsRow base e 1 v n xs → e ≠ 55 → w'.ownsRow base e 1 v n xs := fun hv he => own_move hv (fun k hk' => hk k (own_type hv hk').2.1 (fun e => own_not hv hg he (by rw [hk', e])))
  have hq : q < w.heap.size := (Array.getElem?_eq_some_iff.1 h.blk).1
  exact ⟨(hk q hq (fun e => by subst e; have := h.blk; rw [hg] at this; cases this)).trans h.blk, h.low, mv h.o0 (by decide), mv h.o1 (by decide), mv h.o2 (by decide), mv h.o3 (by decide), h.len, fun i v l a b => mv (h.rows i v l a b) (by decide), h.ap⟩
/-- A builder's rows, as a machine that is read. -/
theorem bv_nm {w : World} {base q : Nat} {v0 v1 v2 v3 : Value} {vf : List Value} {ff : List (List Int)} {ss : List Nat} {ts rs : List Int} (h : Bv w base q v0 v1 v2 v3 vf ff ss ts rs) (hs : ∀ s ∈ ss, s < 65536) (hlen : ∀ (i : Nat) (l : List Int), ff[i]? = some l → l.length ≤ maxLen) :
    ∃ a0 a1 a2 a3 c0 c1 c2 c3, v0 = .slice a0 ff.length c0 ∧ v1 = .slice a1 ss.length c1 ∧ v2 = .slice a2 ts.length c2 ∧ v3 = .slice a3 rs.length c3 ∧ Nm w a0 a1 a2 a3 ff ss ts rs := by
  obtain ⟨a0, c0, e0, h0⟩ := own_fs h.o0 h.len h.rows
  obtain ⟨a1, c1, e1, h1⟩ := own_sts h.o1 hs
  obtain ⟨a2, c2, e2, h2⟩ := own_slice h.o2
  obtain ⟨a3, c3, e3, h3⟩ := own_slice h.o3
  exact ⟨a0, a1, a2, a3, c0, c1, c2, c3, e0, e1, e2, e3, hlen, h0, h1, h2, h3⟩

set_option maxRecDepth 100000 in
set_option maxHeartbeats 6400000 in
theorem build_yes (n : Nat) (a : Option Addr) (len cap : Nat) (l : List (Ex n)) (w : World) (hl : len ≤ maxLen) (h6 : l.length = len) (hkids : Kids w n a len l) (hyes : mayB l = true) :
    Calls Tryz.prog 19 #[.slice a len cap] w fun e w' => ∃ a0 a1 a2 a3 N c0 c1 c2 c3 fs ss ts rs, e = .returned (.tuple #[.agg #[.slice a0 N c0, .slice a1 N c1, .slice a2 N c2, .slice a3 N c3], .int .i64 0]) ∧ Nm w' a0 a1 a2 a3 fs ss ts rs ∧ Is (FrA l) (SpA l) N fs ss ts ∧ RsI l len rs ∧ rs.length = N ∧ N = posE 1 l len ∧ N ≤ 3300 ∧ Below w.heap.size w w' := by
  obtain ⟨hl1, hl2, hall⟩ : 1 ≤ len ∧ len ≤ 16 ∧ ∀ x ∈ l, rightE n x = true := by
    unfold mayB at hyes
    simp only [Bool.and_eq_true, decide_eq_true_eq, List.all_eq_true] at hyes
    exact ⟨by omega, by omega, hyes.2.2⟩
  have hful : ∀ x ∈ l, full n x := fun x hx => by
    obtain ⟨i, hi, e⟩ := List.getElem_of_mem hx
    obtain ⟨x', b, off, c0, c1, c2, _, hx', _, _, _, hr⟩ := hkids w (Below.refl _ _) i (by omega)
    rw [List.getElem?_eq_getElem hi, e] at hx'
    cases hx'
    exact rx_full n x _ hr
  have hri : ∀ x ∈ l, realN n x ≤ 100 ∧ shapesE n x = true := fun x hx => by
    obtain ⟨r1, _, r3⟩ := (right_iff (hful x hx)).1 (hall x hx)
    exact ⟨by omega, r3⟩
  have hsum := sum_le l (fun x hx => (hri x hx).1)
  have hpall := pos_all l 1
  rw [h6] at hpall hsum
  have hpm : ∀ k, k ≤ len → posE 1 l k ≤ 3300 := fun k hk => by
    have := pos_mono (l := l) (s := 1) l.length k (by omega) (Nat.le_refl _)
    rw [h6] at this
    omega
  have hany : l.any (fun x => !rightE n x) = false := by
    rw [List.any_eq_false]
    intro x hx
    simp [hall x hx]
  have HSM := hide (show ∀ i u j, SB l len i u j → u < 65536 from fun i u j ⟨p, hp, h⟩ => by
    obtain ⟨_, _, hm⟩ := lay_rng _ _ _ (List.mem_of_mem_take hp)
    obtain ⟨k, hk, e⟩ := List.getElem_of_mem hm
    obtain ⟨x', b, off, c0, c1, c2, _, hx', _, _, _, hr⟩ := hkids w (Below.refl _ _) k (by omega)
    rw [List.getElem?_eq_getElem hk, e] at hx'
    cases hx'
    exact sp_small n p.2 _ _ i u j hr h)
  have hb0 := ((Below.refl w.heap.size w).alloc (Nat.le_refl _) (.cells #[.slice none 0 0, .slice none 0 0, .slice none 0 0, .slice none 0 0] 55))
  have HB0 := hide hb0
  have HN4 := hide (nil4 w)
  have HC := hide (containsR_any n a len cap l _ hl h6 (kids_below hb0 hkids))
  have HK := hide hkids
  have HL6 := hide h6
  have HFUL := hide hful
  have HRI := hide hri
  have HPM := hide hpm
  have HANY := hide hany
  have d1 : decide ((len : Int) < 1) = false := by simp; omega
  have d2 : decide ((16 : Int) < (len : Int)) = false := by simp; omega
  clear hb0 hkids h6 hful hri hpm hany hall hyes hsum hpall
  unfold maxLen at hl
  go_enter Tryz.func19, Tryz.ntmps19
  go_wp2_with fail
  generalize w.alloc (.cells #[.slice none 0 0, .slice none 0 0, .slice none 0 0, .slice none 0 0] 55) = W at *
  generalize hQ : w.heap.size = P at *
  refine HC.out.mono ?_
  rintro e w1 ⟨rfl, hb1⟩
  rw [HANY.out]
  have HPW := hide (show P ≤ W.heap.size from by rw [← hQ]; exact HB0.out.size)
  have HB1 := hide (HB0.out.trans (hb1.mono HPW.out))
  have HPW1 := hide (show P ≤ w1.heap.size from Nat.le_trans HPW.out hb1.size)
  have HP29 := hide (show w1.heap[P]? = some (.cells #[.slice none 0 0, .slice none 0 0, .slice none 0 0, .slice none 0 0] 55 (0, 0)) from (hb1.block P (Array.getElem?_eq_some_iff.1 HN4.out).1).trans HN4.out)
  have HBZ := hide (bm_zero w1 P HPW1.out)
  have HKA := hide (kb_alloc (base := P) (w := w1) (.cells #[.slice none 0 0, .slice none 0 0, .slice none 0 0, .slice none 0 0] 86))
  clear hb1 HC
  go_wp2_with fail
  generalize w1.alloc (.cells #[.slice none 0 0, .slice none 0 0, .slice none 0 0, .slice none 0 0] 86) = W1 at *
  generalize hq : w1.heap.size = q at *
  refine (state_m P q _ _ 0 [] W1 HBZ.out (by omega) (fun j hj => hj) (fun s j hj => hj)).mono ?_
  rintro e w2 ⟨rfl, hbm2, hk2⟩
  have HBM2 := hide hbm2
  have HK2 := hide (HKA.out.trans hk2)
  clear hbm2 hk2
  go_wp2_with fail
  go_loopw [7, 8, 9, 27] (fun _ _ _ i wr => ∃ (k : Nat) (rs : List Int), k ≤ len ∧ i = .int .i64 k ∧ Bm wr P q (FB l k) (SB l k) (posE 1 l k) rs ∧ RsI l k rs ∧ Kb P w1 wr) (fun _ _ _ i _ => len - (intOf i).toNat)
  case atStart => exact ⟨0, [-1], Nat.zero_le _, rfl, bm_congr HBM2.out (fun i j => ⟨fun h => h.elim, fun ⟨_, hp, _⟩ => by simp at hp⟩) (fun i u j => ⟨fun h => h.elim, fun ⟨_, hp, _⟩ => by simp at hp⟩), rs_zero, HK2.out⟩
  case round =>
    obtain ⟨k, rs, hk, rfl, hbm, hrs, hkb⟩ := hrel
    have HBM := hide hbm
    have HRS := hide hrs
    have HKB := hide hkb
    have HBW := hide (show Below P w wr from HB1.out.trans (hkb.below (by rw [hq]; exact HPW1.out)))
    clear hbm hrs hkb
    by_cases hlt : k < len
    · obtain ⟨x, b, off, c0, c1, c2, rfl, hx, m0, m1, m2, m3⟩ := HK.out wr (by rw [hQ]; exact HBW.out) k hlt
      obtain ⟨x', b', off', c0', c1', c2', eb, hx', m0', m1', m2', m3'⟩ := HK.out w (Below.refl _ _) k hlt
      obtain rfl : x = x' := Option.some.inj (hx.symm.trans hx')
      cases eb
      have hbw : Below w.heap.size w wr := by rw [hQ]; exact HBW.out
      have e0 : c0' = c0 := Option.some.inj (((hbw.cell (p := ⟨b, off + k * 3, none⟩) (cell_lt m0')).trans m0').symm.trans m0)
      have e1 : c1' = c1 := Option.some.inj (((hbw.cell (p := ⟨b, off + k * 3 + 1, none⟩) (cell_lt m1')).trans m1').symm.trans m1)
      have e2 : c2' = c2 := Option.some.inj (((hbw.cell (p := ⟨b, off + k * 3 + 2, none⟩) (cell_lt m2')).trans m2').symm.trans m2)
      subst e0; subst e1; subst e2
      obtain ⟨kx, sx, ax, lx, cx, rfl, rfl, rfl⟩ := rx_cells m3'
      have HX3 := hide m3'
      have HXX := hide hx
      have i3 : (0 : Int) ≤ (k : Int) := by omega
      have i4 : (k : Int) < (len : Int) := by omega
      have hmx := List.mem_of_getElem? hx
      have HRX := hide (HRI.out x hmx)
      have HFX := hide (HFUL.out x hmx)
      have HPN := hide (pos_next (s := 1) hx)
      have HBD := hide (show posE 1 l k + 2 * realN n x ≤ 3300 from by have := HPM.out (k + 1) (by omega); rw [pos_next hx] at this; exact this)
      have HBA := hide (bm_below ((Below.refl _ _).alloc (Nat.le_refl _) (.cells #[.int .u8 kx, .int .u16 sx, .slice ax lx cx] 38)) HBM.out)
      have HBB := hide (hbw.alloc hbw.size (.cells #[.int .u8 kx, .int .u16 sx, .slice ax lx cx] 38))
      have HKX := hide (HKB.out.trans (kb_alloc (.cells #[.int .u8 kx, .int .u16 sx, .slice ax lx cx] 38)))
      clear m0' m1' m2' m3' m3 hx hx' hmx hbw
      go_wp2_with fail
      refine (expr_any P q w (by omega) n x _ (FB l k) (SB l k) (posE 1 l k) rs _ HX3.out HBB.out HRX.out.2 (by have := HBD.out; omega) (fb_rng HFUL.out (by have := HL6.out; omega)) (sb_rng HFUL.out (by have := HL6.out; omega)) HBA.out).mono ?_
      rintro e w3 ⟨rfl, hbm3, hk3⟩
      obtain ⟨ek, hek⟩ : ∃ ek, posE 1 l k + 2 * realN n x - 1 = ek := ⟨_, rfl⟩
      rw [hek]
      have HEK := hide hek
      have HK3 := hide (HKX.out.trans (hk3.trans (kb_alloc (.cells #[.int .i64 (posE 1 l k : Nat), .int .i64 ek] 89))))
      have HBM3 := hide (bm_below ((Below.refl _ _).alloc (Nat.le_refl _) (.cells #[.int .i64 (posE 1 l k : Nat), .int .i64 ek] 89)) hbm3)
      have HB60 := hide (heap_alloc_last w3 (.cells #[.int .i64 (posE 1 l k : Nat), .int .i64 ek] 89))
      have HSZ := hide (show (w3.alloc (.cells #[.int .i64 (posE 1 l k : Nat), .int .i64 ek] 89)).heap.size = w3.heap.size + 1 by simp)
      have HP1 := hide (show 0 < posE 1 l k + 2 * realN n x from by unfold posE; omega)
      have HFR := hide (show ∀ a b, (FB l k a b ∨ Fr n x (posE 1 l k) a b) → b < posE 1 l k + 2 * realN n x from fun i j h => by
        rcases h with h | h
        · have := fb_rng HFUL.out (by have := HL6.out; omega) i j h; omega
        · have := fr_rng n x _ i j HFX.out h; have := real_pos HFX.out; omega)
      have HFF := hide (fun j h => fb_first HFUL.out HXX.out HFX.out j h)
      clear hbm3 hk3 hek m0 m1 m2
      go_wp2_with fail
      generalize w3.alloc (.cells #[.int .i64 (posE 1 l k : Nat), .int .i64 ek] 89) = W3 at *
      generalize w3.heap.size = z3 at *
      refine (free_new1 P q _ _ _ _ 0 (posE 1 l k) _ _ W3 HSZ.out HBM3.out (by have := HBD.out; omega) (by have := HBD.out; omega) HP1.out HFR.out HFF.out).mono ?_
      rintro e w4 ⟨rfl, hbm4, hk4⟩
      have HK4 := hide (HK3.out.trans hk4)
      have HLR := hide (show rs.length = posE 1 l k from by obtain ⟨_, _, _, _, _, h⟩ := HBM.out; exact h)
      obtain ⟨ff, ss, ts, ⟨v0, v1, v2, v3, vf, hv⟩, hi, hr⟩ := hbm4
      obtain ⟨g3, c3, rfl, hl3, hb3⟩ := hv.o3.form (by rw [hr]; exact HP1.out)
      have HS4 := hide (bv_setR hv rfl ek (k : Int))
      have HI4 := hide hi
      have HR4 := hide hr
      have hek := HEK.out
      have hekl : ek < posE 1 l k + 2 * realN n x := by have := HP1.out; omega
      obtain ⟨⟨q0, q1, q2, q3⟩, -⟩ := q_cells hv.blk
      have f3 := hv.o3.frozenAt ek
      have e3 := hv.o3.cellAt ek (by rw [hr]; omega)
      obtain ⟨y, hy⟩ : ∃ y, (rs ++ List.replicate (2 * realN n x) (-1))[ek]? = some y := ⟨_, List.getElem?_eq_getElem (by rw [hr]; exact hekl)⟩
      rw [List.getElem?_map, hy] at e3
      have e3' : w4.cell? ⟨g3, ek, none⟩ = some (.int .i64 y) := e3
      rw [hr] at q3
      obtain ⟨N', hN'⟩ : ∃ N', posE 1 l k + 2 * realN n x = N' := ⟨_, rfl⟩
      rw [hN'] at q3 hekl
      have hN2 : N' ≤ 3300 := by rw [← hN']; exact HBD.out
      have i5 : (0 : Int) ≤ (ek : Int) := by omega
      have i6 : (ek : Int) < (N' : Int) := by omega
      obtain ⟨⟨s0, s1⟩, -⟩ := blk60 (kb60 hk4 HB60.out)
      have HNN := hide hN'
      clear hv hi hr hb3 hl3 q0 q1 q2 e3 hy hek hk4 hN'
      go_wp2
      go_roundw
      case rel => exact ⟨k + 1, _, by omega, by go_num, ⟨ff, ss, ts, ⟨_, _, _, _, _, HS4.out.1⟩, by
        rw [HPN.out]
        exact is_congr HI4.out (fb_next HXX.out) (sb_next HXX.out), by rw [HPN.out, List.length_set]; exact HR4.out⟩, by
        rw [← HEK.out]
        exact rs_next HFUL.out HLR.out HRS.out HXX.out, HK4.out.trans HS4.out.2⟩
      case measure => simp [intOf]; omega
    · have e' : k = len := by omega
      subst e'
      obtain ⟨ff, ss, ts, ⟨v0, v1, v2, v3, vf, hv⟩, hi, hr⟩ := HBM.out
      have hp29 := kb29 HKB.out HP29.out
      have hpos := HPM.out k (Nat.le_refl _)
      obtain ⟨N, hN⟩ : ∃ N, posE 1 l k = N := ⟨_, rfl⟩
      have hv' := bv_move (w' := (((wr.setCell ⟨P, 0, none⟩ v0).setCell ⟨P, 1, none⟩ v1).setCell ⟨P, 2, none⟩ v2).setCell ⟨P, 3, none⟩ v3) hv hp29 (fun j _ hne => by
        rw [Below.heap_setCell _ _ _ _ hne, Below.heap_setCell _ _ _ _ hne, Below.heap_setCell _ _ _ _ hne, Below.heap_setCell _ _ _ _ hne])
      obtain ⟨a0, a1, a2, a3, c0, c1, c2, c3, rfl, rfl, rfl, rfl, hnm⟩ := bv_nm hv' (fun s hs => by
        obtain ⟨i, hi', e⟩ := List.getElem_of_mem hs
        have e1 : ss[i]? = some s := by rw [List.getElem?_eq_getElem hi', e]
        have e2 : ts[i]? = some (ts[i]'(by rw [hi.lt, ← hi.ls]; exact hi')) := List.getElem?_eq_getElem _
        rcases hi.set i s _ e1 e2 with ⟨j, h, _⟩ | ⟨_, h, _⟩
        · exact HSM.out i s j h
        · omega) (fun i l' hl' => by
        have := is_len hi (M := 3300) (fun a b h => by have := (fb_rng HFUL.out (by have := HL6.out; omega) a b h).2; omega) hl'
        unfold maxLen; omega)
      obtain ⟨⟨q0, q1, q2, q3⟩, -⟩ := q_cells hv.blk
      obtain ⟨⟨r0, r1, r2, r3⟩, rz⟩ := blk29 hp29
      have y0 := rz 0
      have y1 := rz 1
      have y2 := rz 2
      have y3 := rz 3
      have hWF := set4 (x := .slice a0 ff.length c0) (y := .slice a1 ss.length c1) (z := .slice a2 ts.length c2) (u := .slice a3 rs.length c3) hp29
      have hBF := below_set4 (x := .slice a0 ff.length c0) (y := .slice a1 ss.length c1) (z := .slice a2 ts.length c2) (u := .slice a3 rs.length c3) HBW.out (Nat.le_refl P)
      have hqP : q ≠ P := fun e => by
        have := hv.blk
        rw [e, hp29] at this
        simp only [Option.some.injEq, Obj.cells.injEq] at this
        exact absurd this.2.1 (by decide)
      have hPq : P ≠ q := Ne.symm hqP
      have HI := hide (is_congr hi (by rw [← HL6.out]; exact fb_all) (by rw [← HL6.out]; exact sb_all))
      have l0 := hi.lf
      have l1 := hi.ls
      have l2 := hi.lt
      rw [hN] at l0 l1 l2 hr HI
      rw [l0] at q0 hnm hWF hBF
      rw [l1] at q1 hnm hWF hBF
      rw [l2] at q2 hnm hWF hBF
      rw [hr] at q3 hnm hWF hBF
      have HNM := hide hnm
      have HWF := hide hWF
      have HBF := hide hBF
      have HRL := hide hr
      have HNP := hide hN
      have HN33 := hide (show N ≤ 3300 by omega)
      clear hnm hWF hBF hr hi hv hv' hp29 rz l0 l1 l2 hN
      go_wp2
      obtain ⟨⟨m0, m1, m2, m3⟩, -⟩ := blk29 HWF.out
      refine bodyPost_ret (v := .tuple #[.agg #[.slice a0 N c0, .slice a1 N c1, .slice a2 N c2, .slice a3 N c3], .int .i64 0]) (by simp [results, Tryz.results19, go_sem, m0, m1, m2, m3]) rfl ?_
      exact ⟨a0, a1, a2, a3, N, c0, c1, c2, c3, ff, ss, ts, rs, rfl, HNM.out, HI.out, HRS.out, HRL.out, HNP.out.symm, HN33.out, by rw [hQ]; exact HBF.out⟩
end Go.Proofs.YtccaknabpnpjaaaGreatDoor.A

/- What the machine of expressions matches: plain mathematics. -/
namespace Go.Proofs.YtccaknabpnpjaaaGreatDoor.A

section
variable {n : Nat} {l : List (Ex n)} {N len : Nat} {fs : List (List Int)} {ss : List Nat} {ts rs : List Int}
/-- The lists of Build are a machine that may be. -/
theorem build_mach (hf : ∀ x ∈ l, full n x) (h6 : l.length = len) (hl : len ≤ 16) (hi : Is (FrA l) (SpA l) N fs ss ts) (hr : RsI l len rs) (hrl : rs.length = N) (hN : N = posE 1 l len) (hN3 : N ≤ 3300) : Mach fs ss ts rs N := by
  have hF : ∀ i j, FrA l i j → i < N ∧ j < N := fun i j h => by
    have := fb_rng hf (Nat.le_refl _) i j ((fb_all i j).2 h)
    rw [h6, ← hN] at this; exact this
  have hS : ∀ i u j, SpA l i u j → j < N := fun i u j ⟨p, hp, h⟩ => by
    have hp' : p ∈ (layE 1 l).take len := by rw [List.take_of_length_le (by rw [lay_len]; omega)]; exact hp
    obtain ⟨a1, a2, a3, a4⟩ := take_rng hf (by omega) hp'
    have := sp_rng n p.2 p.1 i u j a3 h
    omega
  refine ⟨hi.lf, hi.ls, hi.lt, hrl, by rw [hN]; unfold posE; omega, hN3, fun i m hm z hz => ?_, fun i s t hs ht hp => ?_, fun i r h => ?_⟩
  · obtain ⟨j, rfl, hj⟩ := (hi.mem i m hm z).1 hz
    have := (hF i j hj).2; omega
  · rcases hi.set i s t hs ht with ⟨j, h, rfl⟩ | ⟨_, h, _⟩
    · have := hS i s j h; omega
    · omega
  · rcases hr i r h with ⟨m, p, hm, _, _, rfl⟩ | ⟨_, rfl⟩
    · omega
    · omega
theorem spa_one (hf : ∀ x ∈ l, full n x) (hsh : ∀ x ∈ l, shapesE n x = true) {i u j u' j' : Nat} (h : SpA l i u j) (h' : SpA l i u' j') : u = u' ∧ j = j' := by
  obtain ⟨p, hp, h⟩ := h
  obtain ⟨p', hp', h'⟩ := h'
  obtain ⟨_, _, m⟩ := lay_rng _ _ _ hp
  obtain ⟨_, _, m'⟩ := lay_rng _ _ _ hp'
  have r := sp_rng n p.2 p.1 i u j (hf _ m) h
  have r' := sp_rng n p'.2 p'.1 i u' j' (hf _ m') h'
  obtain rfl := lay_uniq l 1 i p p' hf hp hp' r.1 (by unfold en; omega) r'.1 (by unfold en; omega)
  exact sp_one n p.2 p.1 i u j u' j' (hf _ m) (hsh _ m) h h'
theorem wy_iff (word : List Int) (hf : ∀ x ∈ l, full n x) (hsh : ∀ x ∈ l, shapesE n x = true) (hi : Is (FrA l) (SpA l) N fs ss ts) (hF : ∀ i j, FrA l i j → i < N ∧ j < N) (hS : ∀ i u j, SpA l i u j → i < N) (q i : Nat) : Wy word (Ff fs) (Sf ss ts) 0 0 q i ↔ Wy word (FrA l) (SpA l) 0 0 q i := by
  constructor
  · intro h
    induction h with
    | here => exact .here
    | free _ f ih =>
      obtain ⟨m, hm, hj⟩ := f
      obtain ⟨j, e, hj⟩ := (hi.mem _ m hm _).1 hj
      have e' := Int.ofNat.inj e
      subst e'
      exact ih.free hj
    | step _ s c d ih =>
      rcases hi.set _ _ _ s.1 s.2 with ⟨j, h, e⟩ | ⟨_, h, _⟩
      · have e' := Int.ofNat.inj e
        subst e'
        exact ih.step h c d
      · subst h; simp [inS] at d
  · intro h
    induction h with
    | here => exact .here
    | free _ f ih =>
      have hlt := (hF _ _ f).1
      refine ih.free ⟨_, List.getElem?_eq_getElem (by rw [hi.lf]; exact hlt), ?_⟩
      exact (hi.mem _ _ (List.getElem?_eq_getElem (by rw [hi.lf]; exact hlt)) _).2 ⟨_, rfl, f⟩
    | @step q i s q' c _ s' c' d ih =>
      have hlt := hS _ _ _ s'
      have e1 : ss[q]? = some (ss[q]'(by rw [hi.ls]; exact hlt)) := List.getElem?_eq_getElem _
      have e2 : ts[q]? = some (ts[q]'(by rw [hi.lt]; exact hlt)) := List.getElem?_eq_getElem _
      rcases hi.set q _ _ e1 e2 with ⟨j, h, e⟩ | ⟨h, _⟩
      · obtain ⟨f1, f2⟩ := spa_one hf hsh s' h
        exact ih.step (s := s) ⟨by rw [e1, f1], by rw [e2, e, f2]⟩ c' d
      · exact absurd s' (h _ _)
/-- What an expression, by its number, has. -/
def hasN {n : Nat} (l : List (Ex n)) (word : List Int) (r : Int) : Bool := match l[r.toNat]? with | some x => hasE n x word | none => false
theorem en_inj (hf : ∀ x ∈ l, full n x) {m m' : Nat} {p p' : Nat × Ex n} (h : (layE 1 l)[m]? = some p) (h' : (layE 1 l)[m']? = some p') (e : en p = en p') : m = m' := by
  have key : ∀ {m : Nat} {p : Nat × Ex n}, (layE 1 l)[m]? = some p → m < l.length ∧ en p + 1 = posE 1 l (m + 1) ∧ posE 1 l m < posE 1 l (m + 1) := fun {m p} h => by
    have hm : m < l.length := by rw [← lay_len l 1]; exact (List.getElem?_eq_some_iff.1 h).1
    have e := lay_at l 1 m _ (List.getElem?_eq_getElem hm)
    rw [h] at e
    obtain rfl : p = (posE 1 l m, l[m]) := Option.some.inj e
    have hr := real_pos (hf _ (List.getElem_mem hm))
    have hn := pos_next (s := 1) (List.getElem?_eq_getElem hm)
    refine ⟨hm, ?_, by omega⟩
    show posE 1 l m + 2 * realN n l[m] - 1 + 1 = _
    omega
  obtain ⟨a1, a2, a3⟩ := key h
  obtain ⟨b1, b2, b3⟩ := key h'
  rcases Nat.lt_trichotomy m m' with q | q | q
  · have := pos_mono (l := l) (s := 1) m' (m + 1) (by omega) (by omega); omega
  · exact q
  · have := pos_mono (l := l) (s := 1) m (m' + 1) (by omega) (by omega); omega
theorem match_rule (word : List Int) (hf : ∀ x ∈ l, full n x) (hsh : ∀ x ∈ l, shapesE n x = true) (h6 : l.length = len) (hl : len ≤ 16) (hi : Is (FrA l) (SpA l) N fs ss ts) (hr : RsI l len rs) (hrl : rs.length = N) (hN : N = posE 1 l len) (hN3 : N ≤ 3300) (g : Nat → Bool) (hg : IsRun fs ss ts N word word.length g) :
    endR rs g N = leastR (hasN l word) len 0 := by
  have hM := build_mach hf h6 hl hi hr hrl hN hN3
  have hF : ∀ i j, FrA l i j → i < N ∧ j < N := fun i j h => by
    have := fb_rng hf (Nat.le_refl _) i j ((fb_all i j).2 h)
    rw [h6, ← hN] at this; exact this
  have hS : ∀ i u j, SpA l i u j → i < N := fun i u j h => by
    have := sb_rng hf (Nat.le_refl _) i u j ((sb_all i u j).2 h)
    rw [h6, ← hN] at this; exact this
  have hgw : ∀ q, q < N → (g q = true ↔ Wy word (FrA l) (SpA l) 0 0 q word.length) := fun q hq => (run_wy hM.pos hM.ls hM.free hM.to word.length (Nat.le_refl _) g hg q hq).trans (wy_iff word hf hsh hi hF hS q word.length)
  have hend : ∀ (m : Nat) (p : Nat × Ex n), (layE 1 l)[m]? = some p → en p < N ∧ (g (en p) = true ↔ hasN l word m = true) := fun m p hp => by
    have hm : m < l.length := by rw [← lay_len l 1]; exact (List.getElem?_eq_some_iff.1 hp).1
    have e := lay_at l 1 m _ (List.getElem?_eq_getElem hm)
    rw [hp] at e
    have hpm := List.mem_of_getElem? hp
    obtain ⟨a1, a2, a3, a4⟩ := take_rng hf (Nat.le_refl _) (show p ∈ (layE 1 l).take l.length by rw [List.take_of_length_le (by rw [lay_len]; omega)]; exact hpm)
    have hlt : en p < N := by rw [hN, ← h6]; unfold en; omega
    refine ⟨hlt, ?_⟩
    rw [hgw _ hlt, way_end word hf hsh hpm, ← has_iff]
    have e2 : p.2 = l[m] := by rw [show p = (posE 1 l m, l[m]) from Option.some.inj e]
    unfold hasN
    rw [show ((m : Nat) : Int).toNat = m by omega, List.getElem?_eq_getElem hm, e2]
  refine isLeast_one (endR_is (o := g) (N := N) hM.rule) ?_
  rcases least_spec (hasN l word) len 0 with ⟨h1, h2⟩ | ⟨j, h1, h2, h3, h4⟩
  · refine .inl ⟨h1, fun i r ⟨hi', ho⟩ e => ?_⟩
    rcases hr i r e with ⟨m, p, hm, hp, rfl, rfl⟩ | ⟨_, h⟩
    · have := ((hend m p hp).2).1 ho
      have h5 := h2 m hm
      rw [Int.zero_add] at h5
      rw [h5] at this; cases this
    · exact h
  · right
    rw [Int.zero_add] at h2 h3
    rw [h2]
    have hjl : j < l.length := by omega
    have hp := lay_at l 1 j _ (List.getElem?_eq_getElem hjl)
    obtain ⟨b1, b2⟩ := hend j _ hp
    refine ⟨by omega, ⟨_, ⟨b1, b2.2 h3⟩, ?_⟩, fun i r ⟨hi', ho⟩ e => ?_⟩
    · have e : rs[en (posE 1 l j, l[j])]? = some (rs[en (posE 1 l j, l[j])]'(by rw [hrl]; exact b1)) := List.getElem?_eq_getElem _
      rcases hr _ _ e with ⟨m, p, hm, hpm, e1, e2⟩ | ⟨h, _⟩
      · rw [e, e2, en_inj hf hpm hp e1.symm]
      · exact absurd rfl (h j _ h1 hp)
    · rcases hr i r e with ⟨m, p, hm, hpm, rfl, rfl⟩ | ⟨_, h⟩
      · right
        have h5 := ((hend m p hpm).2).1 ho
        rcases Nat.lt_or_ge m j with q | q
        · have := h4 m q; rw [Int.zero_add, h5] at this; cases this
        · omega
      · exact .inl h
end
end Go.Proofs.YtccaknabpnpjaaaGreatDoor.A
