/- The program's nodeRight, and what measures an expression. -/
import Derived.Test.YtccaknabpnpjaaaGreatDoorPk2
import Derived.Test.YtccaknabpnpjaaaGreatDoorPk3
namespace Go.Proofs.YtccaknabpnpjaaaGreatDoor.A
open Go.RowKit

set_option maxRecDepth 100000 in
set_option maxHeartbeats 3200000 in
theorem node_any (kk ss len : Nat) (a : Option Addr) (cap : Nat) (w : World) (hl : len ≤ maxLen) :
    Calls Tryz.prog 81 #[.agg #[.int .u8 kk, .int .u16 ss, .slice a len cap]] w fun e w' => e = .returned (.bool (okE kk ss len)) ∧ Below w.heap.size w w' := by
  unfold maxLen at hl
  go_enter Tryz.func81, Tryz.ntmps81
  go_wp2
  all_goals
    go_ret
    refine ⟨ret_bool ?_, (Below.refl w.heap.size w).alloc (Nat.le_refl _) _⟩
    simp only [beq_iff_eq, beq_eq_false_iff_ne, ne_eq] at *
    rw [Bool.eq_iff_iff]
    simp [okE]
    try omega

/-- A number in a cell of its own. -/
def Cn (w : World) (q : Nat) (x : Nat) : Prop := w.heap[q]? = some (.cells #[.int .i64 (x : Int)] 3 (0, 0))
theorem cn_cell {w : World} {q x : Nat} (h : Cn w q x) : w.cell? ⟨q, 0, none⟩ = some (.int .i64 x) ∧ w.frozen? ⟨q, 0, none⟩ = false := by
  unfold Cn at h
  simp [World.cell?, World.frozen?, h]
theorem cn_set {w : World} {q x : Nat} (h : Cn w q x) (y : Nat) : Cn (w.setCell ⟨q, 0, none⟩ (.int .i64 y)) q y := by
  unfold Cn at h ⊢
  rw [setCell_eq_setRow _ _ _ _ _ _ _ h, setRow_heap _ _ _ _ _ _ h]
  rfl
theorem cn_other {w : World} {q x p : Nat} (h : Cn w q x) (hp : q ≠ p) (i : Nat) (u : Value) : Cn (w.setCell ⟨p, i, none⟩ u) q x := by
  unfold Cn at h ⊢
  rw [Below.heap_setCell _ _ _ _ hp]
  exact h
theorem cn_lt {w : World} {q x : Nat} (h : Cn w q x) : q < w.heap.size := (Array.getElem?_eq_some_iff.1 h).1
theorem cn_below {w w' : World} {q x B : Nat} (h : Cn w q x) (hb : Below B w w') (hq : q < B) : Cn w' q x := (hb.block q hq).trans h
theorem cn_alloc {w : World} {q x : Nat} (h : Cn w q x) (o : Obj) : Cn (w.alloc o) q x := (Below.heap_alloc _ _ _ (cn_lt h)).trans h

/-- May one go on at a node, that is the so many-eth, so deep? -/
def takeB (kk ss len d N : Nat) : Bool := decide (N + 1 ≤ 100) && (decide (d ≤ 12) && okE kk ss len)

/-- All but two cells stand. -/
def Rest (w w' : World) (p q : Nat) : Prop := ∀ k, k < w.heap.size → k ≠ p → k ≠ q → w'.heap[k]? = w.heap[k]?
theorem rest_below {w w1 w2 : World} {p q : Nat} (h : Rest w w1 p q) (hs : w.heap.size ≤ w1.heap.size) (hb : Below w1.heap.size w1 w2) : Rest w w2 p q := fun k hk h1 h2 => (hb.block k (by omega)).trans (h k hk h1 h2)
theorem take_mem {w : World} {p q N D B : Nat} (hp : Cn w p N) (hq : Cn w q D) (hpq : p ≠ q) (hBp : B ≤ p) (hBq : B ≤ q) (M E : Nat) (o : Obj) :
    Cn (((w.setCell ⟨p, 0, none⟩ (.int .i64 M)).setCell ⟨q, 0, none⟩ (.int .i64 E)).alloc o) p M ∧ Cn (((w.setCell ⟨p, 0, none⟩ (.int .i64 M)).setCell ⟨q, 0, none⟩ (.int .i64 E)).alloc o) q E ∧ Below B w (((w.setCell ⟨p, 0, none⟩ (.int .i64 M)).setCell ⟨q, 0, none⟩ (.int .i64 E)).alloc o) ∧ Rest w (((w.setCell ⟨p, 0, none⟩ (.int .i64 M)).setCell ⟨q, 0, none⟩ (.int .i64 E)).alloc o) p q := by
  have z1 := cn_lt hp
  have h1 := cn_other (cn_set hp M) hpq 0 (.int .i64 E)
  have h2 := cn_set (cn_other hq hpq.symm 0 (.int .i64 M)) E
  refine ⟨cn_alloc h1 o, cn_alloc h2 o, (((Below.refl B w).setCell hBp _).setCell hBq _).alloc (by simp; omega) o, fun k hk k1 k2 => ?_⟩
  rw [Below.heap_alloc _ _ _ (by simpa using hk), Below.heap_setCell _ _ _ _ k2, Below.heap_setCell _ _ _ _ k1]

set_option maxRecDepth 100000 in
set_option maxHeartbeats 3200000 in
theorem take_any (kk ss len : Nat) (a : Option Addr) (cap d N D p q : Nat) (w : World) (B : Nat) (hl : len ≤ maxLen) (hd : d ≤ 100) (hN : N ≤ 1000) (hD : D ≤ 1000) (hp : Cn w p N) (hq : Cn w q D) (hpq : p ≠ q) (hBp : B ≤ p) (hBq : B ≤ q) :
    Calls Tryz.prog 80 #[.agg #[.int .u8 kk, .int .u16 ss, .slice a len cap], .int .i64 d, .pointer (some ⟨p, 0, none⟩), .pointer (some ⟨q, 0, none⟩)] w fun e w' => e = .returned (.bool (takeB kk ss len d N)) ∧ Cn w' p (N + 1) ∧ Cn w' q (max D d) ∧ Below B w w' ∧ Rest w w' p q := by
  have z1 := cn_lt hp
  have z2 := cn_lt hq
  have HM := hide (fun (M E : Nat) (o : Obj) => take_mem hp hq hpq hBp hBq M E o)
  obtain ⟨c1, c2⟩ := cn_cell hp
  obtain ⟨c3, c4⟩ := cn_cell hq
  have n1 : p ≠ w.heap.size := by omega
  have n2 : q ≠ w.heap.size := by omega
  have hqp := hpq.symm
  have hML := hide hl
  have HT := hide (show takeB kk ss len d N = (decide (N + 1 ≤ 100) && (decide (d ≤ 12) && okE kk ss len)) from rfl)
  clear hp hq hl
  obtain ⟨M, hM⟩ : ∃ M, N + 1 = M := ⟨_, rfl⟩
  have hMi : (N : Int) + 1 = (M : Int) := by omega
  rw [hM] at HT ⊢
  have HMM := hide hM
  clear hM
  obtain ⟨E, hE⟩ : ∃ E, max D d = E := ⟨_, rfl⟩
  rw [hE]
  by_cases hm : M ≤ 100
  · by_cases hdd : d ≤ 12
    · have m1 : decide ((M : Int) ≤ 100) = true := by simp; omega
      have m2 : decide ((d : Int) ≤ 12) = true := by simp; omega
      have HR := hide (show takeB kk ss len d N = okE kk ss len from by rw [HT.out]; simp [hm, hdd])
      by_cases hlt : D < d
      · have eE : E = d := by omega
        subst eE
        clear HT hE hm hdd
        go_enter Tryz.func80, Tryz.ntmps80
        go_wp2_with fail
        obtain ⟨g1, g2, g3, g4⟩ := HM.out M E (.cells #[.int .u8 kk, .int .u16 ss, .slice a len cap] 38)
        refine (node_any kk ss len a cap _ hML.out).mono ?_
        rintro e w2 ⟨rfl, hb2⟩
        have HB2 := hide (g3.trans (hb2.mono (by have := g3.size; omega)))
        have HG1 := hide (cn_below g1 hb2 (cn_lt g1))
        have HG2 := hide (cn_below g2 hb2 (cn_lt g2))
        have HR4 := hide (rest_below g4 g3.size hb2)
        clear g1 g2 g3 g4 hb2
        go_wp2
        go_ret
        exact ⟨by rw [HR.out]; rfl, HG1.out, HG2.out, HB2.out, HR4.out⟩
      · have eE : E = D := by omega
        subst eE
        clear HT hE hm hdd
        go_enter Tryz.func80, Tryz.ntmps80
        go_wp2_with fail
        obtain ⟨g1, g2, g3, g4⟩ := HM.out M E (.cells #[.int .u8 kk, .int .u16 ss, .slice a len cap] 38)
        refine (node_any kk ss len a cap _ hML.out).mono ?_
        rintro e w2 ⟨rfl, hb2⟩
        have HB2 := hide (g3.trans (hb2.mono (by have := g3.size; omega)))
        have HG1 := hide (cn_below g1 hb2 (cn_lt g1))
        have HG2 := hide (cn_below g2 hb2 (cn_lt g2))
        have HR4 := hide (rest_below g4 g3.size hb2)
        clear g1 g2 g3 g4 hb2
        go_wp2
        go_ret
        exact ⟨by rw [HR.out]; rfl, HG1.out, HG2.out, HB2.out, HR4.out⟩
    · have m1 : decide ((M : Int) ≤ 100) = true := by simp; omega
      have m2 : decide ((d : Int) ≤ 12) = false := by simp; omega
      have HR := hide (show takeB kk ss len d N = false from by rw [HT.out]; simp [hdd])
      by_cases hlt : D < d
      · have eE : E = d := by omega
        subst eE
        clear HT hE hm hdd
        go_enter Tryz.func80, Tryz.ntmps80
        go_wp2
        go_ret
        exact ⟨by rw [HR.out]; rfl, HM.out M E (.cells #[.int .u8 kk, .int .u16 ss, .slice a len cap] 38)⟩
      · have eE : E = D := by omega
        subst eE
        clear HT hE hm hdd
        go_enter Tryz.func80, Tryz.ntmps80
        go_wp2
        go_ret
        exact ⟨by rw [HR.out]; rfl, HM.out M E (.cells #[.int .u8 kk, .int .u16 ss, .slice a len cap] 38)⟩
  · have m1 : decide ((M : Int) ≤ 100) = false := by simp; omega
    have HR := hide (show takeB kk ss len d N = false from by rw [HT.out]; simp [hm])
    by_cases hlt : D < d
    · have eE : E = d := by omega
      subst eE
      clear HT hE hm
      go_enter Tryz.func80, Tryz.ntmps80
      go_wp2
      go_ret
      exact ⟨by rw [HR.out]; rfl, HM.out M E (.cells #[.int .u8 kk, .int .u16 ss, .slice a len cap] 38)⟩
    · have eE : E = D := by omega
      subst eE
      clear HT hE hm
      go_enter Tryz.func80, Tryz.ntmps80
      go_wp2
      go_ret
      exact ⟨by rw [HR.out]; rfl, HM.out M E (.cells #[.int .u8 kk, .int .u16 ss, .slice a len cap] 38)⟩
end Go.Proofs.YtccaknabpnpjaaaGreatDoor.A

/- What measures an expression: the walk, and what it comes to. -/
namespace Go.Proofs.YtccaknabpnpjaaaGreatDoor.A
open Go.RowKit

/-- Node by node: whether none was refused, how many there were, and how deep they stood. -/
def walkE : (n : Nat) → Ex n → Nat → Nat × Nat → Bool × Nat × Nat
  | 0, _, _, s => (false, s)
  | n + 1, t, d, s => if takeB (kd t) (st t) (ks t).length d s.1 = true then (ks t).foldl (fun r x => if r.1 then walkE n x (d + 1) r.2 else r) (true, s.1 + 1, max s.2 d) else (false, s.1 + 1, max s.2 d)
/-- What stands within the bounds. -/
def Fits (r : Bool × Nat × Nat) : Prop := r.1 = true → r.2.1 ≤ 100 ∧ r.2.2 ≤ 12
theorem fold_fits {α : Type} (f : α → Nat × Nat → Bool × Nat × Nat) (hf : ∀ x s, s.1 ≤ 100 → s.2 ≤ 12 → Fits (f x s)) : ∀ (l : List α) (r : Bool × Nat × Nat), Fits r → Fits (l.foldl (fun r x => if r.1 then f x r.2 else r) r)
  | [], _, h => h
  | x :: l, r, h => by
    refine fold_fits f hf l _ ?_
    show Fits (if r.1 = true then f x r.2 else r)
    split
    · rename_i q; exact hf x r.2 (h q).1 (h q).2
    · exact h
theorem walk_fits : ∀ (n : Nat) (t : Ex n) (d : Nat) (s : Nat × Nat), s.1 ≤ 100 → s.2 ≤ 12 → Fits (walkE n t d s)
  | 0, _, _, _, _, _ => fun h => by cases h
  | n + 1, t, d, s, h1, h2 => by
    unfold walkE
    split
    · rename_i q
      refine fold_fits (fun x s => walkE n x (d + 1) s) (fun x s a b => walk_fits n x (d + 1) s a b) _ _ (fun _ => ?_)
      unfold takeB at q
      simp only [Bool.and_eq_true, decide_eq_true_eq] at q
      exact ⟨q.1, by show max s.2 d ≤ 12; omega⟩
    · exact fun h => by cases h
theorem fold_no {α : Type} (f : α → Nat × Nat → Bool × Nat × Nat) : ∀ (l : List α) (r : Bool × Nat × Nat), r.1 = false → l.foldl (fun r x => if r.1 then f x r.2 else r) r = r
  | [], _, _ => rfl
  | x :: l, r, h => by
    show l.foldl _ (if r.1 = true then f x r.2 else r) = r
    rw [if_neg (by rw [h]; simp)]
    exact fold_no f l r h

theorem rx_cells {w : World} {n : Nat} {t : Ex n} {c0 c1 c2 : Value} (h : Rx w n t (.agg #[c0, c1, c2])) : ∃ (k s : Nat) (a : Option Addr) (len cap : Nat), c0 = .int .u8 k ∧ c1 = .int .u16 s ∧ c2 = .slice a len cap := by
  cases n with
  | zero => exact h.elim
  | succ n =>
    obtain ⟨a, len, cap, e, _⟩ := h
    simp only [Value.agg.injEq, Array.mk.injEq, List.cons.injEq, and_true] at e
    exact ⟨_, _, _, _, _, e.1, e.2.1, e.2.2⟩
/-- The world of what comes in, and two numbers that are counted in it. -/
def Go2 (w0 w : World) (p q N D : Nat) : Prop := Below w0.heap.size w0 w ∧ Cn w p N ∧ Cn w q D
set_option maxRecDepth 100000 in
set_option maxHeartbeats 3200000 in
theorem walk_any (w0 : World) (p q : Nat) (hp : w0.heap.size ≤ p) (hq : w0.heap.size ≤ q) (hpq : p ≠ q) : ∀ (n : Nat) (t : Ex n) (v : Value) (d N D : Nat) (w : World), N ≤ 100 → D ≤ 12 → d ≤ 13 → Rx w0 n t v → Go2 w0 w p q N D →
    Calls Tryz.prog 79 #[v, .int .i64 d, .func (.func 80) #[] #[.pointer (some ⟨p, 0, none⟩), .pointer (some ⟨q, 0, none⟩)]] w fun e w' =>
      e = .returned (.bool (walkE n t d (N, D)).1) ∧ Go2 w0 w' p q (walkE n t d (N, D)).2.1 (walkE n t d (N, D)).2.2 := by
  intro n
  induction n with
  | zero => intro t v d N D w _ _ _ h; exact h.elim
  | succ n ih =>
    intro t v d N D w hN hD hd h hg
    obtain ⟨a, len, cap, rfl, hk, hs, hl, h6, hkids⟩ := rx_open h
    have HE := hide (show walkE (n + 1) t d (N, D) = if takeB (kd t) (st t) (ks t).length d N = true then (ks t).foldl (fun r x => if r.1 then walkE n x (d + 1) r.2 else r) (true, N + 1, max D d) else (false, N + 1, max D d) from rfl)
    rw [h6] at HE
    have HTK := hide (show takeB (kd t) (st t) len d N = true → N + 1 ≤ 100 ∧ d ≤ 12 from fun q => by
      unfold takeB at q
      simp only [Bool.and_eq_true, decide_eq_true_eq] at q
      exact ⟨q.1, q.2.1⟩)
    have HML := hide hl
    unfold maxLen at hl
    generalize kd t = kk at *
    generalize st t = ss at *
    generalize ks t = l at *
    have HK := hide hkids
    have HL6 := hide h6
    obtain ⟨g1, g2, g3⟩ := hg
    have z1 := cn_lt g2
    have hb0 := g1.alloc (g1.size) (.cells #[.int .u8 kk, .int .u16 ss, .slice a len cap] 38)
    have hp0 := cn_alloc g2 (.cells #[.int .u8 kk, .int .u16 ss, .slice a len cap] 38)
    have hq0 := cn_alloc g3 (.cells #[.int .u8 kk, .int .u16 ss, .slice a len cap] 38)
    obtain ⟨r0, r1, r2⟩ := box3 w (.int .u8 kk) (.int .u16 ss) (.slice a len cap) 38
    have n1 : w.heap.size ≠ p := by have := cn_lt g2; omega
    have n2 : w.heap.size ≠ q := by have := cn_lt g3; omega
    clear h hkids g1 g2 g3 h6
    obtain ⟨tk, htk⟩ : ∃ b, takeB kk ss len d N = b := ⟨_, rfl⟩
    rw [htk] at HE HTK
    have HTB := hide htk
    clear htk
    have HB0 := hide hb0
    have HP0 := hide hp0
    have HQ0 := hide hq0
    have HR2 := hide r2
    clear hb0 hp0 hq0 r0 r1 r2
    go_enter Tryz.func79, Tryz.ntmps79
    go_wp2_with fail
    refine (take_any kk ss len a cap d N D p q _ w0.heap.size HML.out (by omega) (by omega) (by omega) HP0.out HQ0.out hpq hp hq).mono ?_
    rintro e w1 ⟨rfl, k1, k2, k3, k4⟩
    rw [HTB.out]
    have r2 : w1.cell? ⟨w.heap.size, 2, none⟩ = some (.slice a len cap) := (World.cell?_of_block (k4 w.heap.size (by simp) n1 n2)).trans HR2.out
    have HB1 := hide (HB0.out.trans k3)
    have HP1 := hide k1
    have HQ1 := hide k2
    clear k1 k2 k3 k4 HB0 HP0 HQ0 HR2
    cases tk with
    | false =>
      have HF := hide (show walkE (n + 1) t d (N, D) = (false, N + 1, max D d) from HE.out)
      go_wp2
      go_ret
      exact ⟨by rw [HF.out]; rfl, by rw [HF.out]; exact ⟨HB1.out, HP1.out, HQ1.out⟩⟩
    | true =>
      have HF := hide (show walkE (n + 1) t d (N, D) = l.foldl (fun r x => if r.1 then walkE n x (d + 1) r.2 else r) (true, N + 1, max D d) from HE.out)
      obtain ⟨hN1, hd1⟩ := HTK.out rfl
      have HFT := hide (fun (k : List (Ex n)) => fold_fits (fun x s => walkE n x (d + 1) s) (fun x s a b => walk_fits n x (d + 1) s a b) k (true, N + 1, max D d) (fun _ => ⟨hN1, by show max D d ≤ 12; omega⟩))
      clear HE HTK
      obtain ⟨d1, hd1e⟩ : ∃ d1, d + 1 = d1 := ⟨_, rfl⟩
      have hdi : (d : Int) + 1 = (d1 : Int) := by omega
      rw [hd1e] at HF HFT
      have hd13 : d1 ≤ 13 := by omega
      clear hd1e
      go_wp2_with fail
      go_loopw [8, 17] (fun _ u wr => ∃ (i N' D' : Nat), i ≤ len ∧ u = .int .i64 i ∧ (l.take i).foldl (fun r x => if r.1 then walkE n x d1 r.2 else r) (true, N + 1, max D d) = (true, N', D') ∧ Go2 w0 wr p q N' D') (fun _ u _ => len - (intOf u).toNat)
      case atStart => exact ⟨0, N + 1, max D d, Nat.zero_le _, rfl, rfl, HB1.out, HP1.out, HQ1.out⟩
      case round =>
        obtain ⟨i, N', D', hi, rfl, hf, hg⟩ := hrel
        obtain ⟨hN', hD'⟩ : N' ≤ 100 ∧ D' ≤ 12 := by have := HFT.out (l.take i); rw [hf] at this; exact this rfl
        have HFI := hide hf
        have HGI := hide hg
        clear hf hg HB1 HP1 HQ1 r2
        by_cases hlt : i < len
        · obtain ⟨x, b, off, c0, c1, c2, rfl, hx, m0, m1, m2, m3⟩ := HK.out wr HGI.out.1 i hlt
          obtain ⟨x', b', off', c0', c1', c2', eb, hx', m0', m1', m2', m3'⟩ := HK.out w0 (Below.refl _ _) i hlt
          obtain rfl : x = x' := Option.some.inj (hx.symm.trans hx')
          cases eb
          have e0 : c0' = c0 := Option.some.inj (((HGI.out.1.cell (p := ⟨b, off + i * 3, none⟩) (cell_lt m0')).trans m0').symm.trans m0)
          have e1 : c1' = c1 := Option.some.inj (((HGI.out.1.cell (p := ⟨b, off + i * 3 + 1, none⟩) (cell_lt m1')).trans m1').symm.trans m1)
          have e2 : c2' = c2 := Option.some.inj (((HGI.out.1.cell (p := ⟨b, off + i * 3 + 2, none⟩) (cell_lt m2')).trans m2').symm.trans m2)
          subst e0; subst e1; subst e2
          obtain ⟨kx, sx, ax, lx, cx, rfl, rfl, rfl⟩ := rx_cells m3'
          have HN := hide (show (l.take (i + 1)).foldl (fun r x => if r.1 then walkE n x d1 r.2 else r) (true, N + 1, max D d) = walkE n x d1 (N', D') from by
            rw [take_at hx, List.foldl_append, HFI.out]; rfl)
          have HSTOP := hide (show (walkE n x d1 (N', D')).1 = false → l.foldl (fun r x => if r.1 then walkE n x d1 r.2 else r) (true, N + 1, max D d) = walkE n x d1 (N', D') from fun q => by
            rw [← List.take_append_drop (i + 1) l, List.foldl_append, HN.out]; exact fold_no _ _ _ q)
          have HX3 := hide m3'
          have i3 : (0 : Int) ≤ (i : Int) := by omega
          have i4 : (i : Int) < (len : Int) := by omega
          have HG2 := hide (show Go2 w0 (wr.alloc (.cells #[.int .u8 kx, .int .u16 sx, .slice ax lx cx] 38)) p q N' D' from ⟨HGI.out.1.alloc HGI.out.1.size _, cn_alloc HGI.out.2.1 _, cn_alloc HGI.out.2.2 _⟩)
          clear m0' m1' m2' m3' m3 hx hx' HGI
          go_wp2_with fail
          refine (ih x _ d1 N' D' _ hN' hD' hd13 HX3.out HG2.out).mono ?_
          rintro e w2 ⟨rfl, hg2⟩
          have HG3 := hide hg2
          clear hg2 HG2
          cases hr : (walkE n x d1 (N', D')).1 with
          | true =>
            have HR := hide hr
            clear hr
            go_wp2
            go_roundw
            case rel => exact ⟨i + 1, (walkE n x d1 (N', D')).2.1, (walkE n x d1 (N', D')).2.2, by omega, by go_num, by rw [HN.out]; exact Prod.ext HR.out rfl, HG3.out⟩
            case measure => simp [intOf]; omega
          | false =>
            have HR := hide hr
            clear hr
            go_wp2
            go_ret
            exact ⟨by rw [HF.out, HSTOP.out HR.out, HR.out]; rfl, by rw [HF.out, HSTOP.out HR.out]; exact HG3.out⟩
        · have e : i = len := by omega
          subst e
          have HT := hide (show l.take i = l from List.take_of_length_le (by have := HL6.out; omega))
          go_wp2
          go_ret
          rw [HF.out]
          have := HFI.out
          rw [HT.out] at this
          rw [this]
          exact ⟨rfl, HGI.out⟩
end Go.Proofs.YtccaknabpnpjaaaGreatDoor.A

/- What the program's walk over an expression comes to. -/
namespace Go.Proofs.YtccaknabpnpjaaaGreatDoor.A

theorem eq_of_le {a b : Nat} (h : ∀ B, a ≤ B ↔ b ≤ B) : a = b := by
  have h1 := (h b).2 (Nat.le_refl _)
  have h2 := (h a).1 (Nat.le_refl _)
  omega
/-- How deep it is, without a bound. -/
def realD : (n : Nat) → Ex n → Nat
  | 0, _ => 0
  | n + 1, t => (ks t).foldl (fun a x => max a (realD n x)) 0 + 1
theorem deep_real : ∀ (n : Nat) (t : Ex n) (m : Nat), full n t → deepE n t m = min (realD n t) (m + 1)
  | 0, _, _, h => h.elim
  | n + 1, t, 0, _ => by show 1 = min ((ks t).foldl _ 0 + 1) 1; omega
  | n + 1, t, m + 1, h => by
    show (ks t).foldl (fun a x => max a (deepE n x m)) 0 + 1 = min ((ks t).foldl (fun a x => max a (realD n x)) 0 + 1) (m + 1 + 1)
    have : (ks t).foldl (fun a x => max a (deepE n x m)) 0 = min ((ks t).foldl (fun a x => max a (realD n x)) 0) (m + 1) := by
      refine eq_of_le fun B => ?_
      rw [fold_max_le (fun x => deepE n x m)]
      have e := fold_max_le (fun x => realD n x) B (ks t) 0
      constructor
      · intro ⟨_, q⟩
        by_cases hB : m + 1 ≤ B
        · omega
        · have : (ks t).foldl (fun a x => max a (realD n x)) 0 ≤ B := e.2 ⟨Nat.zero_le _, fun x hx => by have := q x hx; rw [deep_real n x m (h x hx)] at this; omega⟩
          omega
      · intro q
        refine ⟨Nat.zero_le _, fun x hx => ?_⟩
        rw [deep_real n x m (h x hx)]
        by_cases hB : m + 1 ≤ B
        · omega
        · have := (e.1 (by omega)).2 x hx
          omega
    omega

/-- What the walk over one expression comes to. -/
def Comes (n : Nat) (t : Ex n) : Prop := ∀ d N D : Nat, N ≤ 100 →
  ((N + realN n t ≤ 100 ∧ d + realD n t ≤ 13 ∧ shapesE n t = true) → walkE n t d (N, D) = (true, N + realN n t, max D (d + realD n t - 1))) ∧
  (¬ (N + realN n t ≤ 100 ∧ d + realD n t ≤ 13 ∧ shapesE n t = true) → (walkE n t d (N, D)).1 = false)
theorem fold_comes {n : Nat} (d : Nat) : ∀ (l : List (Ex n)) (_ : ∀ x ∈ l, Comes n x) (N D : Nat), N ≤ 100 →
    ((N + (l.map (fun x => realN n x)).sum ≤ 100 ∧ ∀ x ∈ l, d + realD n x ≤ 13 ∧ shapesE n x = true) → l.foldl (fun r x => if r.1 then walkE n x d r.2 else r) (true, N, D) = (true, N + (l.map (fun x => realN n x)).sum, l.foldl (fun a x => max a (d + realD n x - 1)) D)) ∧
    (¬ (N + (l.map (fun x => realN n x)).sum ≤ 100 ∧ ∀ x ∈ l, d + realD n x ≤ 13 ∧ shapesE n x = true) → (l.foldl (fun r x => if r.1 then walkE n x d r.2 else r) (true, N, D)).1 = false)
  | [], _, N, D, hN => ⟨fun _ => by simp, fun h => (h ⟨by simpa using hN, fun x hx => by simp at hx⟩).elim⟩
  | x :: l, hl, N, D, hN => by
    have hx := hl x (by simp) d N D hN
    simp only [List.map_cons, List.sum_cons, List.foldl_cons, List.mem_cons, forall_eq_or_imp, if_true]
    by_cases q : N + realN n x ≤ 100 ∧ d + realD n x ≤ 13 ∧ shapesE n x = true
    · rw [hx.1 q]
      have ih := fold_comes d l (fun y hy => hl y (by simp [hy])) (N + realN n x) (max D (d + realD n x - 1)) q.1
      constructor
      · intro h
        rw [ih.1 ⟨by omega, h.2.2⟩, Nat.add_assoc]
      · intro h
        exact ih.2 (fun k => h ⟨by omega, ⟨q.2.1, q.2.2⟩, k.2⟩)
    · have hf := hx.2 q
      constructor
      · intro h
        exact (q ⟨by omega, h.2.1.1, h.2.1.2⟩).elim
      · intro _
        rw [fold_no (fun x s => walkE n x d s) l _ hf]
        exact hf
theorem comes : ∀ (n : Nat) (t : Ex n), full n t → Comes n t
  | 0, _, h => h.elim
  | n + 1, t, h => fun d N D hN => by
    have hsum : realN (n + 1) t = 1 + ((ks t).map (fun x => realN n x)).sum := rfl
    have hdep : realD (n + 1) t = (ks t).foldl (fun a x => max a (realD n x)) 0 + 1 := rfl
    have hsh : shapesE (n + 1) t = (okE (kd t) (st t) (ks t).length && (ks t).all (fun x => shapesE n x)) := rfl
    have hw : walkE (n + 1) t d (N, D) = if takeB (kd t) (st t) (ks t).length d N = true then (ks t).foldl (fun r x => if r.1 then walkE n x (d + 1) r.2 else r) (true, N + 1, max D d) else (false, N + 1, max D d) := rfl
    have F := fun B => fold_max_le (fun x => realD n x) B (ks t) 0
    have htk : takeB (kd t) (st t) (ks t).length d N = true ↔ N + 1 ≤ 100 ∧ d ≤ 12 ∧ okE (kd t) (st t) (ks t).length = true := by
      unfold takeB; simp only [Bool.and_eq_true, decide_eq_true_eq]
    have hcond : (N + realN (n + 1) t ≤ 100 ∧ d + realD (n + 1) t ≤ 13 ∧ shapesE (n + 1) t = true) ↔ takeB (kd t) (st t) (ks t).length d N = true ∧ (N + 1 + ((ks t).map (fun x => realN n x)).sum ≤ 100 ∧ ∀ x ∈ ks t, d + 1 + realD n x ≤ 13 ∧ shapesE n x = true) := by
      rw [htk, hsum, hdep, hsh, Bool.and_eq_true, List.all_eq_true]
      constructor
      · rintro ⟨a, b, c, e⟩
        have := (F (12 - d)).1 (by omega)
        exact ⟨⟨by omega, by omega, c⟩, by omega, fun x hx => ⟨by have := this.2 x hx; omega, e x hx⟩⟩
      · rintro ⟨⟨a, b, c⟩, e, f⟩
        have := (F (12 - d)).2 ⟨Nat.zero_le _, fun x hx => by have := (f x hx).1; omega⟩
        exact ⟨by omega, by omega, c, fun x hx => (f x hx).2⟩
    by_cases tk : takeB (kd t) (st t) (ks t).length d N = true
    · have hN1 := (htk.1 tk).1
      have ih := fold_comes (d + 1) (ks t) (fun x hx => comes n x (h x hx)) (N + 1) (max D d) hN1
      rw [hw, if_pos tk]
      constructor
      · intro q
        rw [ih.1 (hcond.1 q).2, hsum]
        have e : (ks t).foldl (fun a x => max a (d + 1 + realD n x - 1)) (max D d) = max D (d + realD (n + 1) t - 1) := by
          refine eq_of_le fun B => ?_
          rw [fold_max_le (fun x => d + 1 + realD n x - 1), hdep]
          constructor
          · rintro ⟨a, b⟩
            have := (F (B - d)).2 ⟨Nat.zero_le _, fun x hx => by have := b x hx; omega⟩
            omega
          · intro a
            have := (F (B - d)).1 (by omega)
            exact ⟨by omega, fun x hx => by have := this.2 x hx; omega⟩
        rw [e, Nat.add_assoc]
      · intro q
        exact ih.2 (fun k => q (hcond.2 ⟨tk, k⟩))
    · rw [hw, if_neg tk]
      exact ⟨fun q => (tk (hcond.1 q).1).elim, fun _ => rfl⟩
/-- How many nodes, and how deep, if it is right. -/
def nodesR (n : Nat) (t : Ex n) : Nat := if rightE n t = true then nodesE n t else 0
def deepR (n : Nat) (t : Ex n) : Nat := if rightE n t = true then deepE n t 12 else 0
theorem right_iff {n : Nat} {t : Ex n} (h : full n t) : rightE n t = true ↔ 0 + realN n t ≤ 100 ∧ 1 + realD n t ≤ 13 ∧ shapesE n t = true := by
  unfold rightE
  have e1 := deep_real n t 12 h
  have e2 := nodes_real n t
  simp only [Bool.and_eq_true, decide_eq_true_eq]
  constructor
  · rintro ⟨a, b, c⟩
    refine ⟨?_, by omega, c⟩
    by_cases q : realN n t ≤ 100
    · omega
    · have := e2.2 (by omega); omega
  · rintro ⟨a, b, c⟩
    exact ⟨by omega, by have := e2.1 (by omega); omega, c⟩
theorem walk_right {n : Nat} {t : Ex n} (h : full n t) : (walkE n t 1 (0, 0)).1 = rightE n t ∧ (rightE n t = true → (walkE n t 1 (0, 0)).2.1 = nodesE n t ∧ (walkE n t 1 (0, 0)).2.2 = deepE n t 12) := by
  have c := comes n t h 1 0 0 (by omega)
  cases hr : rightE n t with
  | true =>
    have q := (right_iff h).1 hr
    rw [c.1 q]
    have e1 := deep_real n t 12 h
    have e2 := (nodes_real n t).1 (by omega)
    exact ⟨rfl, fun _ => ⟨by show 0 + realN n t = _; omega, by show max 0 (1 + realD n t - 1) = _; omega⟩⟩
  | false =>
    exact ⟨c.2 (fun q => by rw [(right_iff h).2 q] at hr; cases hr), fun q => by cases q⟩
end Go.Proofs.YtccaknabpnpjaaaGreatDoor.A
