/- The document's machine while it is laid: its three rows in memory. -/
import Derived.Test.YtccaknabpnpjaaaGreatDoorPk16
import Derived.Deep.Cut
import Derived.Deep.CutRange
import Derived.Deep.RegionHeld3
namespace Go.Proofs.YtccaknabpnpjaaaGreatDoor.A
open Go.RowKit

structure Dn (w : World) (qF qS qT B N : Nat) (vf : List Value) (fs : List (List Int)) (ss : List Nat) (ts : List Int) : Prop where
  f : w.heap[qF]? = some (.cells vf.toArray 26 (0, 0))
  s : w.heap[qS]? = some (.cells (ss.map fun (s : Nat) => Value.int .u16 (s : Int)).toArray 36 (0, 0))
  t : w.heap[qT]? = some (.cells (ts.map (Value.int .i64)).toArray 3 (0, 0))
  lv : vf.length = N
  lowF : qF < B
  lowS : qS < B
  lowT : qT < B
  hi : B ≤ w.heap.size
  rows : ∀ (i : Nat) (v : Value) (l : List Int), vf[i]? = some v → fs[i]? = some l → Row w B v l
/-- All but three blocks are as they were. -/
structure Kd (qF qS qT : Nat) (w w' : World) : Prop where
  os : w'.os = w.os
  tape : w'.tape = w.tape
  output : w'.output = w.output
  size : w.heap.size ≤ w'.heap.size
  block : ∀ k, k < w.heap.size → k ≠ qF → k ≠ qS → k ≠ qT → w'.heap[k]? = w.heap[k]?
theorem Kd.refl (a b c : Nat) (w : World) : Kd a b c w w := ⟨rfl, rfl, rfl, Nat.le_refl _, fun _ _ _ _ _ => rfl⟩
theorem Kd.trans {a b c : Nat} {u v w : World} (h : Kd a b c u v) (k : Kd a b c v w) : Kd a b c u w :=
  ⟨k.os.trans h.os, k.tape.trans h.tape, k.output.trans h.output, Nat.le_trans h.size k.size, fun i hi h1 h2 h3 => (k.block i (Nat.lt_of_lt_of_le hi h.size) h1 h2 h3).trans (h.block i hi h1 h2 h3)⟩
theorem Kd.of_below {a b c : Nat} {w w' : World} (h : Below w.heap.size w w') : Kd a b c w w' := ⟨h.os, h.tape, h.output, h.size, fun k hk _ _ _ => h.block k hk⟩
theorem Kd.drew {a b c : Nat} {w w' : World} (h : Kd a b c w w') : Kd a b c w w'.drew := ⟨h.os, h.tape, h.output, h.size, h.block⟩
theorem Kd.set {a b c : Nat} {w w' : World} (h : Kd a b c w w') {q : Nat} (hq : q = a ∨ q = b ∨ q = c) (i : Nat) (u : Value) : Kd a b c w (w'.setCell ⟨q, i, none⟩ u) :=
  ⟨h.os, h.tape, h.output, by simpa using h.size, fun k hk h1 h2 h3 => by
    rw [Below.heap_setCell _ _ _ _ (fun e => by
      have e' : k = q := e
      rcases hq with rfl | rfl | rfl
      · exact h1 e'
      · exact h2 e'
      · exact h3 e')]
    exact h.block k hk h1 h2 h3⟩
theorem Kd.below {a b c B : Nat} {w w' : World} (h : Kd a b c w w') (ha : B ≤ a) (hb : B ≤ b) (hc : B ≤ c) (hB : B ≤ w.heap.size) : Below B w w' := ⟨h.os, h.tape, h.output, h.size, fun k hk => h.block k (by omega) (by omega) (by omega) (by omega)⟩
section
variable {w w' w3 : World} {qF qS qT B N : Nat} {vf : List Value} {fs : List (List Int)} {ss : List Nat} {ts : List Int}
theorem dm_below (hb : Below w.heap.size w w') (h : Dn w qF qS qT B N vf fs ss ts) : Dn w' qF qS qT B N vf fs ss ts := by
  have hF := h.lowF
  have hS := h.lowS
  have hT := h.lowT
  have hB := h.hi
  exact ⟨(hb.block qF (by omega)).trans h.f, (hb.block qS (by omega)).trans h.s, (hb.block qT (by omega)).trans h.t, h.lv, hF, hS, hT, Nat.le_trans hB hb.size, fun i v l a b => row_below hb (h.rows i v l a b)⟩
theorem dm_apart (h : Dn w qF qS qT B N vf fs ss ts) : qF ≠ qS ∧ qF ≠ qT ∧ qS ≠ qT := by
  refine ⟨fun e => ?_, fun e => ?_, fun e => ?_⟩
  · have h1 := h.f; rw [e, h.s] at h1; simp only [Option.some.injEq, Obj.cells.injEq] at h1; exact absurd h1.2.1 (by decide)
  · have h1 := h.f; rw [e, h.t] at h1; simp only [Option.some.injEq, Obj.cells.injEq] at h1; exact absurd h1.2.1 (by decide)
  · have h1 := h.s; rw [e, h.t] at h1; simp only [Option.some.injEq, Obj.cells.injEq] at h1; exact absurd h1.2.1 (by decide)
theorem dm_cell (h : Dn w qF qS qT B N vf fs ss ts) {a : Nat} {v : Value} (hv : vf[a]? = some v) : w.cell? ⟨qF, a, none⟩ = some v ∧ w.frozen? ⟨qF, a, none⟩ = false := by
  refine ⟨?_, by simp [World.frozen?, h.f]⟩
  rw [cell_of_row _ _ _ _ _ _ h.f]
  simpa using hv
theorem dm_into (h : Dn w qF qS qT B N vf fs ss ts) {a : Nat} {v' : Value} {l' : List Int} (ha : a < N) (hla : a < fs.length) (hb : Below w.heap.size w w3) (hr : Row w3 w.heap.size v' l') : Dn (w3.setCell ⟨qF, a, none⟩ v') qF qS qT B N (vf.set a v') (fs.set a l') ss ts ∧ Kd qF qS qT w (w3.setCell ⟨qF, a, none⟩ v') := by
  have d := dm_below hb h
  obtain ⟨n1, n2, n3⟩ := dm_apart h
  refine ⟨⟨?_, ?_, ?_, by rw [List.length_set]; exact h.lv, h.lowF, h.lowS, h.lowT, by simpa using d.hi, fun j v l hv hl => ?_⟩, (Kd.of_below hb).set (.inl rfl) a v'⟩
  · rw [blk_set d.f a v']; simp
  · rw [Below.heap_setCell _ _ _ _ (Ne.symm n1)]; exact d.s
  · rw [Below.heap_setCell _ _ _ _ (Ne.symm n2)]; exact d.t
  · by_cases e : j = a
    · subst e
      rw [List.getElem?_set_self (by rw [h.lv]; exact ha)] at hv
      rw [List.getElem?_set_self hla] at hl
      cases hv; cases hl
      exact row_base h.hi (row_set (Nat.lt_of_lt_of_le h.lowF h.hi) hr)
    · rw [List.getElem?_set_ne (Ne.symm e)] at hv hl
      exact row_set h.lowF (d.rows j v l hv hl)
theorem dm_setS (h : Dn w qF qS qT B N vf fs ss ts) (a s : Nat) : Dn (w.setCell ⟨qS, a, none⟩ (.int .u16 s)) qF qS qT B N vf fs (ss.set a s) ts ∧ Kd qF qS qT w (w.setCell ⟨qS, a, none⟩ (.int .u16 s)) := by
  obtain ⟨n1, n2, n3⟩ := dm_apart h
  refine ⟨⟨?_, ?_, ?_, h.lv, h.lowF, h.lowS, h.lowT, by simpa using h.hi, fun j v l hv hl => row_set h.lowS (h.rows j v l hv hl)⟩, (Kd.refl _ _ _ w).set (.inr (.inl rfl)) a _⟩
  · rw [Below.heap_setCell _ _ _ _ n1]; exact h.f
  · rw [blk_set h.s a _]; simp [List.map_set]
  · rw [Below.heap_setCell _ _ _ _ (Ne.symm n3)]; exact h.t
theorem dm_setT (h : Dn w qF qS qT B N vf fs ss ts) (a : Nat) (t : Int) : Dn (w.setCell ⟨qT, a, none⟩ (.int .i64 t)) qF qS qT B N vf fs ss (ts.set a t) ∧ Kd qF qS qT w (w.setCell ⟨qT, a, none⟩ (.int .i64 t)) := by
  obtain ⟨n1, n2, n3⟩ := dm_apart h
  refine ⟨⟨?_, ?_, ?_, h.lv, h.lowF, h.lowS, h.lowT, by simpa using h.hi, fun j v l hv hl => row_set h.lowT (h.rows j v l hv hl)⟩, (Kd.refl _ _ _ w).set (.inr (.inr rfl)) a _⟩
  · rw [Below.heap_setCell _ _ _ _ n2]; exact h.f
  · rw [Below.heap_setCell _ _ _ _ n3]; exact h.s
  · rw [blk_set h.t a _]; simp [List.map_set]
end
/-- A machine of the document whose steps are just these. -/
def Dx (w : World) (qF qS qT B : Nat) (F : Nat → Nat → Prop) (S : Nat → Nat → Nat → Prop) (N : Nat) : Prop := ∃ vf fs ss ts, Dn w qF qS qT B N vf fs ss ts ∧ Is F S N fs ss ts
section
variable {w w' : World} {qF qS qT B N : Nat} {F F' : Nat → Nat → Prop} {S S' : Nat → Nat → Nat → Prop}
theorem dx_congr (h : Dx w qF qS qT B F S N) (hF : ∀ a b, F a b ↔ F' a b) (hS : ∀ a s b, S a s b ↔ S' a s b) : Dx w qF qS qT B F' S' N := by
  obtain ⟨vf, fs, ss, ts, h1, h2⟩ := h
  exact ⟨vf, fs, ss, ts, h1, is_congr h2 hF hS⟩
theorem dx_below (hb : Below w.heap.size w w') (h : Dx w qF qS qT B F S N) : Dx w' qF qS qT B F S N := by
  obtain ⟨vf, fs, ss, ts, h1, h2⟩ := h
  exact ⟨vf, fs, ss, ts, dm_below hb h1, h2⟩
theorem dx_low (h : Dx w qF qS qT B F S N) : qF < w.heap.size ∧ qS < w.heap.size ∧ qT < w.heap.size := by
  obtain ⟨vf, fs, ss, ts, h1, h2⟩ := h
  have := h1.lowF; have := h1.lowS; have := h1.lowT; have := h1.hi
  omega
theorem is_into {fs : List (List Int)} {ss : List Nat} {ts : List Int} (h : Is F S N fs ss ts) {i x : Nat} {l : List Int} (hl : fs[i]? = some l) : Is (fun a b => F a b ∨ (a = i ∧ b = x)) S N (fs.set i (intoL l (x : Int))) ss ts := by
  have hlt := (List.getElem?_eq_some_iff.1 hl).1
  refine ⟨by simp [h.lf], h.ls, h.lt, fun k m hm => ?_, fun k m hm y => ?_, h.set⟩
  · by_cases e : k = i
    · subst e
      rw [List.getElem?_set_self hlt] at hm; cases hm
      exact into_sorted _ (h.up k l hl)
    · rw [List.getElem?_set_ne (Ne.symm e)] at hm; exact h.up k m hm
  · by_cases e : k = i
    · subst e
      rw [List.getElem?_set_self hlt] at hm; cases hm
      rw [into_mem, h.mem k l hl y]
      constructor
      · rintro (e1 | ⟨j, e1, e2⟩)
        · exact ⟨x, e1, .inr ⟨rfl, rfl⟩⟩
        · exact ⟨j, e1, .inl e2⟩
      · rintro ⟨j, e1, e2 | ⟨_, e2⟩⟩
        · exact .inr ⟨j, e1, e2⟩
        · exact .inl (by rw [e1, e2])
    · rw [List.getElem?_set_ne (Ne.symm e)] at hm
      rw [h.mem k m hm y]
      constructor
      · rintro ⟨j, e1, e2⟩; exact ⟨j, e1, .inl e2⟩
      · rintro ⟨j, e1, e2 | ⟨e2, _⟩⟩
        · exact ⟨j, e1, e2⟩
        · exact absurd e2 e
/-- What a step into a row finds, and what it leaves. -/
theorem dx_into (h : Dx w qF qS qT B F S N) {a x M : Nat} (ha : a < N) (hM : ∀ i j, F i j → j < M) : ∃ v l, w.cell? ⟨qF, a, none⟩ = some v ∧ Row w B v l ∧ l.length ≤ M ∧ ∀ w3 v', Below w.heap.size w w3 → Row w3 w.heap.size v' (intoL l (x : Int)) → (w3.cell? ⟨qF, a, none⟩ = some v ∧ w3.frozen? ⟨qF, a, none⟩ = false) ∧ Dx (w3.setCell ⟨qF, a, none⟩ v') qF qS qT B (fun i j => F i j ∨ (i = a ∧ j = x)) S N ∧ Kd qF qS qT w (w3.setCell ⟨qF, a, none⟩ v') := by
  obtain ⟨vf, fs, ss, ts, h1, h2⟩ := h
  obtain ⟨v, hv⟩ : ∃ v, vf[a]? = some v := ⟨_, List.getElem?_eq_getElem (by rw [h1.lv]; exact ha)⟩
  obtain ⟨l, hl⟩ : ∃ l, fs[a]? = some l := ⟨_, List.getElem?_eq_getElem (by rw [h2.lf]; exact ha)⟩
  refine ⟨v, l, (dm_cell h1 hv).1, h1.rows a v l hv hl, is_len h2 hM hl, fun w3 v' hb hr => ?_⟩
  obtain ⟨k1, k2⟩ := dm_into h1 ha (by rw [h2.lf]; exact ha) hb hr
  exact ⟨dm_cell (dm_below hb h1) hv, ⟨_, _, _, _, k1, is_into h2 hl⟩, k2⟩
end
theorem blk29' {w w' : World} {qF qS qT P : Nat} {cs : Array Value} {t : TypeId} (hk : Kd qF qS qT w w') (h : w.heap[P]? = some (.cells cs t (0, 0))) (h1 : P ≠ qF) (h2 : P ≠ qS) (h3 : P ≠ qT) : w'.heap[P]? = some (.cells cs t (0, 0)) := (hk.block P (Array.getElem?_eq_some_iff.1 h).1 h1 h2 h3).trans h
end Go.Proofs.YtccaknabpnpjaaaGreatDoor.A

/- The document's lay: what it is to do; nodes without parts. -/
namespace Go.Proofs.YtccaknabpnpjaaaGreatDoor.A
open Go.RowKit

/-- The machine, as it is handed on. -/
abbrev mV (qF qS qT N : Nat) (x3 : Value) : Value := .agg #[.slice (some ⟨qF, 0, none⟩) N N, .slice (some ⟨qS, 0, none⟩) N N, .slice (some ⟨qT, 0, none⟩) N N, x3]
def LayOf (w0 : World) (qF qS qT B N : Nat) (x3 : Value) (n : Nat) (t : Ex n) : Prop := ∀ (v : Value) (b : Nat) (F : Nat → Nat → Prop) (S : Nat → Nat → Nat → Prop) (w : World), Rx w0 n t v → Below w0.heap.size w0 w → shapesE n t = true → realN n t ≤ 100 → b + 2 * realN n t ≤ N → (∀ i j, F i j → j < N) → (∀ i s j, S i s j → i < b) → Dx w qF qS qT B F S N →
    Calls Tryz.prog 48 #[.agg #[.slice (some ⟨qF, 0, none⟩) N N, .slice (some ⟨qS, 0, none⟩) N N, .slice (some ⟨qT, 0, none⟩) N N, x3], v, .int .i64 b] w fun e w' => e = .returned (.tuple #[]) ∧ Dx w' qF qS qT B (fun i j => F i j ∨ Fr n t b i j) (fun i s j => S i s j ∨ Sp n t b i s j) N ∧ Kd qF qS qT w w'
/-- The boxes of lay. -/
structure Lb (w : World) (P : Nat) (m0 m1 m2 m3 u0 u1 u2 : Value) : Prop where
  n : w.heap[P]? = some (.cells #[m0, m1, m2, m3] 55 (0, 0))
  r : w.heap[P + 1]? = some (.cells #[u0, u1, u2] 38 (0, 0))
theorem lb_new (w : World) (m0 m1 m2 m3 u0 u1 u2 : Value) : Lb ((w.alloc (.cells #[m0, m1, m2, m3] 55)).alloc (.cells #[u0, u1, u2] 38)) w.heap.size m0 m1 m2 m3 u0 u1 u2 := by
  have e := heap_alloc_last (w.alloc (.cells #[m0, m1, m2, m3] 55)) (.cells #[u0, u1, u2] 38)
  rw [show (w.alloc (.cells #[m0, m1, m2, m3] 55)).heap.size = w.heap.size + 1 by simp] at e
  exact ⟨by rw [Below.heap_alloc _ _ _ (by simp)]; exact heap_alloc_last w _, e⟩
theorem lb_kd {w w' : World} {qF qS qT P : Nat} {m0 m1 m2 m3 u0 u1 u2 : Value} (hk : Kd qF qS qT w w') (h1 : qF < P) (h2 : qS < P) (h3 : qT < P) (h : Lb w P m0 m1 m2 m3 u0 u1 u2) : Lb w' P m0 m1 m2 m3 u0 u1 u2 :=
  ⟨blk29' hk h.n (by omega) (by omega) (by omega), blk29' hk h.r (by omega) (by omega) (by omega)⟩
theorem lb_cells {w : World} {P : Nat} {m0 m1 m2 m3 u0 u1 u2 : Value} (h : Lb w P m0 m1 m2 m3 u0 u1 u2) : (w.cell? ⟨P, 0, none⟩ = some m0 ∧ w.cell? ⟨P, 1, none⟩ = some m1 ∧ w.cell? ⟨P, 2, none⟩ = some m2 ∧ w.cell? ⟨P, 3, none⟩ = some m3) ∧ w.cell? ⟨P + 1, 0, none⟩ = some u0 ∧ w.cell? ⟨P + 1, 1, none⟩ = some u1 ∧ w.cell? ⟨P + 1, 2, none⟩ = some u2 := ⟨(blk29 h.n).1, blk51 h.r⟩
theorem two_more (w : World) (o o' : Obj) : Below w.heap.size w ((w.alloc o).alloc o') := ((Below.refl _ _).alloc (Nat.le_refl _) o).alloc (by simp) o'

set_option maxRecDepth 100000 in
set_option maxHeartbeats 3200000 in
theorem lay_k1 (w0 : World) (qF qS qT B N : Nat) (x3 : Value) (n : Nat) (hn : n ≤ 900) (hN : N ≤ 10000) (t : Ex (n + 1)) (hk : kd t = 1) : LayOf w0 qF qS qT B N x3 (n + 1) t := by
  intro v b F S w h hb0 hsh hr hbN hF hS hD
  have hful := rx_full (n + 1) t v h
  have hrp := real_pos hful
  obtain ⟨hok, -⟩ := shapes_open hsh
  have hks : ks t = [] := List.eq_nil_of_length_eq_zero (ok_none hok (.inr hk))
  have hnd := (nodes_real (n + 1) t).1 hr
  have HND := hide (rnodes_any (n + 1) t v)
  have HX := hide h
  obtain ⟨a, len, cap, rfl, hkd, hst, hl, h6, -⟩ := rx_open h
  obtain ⟨kk, hkk⟩ : ∃ kk, kd t = kk := ⟨_, rfl⟩
  obtain ⟨ss, hss⟩ : ∃ ss, st t = ss := ⟨_, rfl⟩
  rw [hk, hss] at HND HX ⊢
  rw [hss] at hst
  obtain ⟨R, hR⟩ : ∃ R, realN (n + 1) t = R := ⟨_, rfl⟩
  rw [hR] at hr hbN hrp hnd
  have HB := hide (two_more w (.cells #[.slice (some ⟨qF, 0, none⟩) N N, .slice (some ⟨qS, 0, none⟩) N N, .slice (some ⟨qT, 0, none⟩) N N, x3] 55) (.cells #[.int .u8 1, .int .u16 ss, .slice a len cap] 38))
  have HL := hide (lb_new w (.slice (some ⟨qF, 0, none⟩) N N) (.slice (some ⟨qS, 0, none⟩) N N) (.slice (some ⟨qT, 0, none⟩) N N) x3 (.int .u8 1) (.int .u16 ss) (.slice a len cap))
  have HQ := hide (dx_low hD)
  have HD := hide (dx_below HB.out hD)
  have HB0 := hide hb0
  have HS := hide hS
  have HSS := hide hss
  have HR := hide hR
  have HK := hide hk
  have HKS := hide hks
  clear h hb0 hsh hF hS hD hful hok hkd hl h6 hk hks hkk hss hR
  go_enter Tryz.func48, Tryz.ntmps48
  go_wp2_with fail
  generalize (w.alloc (.cells #[.slice (some ⟨qF, 0, none⟩) N N, .slice (some ⟨qS, 0, none⟩) N N, .slice (some ⟨qT, 0, none⟩) N N, x3] 55)).alloc (.cells #[.int .u8 1, .int .u16 ss, .slice a len cap] 38) = W at *
  generalize hP : w.heap.size = P at *
  refine (HND.out W (by omega) (rx_below (HB0.out.trans (by rw [← hP] at HB; exact HB.out.mono HB0.out.size)) (n + 1) t _ HX.out)).mono ?_
  rintro e w1 ⟨rfl, hb1⟩
  rw [hnd]
  have HD1 := hide (dx_below hb1 HD.out)
  obtain ⟨⟨p0, p1, p2, p3⟩, q0, q1, q2⟩ := lb_cells (lb_kd (Kd.of_below hb1) HQ.out.1 HQ.out.2.1 HQ.out.2.2 HL.out)
  have HB1 := hide ((Kd.of_below (a := qF) (b := qS) (c := qT) (show Below w.heap.size w W by rw [hP]; exact HB.out)).trans (Kd.of_below hb1))
  have HQL := hide (lb_kd (Kd.of_below hb1) HQ.out.1 HQ.out.2.1 HQ.out.2.2 HL.out)
  clear hb1 hnd
  obtain ⟨vf, fs, sl, ts, hm, hi⟩ := HD1.out
  obtain ⟨e, he⟩ : ∃ e : Nat, (b : Int) + 2 * (R : Int) - 1 = (e : Int) := ⟨b + 2 * R - 1, by omega⟩
  obtain ⟨sb, hsb⟩ : ∃ sb, sl[b]? = some sb := ⟨_, List.getElem?_eq_getElem (by rw [hi.ls]; omega)⟩
  obtain ⟨tb, htb⟩ : ∃ tb, ts[b]? = some tb := ⟨_, List.getElem?_eq_getElem (by rw [hi.lt]; omega)⟩
  have k1 : w1.cell? ⟨qS, b, none⟩ = some (.int .u16 (sb : Nat)) := by
    rw [cell_of_row _ _ _ _ _ _ hm.s]; simp [hsb]
  have k2 : w1.cell? ⟨qT, b, none⟩ = some (.int .i64 tb) := by
    rw [cell_of_row _ _ _ _ _ _ hm.t]; simp [htb]
  have f1 : w1.frozen? ⟨qS, b, none⟩ = false := by simp [World.frozen?, hm.s]
  have f2 : w1.frozen? ⟨qT, b, none⟩ = false := by simp [World.frozen?, hm.t]
  obtain ⟨n1, n2, n3⟩ := dm_apart hm
  have n4 : qT ≠ qS := Ne.symm n3
  have n5 : P ≠ qS := by have := HQ.out; omega
  have n6 : P ≠ qT := by have := HQ.out; omega
  have n7 : P + 1 ≠ qS := by have := HQ.out; omega
  have n8 : P + 1 ≠ qT := by have := HQ.out; omega
  have m1 := dm_setS hm b ss
  have m2 := dm_setT m1.1 b (e : Int)
  have HM := hide m2.1
  have HKD := hide (HB1.out.trans (m1.2.trans m2.2))
  have HI := hide hi
  have HE := hide he
  have i3 : (0 : Int) ≤ (b : Int) := by omega
  have i4 : (b : Int) < (N : Int) := by omega
  have hbN' : b < N := by omega
  clear hm hi m1 m2 hsb htb
  go_wp2
  first | go_end0 | refine bodyPost_ret (results_none rfl _ _ _) rfl ?_
  have e2 : e = b + 2 * R - 1 := by have := HE.out; omega
  refine ⟨rfl, dx_congr ⟨vf, fs, _, _, HM.out, is_set HI.out hbN' (fun s j hsj => by have := HS.out b s j hsj; omega)⟩ (fun i j => ?_) (fun i u j => ?_), HKD.out⟩
  · constructor
    · exact .inl
    · rintro (h | h)
      · exact h
      · rcases h with ⟨p, hp, _⟩ | ⟨h, _⟩ | ⟨h, _⟩ | ⟨h, _⟩ | ⟨h, _⟩ | ⟨h, _⟩
        · rw [HKS.out] at hp; cases hp
        all_goals (have := HK.out; omega)
  · show (S i u j ∨ _) ↔ (S i u j ∨ ((kd t = 1 ∧ i = b ∧ u = st t ∧ j = b + 2 * realN (n + 1) t - 1) ∨ ∃ p ∈ layE (b + 1) (ks t), Sp n p.2 p.1 i u j))
    rw [HKS.out, HSS.out, HR.out, ← e2]
    constructor
    · rintro (h | ⟨h1, h2, h3⟩)
      · exact .inl h
      · exact .inr (.inl ⟨HK.out, h1, h2, h3⟩)
    · rintro (h | ⟨_, h⟩ | ⟨p, hp, _⟩)
      · exact .inl h
      · exact .inr h
      · cases hp
end Go.Proofs.YtccaknabpnpjaaaGreatDoor.A

/- The document's lay: a node that is nothing. -/
namespace Go.Proofs.YtccaknabpnpjaaaGreatDoor.A
open Go.RowKit
set_option linter.unusedVariables false

theorem row_form {w : World} {base : Nat} {v : Value} {l : List Int} (h : Row w base v l) : ∃ a m c, v = .slice a m c := by
  rcases h with ⟨rfl, _⟩ | ⟨b, off, cap, _, rfl, _⟩
  · exact ⟨_, _, _, rfl⟩
  · exact ⟨_, _, _, rfl⟩
set_option maxRecDepth 100000 in
set_option maxHeartbeats 6400000 in
theorem lay_k0 (w0 : World) (qF qS qT B N : Nat) (x3 : Value) (n : Nat) (hn : n ≤ 900) (hN : N ≤ 10000) (hq1 : w0.heap.size ≤ qF) (hq2 : w0.heap.size ≤ qS) (hq3 : w0.heap.size ≤ qT) (t : Ex (n + 1)) (hk : kd t = 0) : LayOf w0 qF qS qT B N x3 (n + 1) t := by
  intro v b F S w h hb0 hsh hr hbN hF hS hD
  have hful := rx_full (n + 1) t v h
  have hrp := real_pos hful
  obtain ⟨hok, hksh⟩ := shapes_open hsh
  have hnd := (nodes_real (n + 1) t).1 hr
  have HND := hide (rnodes_any (n + 1) t v)
  have HX := hide h
  obtain ⟨a, len, cap, rfl, hkd, hst, hl, h6, hkids⟩ := rx_open h
  have hre := real_eq t
  have hlr := len_real (ks t) hful
  have hlen : len ≤ 200 := by omega
  obtain ⟨ss, hss⟩ : ∃ ss, st t = ss := ⟨_, rfl⟩
  rw [hk, hss] at HND HX ⊢
  rw [hss] at hst
  obtain ⟨R, hR⟩ : ∃ R, realN (n + 1) t = R := ⟨_, rfl⟩
  rw [hR] at hr hbN hrp hnd hre
  have HB := hide (two_more w (.cells #[.slice (some ⟨qF, 0, none⟩) N N, .slice (some ⟨qS, 0, none⟩) N N, .slice (some ⟨qT, 0, none⟩) N N, x3] 55) (.cells #[.int .u8 0, .int .u16 ss, .slice a len cap] 38))
  have HL := hide (lb_new w (.slice (some ⟨qF, 0, none⟩) N N) (.slice (some ⟨qS, 0, none⟩) N N) (.slice (some ⟨qT, 0, none⟩) N N) x3 (.int .u8 0) (.int .u16 ss) (.slice a len cap))
  have HQ := hide (dx_low hD)
  have HD := hide (dx_below HB.out hD)
  have HB0 := hide hb0
  have HF := hide hF
  have HS := hide hS
  have HSS := hide hss
  have HR := hide hR
  have HK := hide hk
  have HOK := hide hok
  have HKSH := hide hksh
  have HFUL := hide hful
  have HKIDS := hide hkids
  have HL6 := hide h6
  have HRE := hide hre
  clear h hb0 hsh hF hS hD hful hok hkd hl h6 hk hss hR hksh hkids hre hlr
  go_enter Tryz.func48, Tryz.ntmps48
  go_wp2_with fail
  generalize (w.alloc (.cells #[.slice (some ⟨qF, 0, none⟩) N N, .slice (some ⟨qS, 0, none⟩) N N, .slice (some ⟨qT, 0, none⟩) N N, x3] 55)).alloc (.cells #[.int .u8 0, .int .u16 ss, .slice a len cap] 38) = W at *
  generalize hP : w.heap.size = P at *
  have HBW := hide (show Below w.heap.size w W by rw [hP]; exact HB.out)
  refine (HND.out W (by omega) (rx_below (HB0.out.trans (HBW.out.mono HB0.out.size)) (n + 1) t _ HX.out)).mono ?_
  rintro er w1 ⟨rfl, hb1⟩
  rw [hnd]
  have HD1 := hide (dx_below hb1 HD.out)
  have HB1 := hide ((Kd.of_below (a := qF) (b := qS) (c := qT) HBW.out).trans (Kd.of_below hb1))
  have HQL := hide (lb_kd (Kd.of_below hb1) HQ.out.1 HQ.out.2.1 HQ.out.2.2 HL.out)
  have HB01 := hide (show Below w0.heap.size w0 w1 from (HB0.out.trans (HBW.out.mono HB0.out.size)).trans (hb1.mono (Nat.le_trans HB0.out.size HBW.out.size)))
  clear hb1 hnd
  obtain ⟨e, he⟩ : ∃ e : Nat, (b : Int) + 2 * (R : Int) - 1 = (e : Int) := ⟨b + 2 * R - 1, by omega⟩
  have HE := hide (show e = b + 2 * R - 1 by omega)
  have heN : e < N := by omega
  have hbe : b < e := by omega
  have hbN' : b < N := by omega
  have i3 : (0 : Int) ≤ (b : Int) := by omega
  have i4 : (b : Int) < (N : Int) := by omega
  have hlen0 : len = 0 := by have := ok_none HOK.out (.inl HK.out); have := HL6.out; omega
  subst hlen0
  have HKS := hide (show ks t = [] from List.eq_nil_of_length_eq_zero HL6.out)
  obtain ⟨⟨p0, p1, p2, p3⟩, q0, q1, q2⟩ := lb_cells HQL.out
  go_upto_region 6 with fail
  go_cut [] from 39 to 49 (fun wx => Dx wx qF qS qT B (fun i j => F i j ∨ (i = b ∧ j = e)) S N ∧ Kd qF qS qT w1 wx)
  case first =>
    obtain ⟨vr, l, c1, hrow, hlen1, hnext⟩ := dx_into (dx_below (below_drew1 w1) HD1.out) (a := b) (x := e) (M := N) hbN' HF.out
    have c1' : w1.cell? ⟨qF, b, none⟩ = some vr := c1
    obtain ⟨⟨p0, p1, p2, p3⟩, q0, q1, q2⟩ := lb_cells HQL.out
    have HNX := hide hnext
    have HRW := hide hrow
    have HLN := hide hlen1
    clear c1 hnext hrow hlen1
    go_region_with (go_at_call 49; refine (into_row B vr l e w1.drew (by have := HLN.out; omega) HRW.out).mono ?_; rintro er w3 ⟨v', rfl, hr3, hb3⟩; obtain ⟨ax, lx, cx, rfl⟩ := row_form hr3; obtain ⟨⟨g1, g2⟩, g3, g4⟩ := HNX.out w3 _ hb3 hr3; obtain ⟨⟨j0, j1, j2, j3⟩, j4, j5, j6⟩ := lb_cells (lb_kd (Kd.of_below hb3) HQ.out.1 HQ.out.2.1 HQ.out.2.2 (lb_kd (Kd.of_below (below_drew1 w1)) HQ.out.1 HQ.out.2.1 HQ.out.2.2 HQL.out)))
    all_goals (go_wp2_with fail; go_meet; exact ⟨g3, (Kd.of_below (below_drew1 w1)).trans g4⟩)
  case rest =>
  obtain ⟨hd2, hk2⟩ := hcut
  have HD2 := hide hd2
  have HK2 := hide hk2
  obtain ⟨⟨p0, p1, p2, p3⟩, q0, q1, q2⟩ := lb_cells (lb_kd hk2 HQ.out.1 HQ.out.2.1 HQ.out.2.2 HQL.out)
  clear hd2 hk2
  go_wp2_with fail
  go_loopw [7, 8, 9, 10] (fun _ _ i _ wr => i = .int .i64 0 ∧ wr = wc) (fun _ _ _ _ _ => 0)
  case atStart => exact ⟨rfl, rfl⟩
  case round =>
    obtain ⟨rfl, rfl⟩ := hrel
    go_wp2
    first | go_end0 | refine bodyPost_ret (results_none rfl _ _ _) rfl ?_
    refine ⟨rfl, dx_congr HD2.out (fun i j => ?_) (fun i u j => ?_), HB1.out.trans HK2.out⟩
    · rw [fr_node]
      unfold NodeF
      rw [HKS.out, HK.out, HR.out, ← HE.out]
      constructor
      · rintro (h | h)
        · exact .inl h
        · exact .inr (.inr (.inl ⟨rfl, h⟩))
      · rintro (h | ⟨p, hp, _⟩ | ⟨_, h⟩ | ⟨h, _⟩ | ⟨h, _⟩ | ⟨h, _⟩ | ⟨h, _⟩)
        · exact .inl h
        · cases hp
        · exact .inr h
        all_goals omega
    · show S i u j ↔ (S i u j ∨ ((kd t = 1 ∧ i = b ∧ u = st t ∧ j = b + 2 * realN (n + 1) t - 1) ∨ ∃ p ∈ layE (b + 1) (ks t), Sp n p.2 p.1 i u j))
      rw [HKS.out, HK.out]
      constructor
      · exact .inl
      · rintro (h | ⟨h, _⟩ | ⟨p, hp, _⟩)
        · exact h
        · omega
        · cases hp
end Go.Proofs.YtccaknabpnpjaaaGreatDoor.A

/- The document's lay: what its rounds add, part by part. -/
namespace Go.Proofs.YtccaknabpnpjaaaGreatDoor.A
open Go.RowKit

/-- What a round adds of its own. -/
def stK (K b e sr pb pe i j : Nat) : Prop := (K = 2 ∧ i = sr ∧ j = pb) ∨ (K ≠ 2 ∧ ((i = b ∧ j = pb) ∨ (i = pe ∧ j = e) ∨ (K = 4 ∧ i = pe ∧ j = pb)))
def ND {n : Nat} (K b e : Nat) (P : List (Nat × Ex n)) (k i j : Nat) : Prop := ∃ m, m < k ∧ stK K b e (src b (peE P) m) (pbE P m) (peE P m) i j
theorem nd_zero {n : Nat} {K b e : Nat} {P : List (Nat × Ex n)} {i j : Nat} : ¬ ND K b e P 0 i j := fun ⟨_, h, _⟩ => by omega
theorem nd_next {n : Nat} {K b e : Nat} {P : List (Nat × Ex n)} {k i j : Nat} : ND K b e P (k + 1) i j ↔ ND K b e P k i j ∨ stK K b e (src b (peE P) k) (pbE P k) (peE P k) i j := by
  constructor
  · rintro ⟨m, hm, h⟩
    by_cases e : m = k
    · subst e; exact .inr h
    · exact .inl ⟨m, by omega, h⟩
  · rintro (⟨m, hm, h⟩ | h)
    · exact ⟨m, by omega, h⟩
    · exact ⟨k, by omega, h⟩
theorem lt_or {F : Nat → Nat → Prop} {a x N : Nat} (h : ∀ i j, F i j → j < N) (hx : x < N) : ∀ i j, (F i j ∨ (i = a ∧ j = x)) → j < N := fun i j h' => by
  rcases h' with h' | ⟨_, rfl⟩
  · exact h i j h'
  · exact hx
theorem src_at {n : Nat} {l : List (Ex n)} {b k : Nat} {x : Ex n} (hx : l[k]? = some x) : src b (peE (layE (b + 1) l)) (k + 1) = posE (b + 1) l k + 2 * realN n x - 1 ∧ pbE (layE (b + 1) l) k = posE (b + 1) l k ∧ peE (layE (b + 1) l) k = posE (b + 1) l k + 2 * realN n x - 1 := by
  obtain ⟨e1, e2⟩ := pb_at (lay_at l (b + 1) k x hx)
  exact ⟨e2, e1, e2⟩
/-- The whole, kind by kind. -/
theorem lay_two' {n : Nat} {F : Nat → Nat → Prop} {t : Ex (n + 1)} {b e : Nat} (hk : kd t = 2) (he : e = b + 2 * realN (n + 1) t - 1) (i j : Nat) :
    ((FK F (b + 1) (ks t) (ks t).length i j ∨ ND 2 b e (layE (b + 1) (ks t)) (ks t).length i j) ∨ (i = src b (peE (layE (b + 1) (ks t))) (ks t).length ∧ j = e)) ↔ (F i j ∨ Fr (n + 1) t b i j) := by
  rw [fr_node]
  unfold NodeF FK
  rw [List.take_of_length_le (by rw [lay_len]; exact Nat.le_refl _), hk, ← he, cj_iff, lay_len]
  constructor
  · rintro (((h | h) | ⟨m, hm, h⟩) | h)
    · exact .inl h
    · exact .inr (.inl h)
    · rcases h with ⟨_, h⟩ | ⟨h, _⟩
      · exact .inr (.inr (.inr (.inl ⟨rfl, .inl ⟨m, hm, h⟩⟩)))
      · omega
    · exact .inr (.inr (.inr (.inl ⟨rfl, .inr h⟩)))
  · rintro (h | h | ⟨h, _⟩ | ⟨_, ⟨m, hm, h⟩ | h⟩ | ⟨h, _⟩ | ⟨h, _⟩ | ⟨h, _⟩)
    · exact .inl (.inl (.inl h))
    · exact .inl (.inl (.inr h))
    · omega
    · exact .inl (.inr ⟨m, hm, .inl ⟨rfl, h⟩⟩)
    · exact .inr h
    all_goals omega
theorem lay_three' {n : Nat} {F : Nat → Nat → Prop} {t : Ex (n + 1)} {b e : Nat} (hk : kd t = 3) (he : e = b + 2 * realN (n + 1) t - 1) (i j : Nat) :
    (FK F (b + 1) (ks t) (ks t).length i j ∨ ND 3 b e (layE (b + 1) (ks t)) (ks t).length i j) ↔ (F i j ∨ Fr (n + 1) t b i j) := by
  rw [fr_node]
  unfold NodeF FK
  rw [List.take_of_length_le (by rw [lay_len]; exact Nat.le_refl _), hk, ← he, some_part (P := layE (b + 1) (ks t)) (Q := fun x y => (i = b ∧ j = x) ∨ (i = y ∧ j = e)), lay_len]
  constructor
  · rintro ((h | h) | ⟨m, hm, h⟩)
    · exact .inl h
    · exact .inr (.inl h)
    · rcases h with ⟨h, _⟩ | ⟨_, h | h | ⟨h, _⟩⟩
      · omega
      · exact .inr (.inr (.inr (.inr (.inl ⟨rfl, m, hm, .inl h⟩))))
      · exact .inr (.inr (.inr (.inr (.inl ⟨rfl, m, hm, .inr h⟩))))
      · omega
  · rintro (h | h | ⟨h, _⟩ | ⟨h, _⟩ | ⟨_, m, hm, h⟩ | ⟨h, _⟩ | ⟨h, _⟩)
    · exact .inl (.inl h)
    · exact .inl (.inr h)
    · omega
    · omega
    · rcases h with h | h
      · exact .inr ⟨m, hm, .inr ⟨by omega, .inl h⟩⟩
      · exact .inr ⟨m, hm, .inr ⟨by omega, .inr (.inl h)⟩⟩
    all_goals omega
theorem lay_four' {n : Nat} {F : Nat → Nat → Prop} {t : Ex (n + 1)} {b e : Nat} (hk : kd t = 4) (hl : (ks t).length = 1) (he : e = b + 2 * realN (n + 1) t - 1) (i j : Nat) :
    (FK (fun i j => F i j ∨ (i = b ∧ j = e)) (b + 1) (ks t) (ks t).length i j ∨ ND 4 b e (layE (b + 1) (ks t)) (ks t).length i j) ↔ (F i j ∨ Fr (n + 1) t b i j) := by
  rw [fr_node]
  unfold NodeF FK
  rw [List.take_of_length_le (by rw [lay_len]; exact Nat.le_refl _), hk, ← he, some_part (P := layE (b + 1) (ks t)) (Q := fun x y => (i = b ∧ j = x) ∨ (i = b ∧ j = e) ∨ (i = y ∧ j = x) ∨ (i = y ∧ j = e)), lay_len, hl]
  constructor
  · rintro (((h | h) | h) | ⟨m, hm, h⟩)
    · exact .inl h
    · exact .inr (.inr (.inr (.inr (.inr (.inl ⟨rfl, 0, by omega, .inr (.inl h)⟩)))))
    · exact .inr (.inl h)
    · rcases h with ⟨h, _⟩ | ⟨_, h | h | ⟨_, h⟩⟩
      · omega
      · exact .inr (.inr (.inr (.inr (.inr (.inl ⟨rfl, m, hm, .inl h⟩)))))
      · exact .inr (.inr (.inr (.inr (.inr (.inl ⟨rfl, m, hm, .inr (.inr (.inr h))⟩)))))
      · exact .inr (.inr (.inr (.inr (.inr (.inl ⟨rfl, m, hm, .inr (.inr (.inl h))⟩)))))
  · rintro (h | h | ⟨h, _⟩ | ⟨h, _⟩ | ⟨h, _⟩ | ⟨_, m, hm, h⟩ | ⟨h, _⟩)
    · exact .inl (.inl (.inl h))
    · exact .inl (.inr h)
    · omega
    · omega
    · omega
    · rcases h with h | h | h | h
      · exact .inr ⟨m, hm, .inr ⟨by omega, .inl h⟩⟩
      · exact .inl (.inl (.inr h))
      · exact .inr ⟨m, hm, .inr ⟨by omega, .inr (.inr ⟨rfl, h⟩)⟩⟩
      · exact .inr ⟨m, hm, .inr ⟨by omega, .inr (.inl h)⟩⟩
    · omega
theorem lay_five' {n : Nat} {F : Nat → Nat → Prop} {t : Ex (n + 1)} {b e : Nat} (hk : kd t = 5) (hl : (ks t).length = 1) (he : e = b + 2 * realN (n + 1) t - 1) (i j : Nat) :
    (FK (fun i j => F i j ∨ (i = b ∧ j = e)) (b + 1) (ks t) (ks t).length i j ∨ ND 5 b e (layE (b + 1) (ks t)) (ks t).length i j) ↔ (F i j ∨ Fr (n + 1) t b i j) := by
  rw [fr_node]
  unfold NodeF FK
  rw [List.take_of_length_le (by rw [lay_len]; exact Nat.le_refl _), hk, ← he, some_part (P := layE (b + 1) (ks t)) (Q := fun x y => (i = b ∧ j = x) ∨ (i = b ∧ j = e) ∨ (i = y ∧ j = e)), lay_len, hl]
  constructor
  · rintro (((h | h) | h) | ⟨m, hm, h⟩)
    · exact .inl h
    · exact .inr (.inr (.inr (.inr (.inr (.inr ⟨rfl, 0, by omega, .inr (.inl h)⟩)))))
    · exact .inr (.inl h)
    · rcases h with ⟨h, _⟩ | ⟨_, h | h | ⟨h, _⟩⟩
      · omega
      · exact .inr (.inr (.inr (.inr (.inr (.inr ⟨rfl, m, hm, .inl h⟩)))))
      · exact .inr (.inr (.inr (.inr (.inr (.inr ⟨rfl, m, hm, .inr (.inr h)⟩)))))
      · omega
  · rintro (h | h | ⟨h, _⟩ | ⟨h, _⟩ | ⟨h, _⟩ | ⟨h, _⟩ | ⟨_, m, hm, h⟩)
    · exact .inl (.inl (.inl h))
    · exact .inl (.inr h)
    · omega
    · omega
    · omega
    · omega
    · rcases h with h | h | h
      · exact .inr ⟨m, hm, .inr ⟨by omega, .inl h⟩⟩
      · exact .inl (.inl (.inr h))
      · exact .inr ⟨m, hm, .inr ⟨by omega, .inr (.inl h)⟩⟩
theorem lay_sets' {n : Nat} {S : Nat → Nat → Nat → Prop} {t : Ex (n + 1)} {b : Nat} (hk : kd t ≠ 1) (i u j : Nat) : SK S (b + 1) (ks t) (ks t).length i u j ↔ (S i u j ∨ Sp (n + 1) t b i u j) := by
  unfold SK
  rw [List.take_of_length_le (by rw [lay_len]; exact Nat.le_refl _)]
  show _ ↔ (S i u j ∨ ((kd t = 1 ∧ i = b ∧ u = st t ∧ j = b + 2 * realN (n + 1) t - 1) ∨ ∃ p ∈ layE (b + 1) (ks t), Sp n p.2 p.1 i u j))
  constructor
  · rintro (h | h)
    · exact .inl h
    · exact .inr (.inr h)
  · rintro (h | ⟨h, _⟩ | h)
    · exact .inl h
    · exact absurd h hk
    · exact .inr h
/-- What a round finds is of states that there are. -/
theorem fnd_lt {n : Nat} {F : Nat → Nat → Prop} {t : Ex (n + 1)} {K b e N k : Nat} (hf : full (n + 1) t) (hF : ∀ i j, F i j → j < N) (he : e = b + 2 * realN (n + 1) t - 1) (heN : e < N) (hk : k ≤ (ks t).length) (i j : Nat) (h : FK F (b + 1) (ks t) k i j ∨ ND K b e (layE (b + 1) (ks t)) k i j) : j < N := by
  have hg := lay_geo hf b
  rw [← he] at hg
  rcases h with (h | ⟨p, hp, h⟩) | ⟨m, hm, h⟩
  · exact hF i j h
  · obtain ⟨a1, a2, a3, a4, _, _⟩ := lay_in hf (List.mem_of_mem_take hp)
    have := fr_rng n p.2 p.1 i j a4 h
    unfold en at a3
    omega
  · have h1 := hg.mid m (by omega)
    have h2 := hg.hi m (by omega)
    rcases h with ⟨_, _, rfl⟩ | ⟨_, ⟨_, rfl⟩ | ⟨_, rfl⟩ | ⟨_, _, rfl⟩⟩ <;> omega
end Go.Proofs.YtccaknabpnpjaaaGreatDoor.A
