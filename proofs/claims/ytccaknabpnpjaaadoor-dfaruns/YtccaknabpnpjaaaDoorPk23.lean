/- The program's turn. -/
import Derived.Test.YtccaknabpnpjaaaDoorPk22
import Derived.Deep.RegionLaw
namespace Go.Proofs.YtccaknabpnpjaaaDoor.A
open Go.RowKit

theorem info42 : (Tryd.prog.info? 42).map (fun i => (i.zero, i.size, i.bytes)) = some (some (.agg #[.int .u8 0, .int .u16 0, .slice none 0 0]), 3, 32) := by kernel_rfl
/-- A struct of three cells. -/
def St3 (w : World) (b : Nat) (k s : Nat) (v : Value) : Prop := w.heap[b]? = some (.cells #[.int .u8 k, .int .u16 s, v] 42 (0, 0))
theorem st3_cells {w : World} {b k s : Nat} {v : Value} (h : St3 w b k s v) : w.cell? ⟨b, 0, none⟩ = some (.int .u8 k) ∧ w.cell? ⟨b, 1, none⟩ = some (.int .u16 s) ∧ w.cell? ⟨b, 2, none⟩ = some v ∧ ∀ j, w.frozen? ⟨b, j, none⟩ = false := by
  unfold St3 at h
  refine ⟨?_, ?_, ?_, fun j => ?_⟩ <;> simp [World.cell?, World.frozen?, h]
theorem st3_set {w : World} {b k s : Nat} {v : Value} (h : St3 w b k s v) (u : Value) : St3 (w.setCell ⟨b, 2, none⟩ u) b k s u := by
  unfold St3 at h ⊢
  rw [setCell_eq_setRow _ _ _ _ _ _ _ h, setRow_heap _ _ _ _ _ _ h]
  rfl
theorem st3_lt {w : World} {b k s : Nat} {v : Value} (h : St3 w b k s v) : b < w.heap.size := (Array.getElem?_eq_some_iff.1 h).1
theorem st3_below {w w' : World} {b k s B : Nat} {v : Value} (h : St3 w b k s v) (hb : Below B w w') (hB : b < B) : St3 w' b k s v := (hb.block b hB).trans h
theorem st3_grown {w w' : World} {b k s : Nat} {v : Value} {r : Option Nat} (h : St3 w b k s v) (hg : w.grownBy w' r) (hr : some b ≠ r) : St3 w' b k s v := (hg.block b (st3_lt h) hr).trans h
theorem one_newN (w : World) (x : Nd) (t : TypeId) : ∀ j u, (cellsO x)[j]? = some u → (w.alloc (.cells #[.int .u8 x.k, .int .u16 x.s, .slice x.a x.l x.c] t)).cell? ((⟨w.heap.size, 0, none⟩ : Addr).add j) = some u := by
  intro j u hj
  match j with
  | 0 => simp [cellsO] at hj; subst hj; simp [Addr.add]
  | 1 => simp [cellsO] at hj; subst hj; simp [Addr.add]
  | 2 => simp [cellsO] at hj; subst hj; simp [Addr.add]
  | j + 3 => simp [cellsO] at hj

/-- What a call has made: an expression in new memory. -/
def Makes (w : World) (n : Nat) (t : Ex n) (e : Ending) (w' : World) : Prop := ∃ (y : Nd) (S : List Nat), e = .returned (.agg #[.int .u8 y.k, .int .u16 y.s, .slice y.a y.l y.c]) ∧ Tr w' n t y S ∧ S.Nodup ∧ (∀ b ∈ S, w.heap.size ≤ b) ∧ Below w.heap.size w w'
theorem sum_mem {α : Type} (f : α → Nat) : ∀ (l : List α) (x : α), x ∈ l → f x ≤ (l.map f).sum
  | [], x, h => by cases h
  | y :: r, x, h => by
    rw [List.map_cons, List.sum_cons]
    rcases List.mem_cons.1 h with rfl | h
    · omega
    · have := sum_mem f r x h; omega
theorem sum_len {α : Type} (f : α → Nat) : ∀ (l : List α), (∀ x ∈ l, 1 ≤ f x) → l.length ≤ (l.map f).sum
  | [], _ => Nat.le_refl _
  | y :: r, h => by
    rw [List.map_cons, List.sum_cons, List.length_cons]
    have := sum_len f r (fun x hx => h x (by simp [hx]))
    have := h y (by simp)
    omega
theorem ureal_pos {n : Nat} {t : Ex n} (h : full n t) : 1 ≤ realN n t := by
  cases n with
  | zero => exact h.elim
  | succ n => show 1 ≤ 1 + _; omega
theorem real_len {n : Nat} {t : Ex (n + 1)} (h : full (n + 1) t) : (ks t).length + 1 ≤ realN (n + 1) t := by
  have := sum_len (fun x => realN n x) (ks t) (fun x hx => ureal_pos (h x hx))
  show _ ≤ 1 + ((ks t).map (fun x => realN n x)).sum
  omega
theorem real_kid {n : Nat} {t : Ex (n + 1)} {x : Ex n} (h : x ∈ ks t) : realN n x ≤ realN (n + 1) t := by
  have := sum_mem (fun x => realN n x) (ks t) x h
  show _ ≤ 1 + ((ks t).map (fun x => realN n x)).sum
  omega

/-- One part more. -/
theorem mkg_next {base q k s : Nat} {wr w2 w3 : World} {n : Nat} {l : List (Ex n)} {v : Value} {ys : List Nd} {Ss : List (List Nat)} (h : Mkg base wr n l v ys Ss) (hst : St3 wr q k s v) (hq : q < base) {lo : Nat} (hlo : wr.heap.size ≤ lo) (hbase : base ≤ wr.heap.size) {e : Ex n} {y : Nd} {T : List Nat}
    (hT : Tr w2 n e y T) (hTn : T.Nodup) (hTl : ∀ b ∈ T, lo ≤ b) (hb : Below lo wr w2) {g cap : Nat} (o : Obj)
    (hown : w3.ownsRow base 42 3 (.slice (some ⟨g, 0, none⟩) (l.length + 1) cap) (l.length + 1) (cellsN ys ++ cellsO y)) (hgrow : (w2.alloc o).grownBy w3 v.ownBlock) (hat : v.ownBlock = some g ∨ g = w2.heap.size + 1) :
    Mkg base (w3.setCell ⟨q, 2, none⟩ (.slice (some ⟨g, 0, none⟩) (l.length + 1) cap)) n (l ++ [e]) (.slice (some ⟨g, 0, none⟩) (l.length + 1) cap) (ys ++ [y]) (Ss ++ [T]) ∧
    St3 (w3.setCell ⟨q, 2, none⟩ (.slice (some ⟨g, 0, none⟩) (l.length + 1) cap)) q k s (.slice (some ⟨g, 0, none⟩) (l.length + 1) cap) ∧
    Below q wr (w3.setCell ⟨q, 2, none⟩ (.slice (some ⟨g, 0, none⟩) (l.length + 1) cap)) := by
  have hv : ∀ g, v.ownBlock = some g → base ≤ g ∧ g < wr.heap.size := fun g hg => h.1.lt g hg
  have hb0 : Below wr.heap.size wr w2 := hb.mono hlo
  have h2 := mkg_below h hb0
  have h3 := mkg_below h2 ((Below.refl w2.heap.size w2).alloc (Nat.le_refl _) o)
  have hTw := tr_lt n e y T hT
  have hT3 : Tr (w2.alloc o) n e y T := tr_keep n e y T (fun b hb' => Below.heap_alloc _ _ _ (hTw b hb')) hT
  have s2 := st3_below (st3_below hst hb0 (st3_lt hst)) ((Below.refl w2.heap.size w2).alloc (Nat.le_refl _) o) (by have := st3_lt hst; have := hb0.size; omega)
  have s3 := st3_grown s2 hgrow (fun e => by have := (hv q e.symm).1; omega)
  have m := mkg_app h3 hT3 hTn (lo := lo) (fun b hb' => ⟨hTl b hb', by have := hTw b hb'; simp; omega⟩) (by omega) (fun b hb' => by have := (h.2.2.2.2.2.1 b hb').2; omega) (fun g hg => by have := (hv g hg).2; omega) hown hgrow (by simpa using hat)
  refine ⟨mkg_set m hq _, st3_set s3 _, ?_⟩
  have b1 : Below base wr (w2.alloc o) := (hb.mono (by omega)).alloc (by have := hb0.size; omega) o
  exact ((b1.grown hgrow (by have := hb0.size; simp; omega) (fun g hg => (hv g hg).1)).mono (by omega)).setCell (by simp) _
end Go.Proofs.YtccaknabpnpjaaaDoor.A

/- The program's duplicate, walked. -/
namespace Go.Proofs.YtccaknabpnpjaaaDoor.A
open Go.RowKit

theorem ubelow_drew1 (w : World) : Below w.heap.size w w.drew := (Below.refl _ _).drew
theorem cell_alloc {w : World} {a : Addr} {v : Value} (h : w.cell? a = some v) (o : Obj) : (w.alloc o).cell? a = some v := (World.cell?_of_block (Below.heap_alloc w o a.block (cell_lt h))).trans h
set_option maxRecDepth 100000 in
set_option maxHeartbeats 12800000 in
theorem dup_any : ∀ (n : Nat) (t : Ex n) (v : Value) (w : World), Rx w n t v → shapesE n t = true → realN n t ≤ 100 →
    Calls Tryd.prog 93 #[v] w fun e w' => Makes w n t e w' := by
  intro n
  induction n with
  | zero => intro t v w h; exact h.elim
  | succ n ih =>
    intro t v w h hsh hrn
    obtain ⟨i0, hi0, hz0, hz1, hz2⟩ := info_parts info42
    have hrl := real_len (rx_full _ _ _ h)
    have HRK := hide (fun (x : Ex n) (hx : x ∈ ks t) => Nat.le_trans (real_kid hx) hrn)
    obtain ⟨a, len, cap, rfl, hk, hs, hl, h6, hkids⟩ := rx_open h
    obtain ⟨hok, hall⟩ : okE (kd t) (st t) (ks t).length = true ∧ ∀ x ∈ ks t, shapesE n x = true := by
      have e : (okE (kd t) (st t) (ks t).length && (ks t).all (fun x => shapesE n x)) = true := hsh
      rw [Bool.and_eq_true, List.all_eq_true] at e
      exact e
    have HE := hide (show t = ((kd t, st t, ks t) : Ex (n + 1)) from rfl)
    rw [h6] at hok hrl
    have hlen : len ≤ 100 := by omega
    generalize kd t = kk at *
    generalize st t = ss at *
    generalize ks t = l at *
    have HK := hide hkids
    have HS := hide hall
    have HL := hide h6
    obtain ⟨q, hq⟩ : ∃ q, w.heap.size = q := ⟨_, rfl⟩
    have hW1 := ((((Below.refl w.heap.size w).alloc (Nat.le_refl _) (.cells #[.int .u8 kk, .int .u16 ss, .slice a len cap] 42)).alloc (by simp) (.cells #[.int .u8 0, .int .u16 0, .slice none 0 0] 42)).alloc (by simp; omega) (.cells #[.int .u8 kk, .int .u16 ss, .slice none 0 0] 42))
    have hW2 : (((w.alloc (.cells #[.int .u8 kk, .int .u16 ss, .slice a len cap] 42)).alloc (.cells #[.int .u8 0, .int .u16 0, .slice none 0 0] 42)).alloc (.cells #[.int .u8 kk, .int .u16 ss, .slice none 0 0] 42)).heap.size = q + 3 := by simp [hq]
    have hW3 : St3 (((w.alloc (.cells #[.int .u8 kk, .int .u16 ss, .slice a len cap] 42)).alloc (.cells #[.int .u8 0, .int .u16 0, .slice none 0 0] 42)).alloc (.cells #[.int .u8 kk, .int .u16 ss, .slice none 0 0] 42)) (q + 2) kk ss (.slice none 0 0) := by
      have e := heap_alloc_last ((w.alloc (.cells #[.int .u8 kk, .int .u16 ss, .slice a len cap] 42)).alloc (.cells #[.int .u8 0, .int .u16 0, .slice none 0 0] 42)) (.cells #[.int .u8 kk, .int .u16 ss, .slice none 0 0] 42)
      rw [show ((w.alloc (.cells #[.int .u8 kk, .int .u16 ss, .slice a len cap] 42)).alloc (.cells #[.int .u8 0, .int .u16 0, .slice none 0 0] 42)).heap.size = q + 2 by simp [hq]] at e
      exact e
    have hW4 : St3 (((w.alloc (.cells #[.int .u8 kk, .int .u16 ss, .slice a len cap] 42)).alloc (.cells #[.int .u8 0, .int .u16 0, .slice none 0 0] 42)).alloc (.cells #[.int .u8 kk, .int .u16 ss, .slice none 0 0] 42)) q kk ss (.slice a len cap) := by
      have e := heap_alloc_last w (.cells #[.int .u8 kk, .int .u16 ss, .slice a len cap] 42)
      rw [hq] at e
      exact (Below.heap_alloc _ _ _ (by simp [hq]; omega)).trans ((Below.heap_alloc _ _ _ (by simp [hq])).trans e)
    have hW5 : St3 (((w.alloc (.cells #[.int .u8 kk, .int .u16 ss, .slice a len cap] 42)).alloc (.cells #[.int .u8 0, .int .u16 0, .slice none 0 0] 42)).alloc (.cells #[.int .u8 kk, .int .u16 ss, .slice none 0 0] 42)) (q + 1) 0 0 (.slice none 0 0) := by
      have e := heap_alloc_last (w.alloc (.cells #[.int .u8 kk, .int .u16 ss, .slice a len cap] 42)) (.cells #[.int .u8 0, .int .u16 0, .slice none 0 0] 42)
      rw [show (w.alloc (.cells #[.int .u8 kk, .int .u16 ss, .slice a len cap] 42)).heap.size = q + 1 by simp [hq]] at e
      exact (Below.heap_alloc _ _ _ (by simp [hq])).trans e
    have HW := hide (And.intro hW1 (And.intro hW2 (And.intro hW3 (And.intro hW4 hW5))))
    clear h hkids hsh hok hall h6 hrn hrl hl hW1 hW2 hW3 hW4 hW5
    go_enter Tryd.func93, Tryd.ntmps93
    go_wp2_with fail
    obtain ⟨hW1, hW2, hW3, hW4, hW5⟩ := HW.out
    clear HW
    generalize ((w.alloc (.cells #[.int .u8 kk, .int .u16 ss, .slice a len cap] 42)).alloc (.cells #[.int .u8 0, .int .u16 0, .slice none 0 0] 42)).alloc (.cells #[.int .u8 kk, .int .u16 ss, .slice none 0 0] 42) = W at *
    rw [hq] at hW1
    have HQ := hide hq
    obtain ⟨q2, hq2⟩ : ∃ q2, q + 1 + 1 = q2 := ⟨_, rfl⟩
    rw [hq2]
    rw [show q + 2 = q2 by omega] at hW3
    have HQ2 := hide (show q2 = q + 2 by omega)
    clear hq2
    have HW1 := hide hW1
    have HW2 := hide hW2
    have HW3 := hide hW3
    have HW4 := hide hW4
    have HW5 := hide hW5
    clear hq hW1 hW2 hW3 hW4 hW5
    go_loopw [5, 14] (fun _ u wr => ∃ (i : Nat) (vv : Value) (ys : List Nd) (Ss : List (List Nat)), i ≤ len ∧ u = .int .i64 i ∧ St3 wr q2 kk ss vv ∧ Mkg (q + 3) wr n (l.take i) vv ys Ss ∧ Below q2 W wr ∧ q + 3 ≤ wr.heap.size) (fun _ u _ => len - (intOf u).toNat)
    case atStart => exact ⟨0, _, [], [], Nat.zero_le _, rfl, HW3.out, mkg_nil _ _ _, Below.refl _ _, by rw [HW2.out]; exact Nat.le_refl _⟩
    case round =>
      obtain ⟨i, vv, ys, Ss, hi, rfl, hst, hmk, hb, hsz⟩ := hrel
      by_cases hlt : i < len
      · obtain ⟨x, b, off, c0, c1, c2, rfl, hx, k0, k1, k2, k3⟩ := HK.out wr (by rw [HQ.out]; exact HW1.out.trans (hb.mono (by have := HQ2.out; omega))) i hlt
        obtain ⟨kx, sx, ax, lx, cx, rfl, rfl, rfl⟩ := rx_cells k3
        have HMEM := hide (List.mem_of_getElem? hx)
        have HN := hide (take_at hx)
        have HLI := hide (show (l.take i).length = i by simp; have := HL.out; omega)
        have i3 : (0 : Int) ≤ (i : Int) := by omega
        have i4 : (i : Int) < (len : Int) := by omega
        have hbA := (Below.refl wr.heap.size wr).alloc (Nat.le_refl _) (.cells #[.int .u8 kx, .int .u16 sx, .slice ax lx cx] 42)
        have HXA := hide (rx_below hbA n x _ k3)
        have HST := hide (st3_below hst hbA (st3_lt hst))
        have HMK := hide (mkg_below hmk hbA)
        have HBA := hide (hb.alloc (by have := HQ2.out; omega) (.cells #[.int .u8 kx, .int .u16 sx, .slice ax lx cx] 42))
        have HSZ := hide (show q + 3 ≤ (wr.alloc (.cells #[.int .u8 kx, .int .u16 sx, .slice ax lx cx] 42)).heap.size by simp; omega)
        have HBX := hide (box3 wr (.int .u8 kx) (.int .u16 sx) (.slice ax lx cx) 42)
        have HSA := hide (show (wr.alloc (.cells #[.int .u8 kx, .int .u16 sx, .slice ax lx cx] 42)).heap.size = wr.heap.size + 1 by simp)
        clear hx k3 hbA hst hmk hb hsz
        go_wp2_with fail
        obtain ⟨t0, t1, t2⟩ := HBX.out
        clear HBX k0 k1 k2
        generalize wr.alloc (.cells #[.int .u8 kx, .int .u16 sx, .slice ax lx cx] 42) = V at *
        obtain ⟨z, hz⟩ : ∃ z, wr.heap.size = z := ⟨_, rfl⟩
        rw [hz] at t0 t1 t2 HSA
        rw [hz]
        clear hz
        obtain ⟨s0, s1, s2, s3⟩ := st3_cells HST.out
        have s4 := s3 2
        clear s0 s1 s3
        have HOW := hide (fun (w2 : World) (hb2 : Below V.drew.heap.size V.drew w2) (y : Nd) => show (w2.alloc (.cells #[.int .u8 y.k, .int .u16 y.s, .slice y.a y.l y.c] 42)).ownsRow (q + 3) 42 3 vv i (cellsN ys) ∧ (∀ j u, (cellsO y)[j]? = some u → (w2.alloc (.cells #[.int .u8 y.k, .int .u16 y.s, .slice y.a y.l y.c] 42)).cell? ((⟨w2.heap.size, 0, none⟩ : Addr).add j) = some u) ∧ q + 3 ≤ (w2.alloc (.cells #[.int .u8 y.k, .int .u16 y.s, .slice y.a y.l y.c] 42)).heap.size ∧ (w2.alloc (.cells #[.int .u8 y.k, .int .u16 y.s, .slice y.a y.l y.c] 42)).heap.size = w2.heap.size + 1 from
          ⟨by have := (own_below HMK.out.1 ((ubelow_drew1 V).trans hb2)).alloc (.cells #[.int .u8 y.k, .int .u16 y.s, .slice y.a y.l y.c] 42); rw [HLI.out] at this; exact this, one_newN w2 y 42, by have := hb2.size; have := HSZ.out; simp at *; omega, by simp⟩)
        have HSW := hide (fun (w2 : World) (hb2 : Below V.drew.heap.size V.drew w2) (o : Obj) (w3 : World) (hgr : (w2.alloc o).grownBy w3 vv.ownBlock) => show w3.cell? ⟨q2, 2, none⟩ = some vv ∧ w3.frozen? ⟨q2, 2, none⟩ = false from by
          have b1 := (ubelow_drew1 V).trans hb2
          have st1 := st3_below HST.out b1 (st3_lt HST.out)
          have st2 : St3 (w2.alloc o) q2 kk ss vv := (Below.heap_alloc _ _ _ (st3_lt st1)).trans st1
          have st3 := st3_grown st2 hgr (fun e => by have := (HMK.out.1.lt q2 e.symm).1; have := HQ2.out; omega)
          obtain ⟨_, _, j2, j3⟩ := st3_cells st3
          exact ⟨j2, j3 2⟩)
        go_region_law ((first | (refine step_append_lies _ (by rfl) (.tmp 19) (.tmp 22) 40 (by rfl) (q + 3) 42 i0 (.agg #[.int .u8 0, .int .u16 0, .slice none 0 0]) 3 32 Tryd.underlying40 hi0 hz0 hz1 hz2 rfl (by omega) vv i (cellsN ys) (by rfl) (HOW.out w2 hb2 y).1 ⟨w2.heap.size, 0, none⟩ 1 1 (cellsO y) (by rfl) rfl (HOW.out w2 hb2 y).2.1 (cellsO_one' y) (by omega) (by unfold maxLen; omega) (by omega) (HOW.out w2 hb2 y).2.2.1 _ (HOW.out w2 hb2 y).2.2.2 ?_; intro g cap' w3 hown3 hgrow3 hat3 hlt3; obtain ⟨g5, g6⟩ := HSW.out w2 hb2 _ w3 hgrow3) | (go_simp; go_at_call 93; refine (ih x _ _ (rx_below (ubelow_drew1 V) n x _ HXA.out) (HS.out x HMEM.out) (HRK.out x HMEM.out)).mono ?_; rintro e w2 ⟨y, T, rfl, hT1, hT2, hT3, hb2⟩; have u2 := (hb2.cell (p := ⟨q2, 2, none⟩) (cell_lt s2)).trans s2; have u3 := fun o => cell_alloc u2 o; go_simp)))
        all_goals
          have HR := hide (mkg_next HMK.out HST.out (by have := HQ2.out; omega) (lo := V.heap.size) (Nat.le_refl _) HSZ.out hT1 hT2 hT3 ((ubelow_drew1 V).trans hb2) _ (by rw [HLI.out]; exact hown3) hgrow3 hat3)
          have HZ3 := hide (show q + 3 ≤ w3.heap.size by have := hgrow3.size; have := hb2.size; have := HSZ.out; simp at *; omega)
          rw [HLI.out] at HR
          clear hown3 hgrow3 hat3 hlt3 g5 g6 hT1 hT2 hT3 hb2 HSW HOW u2 u3
          go_wp2
          go_roundw
          case rel => exact ⟨i + 1, _, _, _, by omega, by go_num, HR.out.2.1, by rw [HN.out]; exact HR.out.1, HBA.out.trans (HR.out.2.2.mono (Nat.le_refl _)), by simpa using HZ3.out⟩
          case measure => simp [intOf]; omega
      · have e : i = len := by omega
        subst e
        have HT := hide (show l.take i = l from List.take_of_length_le (by have := HL.out; omega))
        rw [HT.out] at hmk
        have h1 := st3_cells (st3_below HW5.out hb (by have := HQ2.out; omega))
        obtain ⟨m0, m1, m2, m3⟩ := h1
        have m4 := m3 0
        have m5 := m3 1
        have m6 := m3 2
        clear m3
        obtain ⟨n0, -, -, -⟩ := st3_cells (st3_below HW4.out hb (by have := HQ2.out; omega))
        have HBW := hide (show Below q w wr from HW1.out.trans (hb.mono (by have := HQ2.out; omega)))
        have hqq : q + 1 ≠ q2 := by have := HQ2.out; omega
        have hqs := hqq.symm
        obtain ⟨a', len', cap', S, rfl, hTr, hSn, hSl⟩ := mkg_end hmk hk hs
        obtain ⟨o0, o1, o2, o3⟩ := st3_cells hst
        have HTR := hide hTr
        have HSN := hide hSn
        have HSL := hide hSl
        have HEE := hide (show t = ((kk, ss, l) : Ex (n + 1)) from HE.out)
        clear hmk hTr hSn hSl o3 hb hst
        go_wp2
        refine bodyPost_ret (v := .agg #[.int .u8 kk, .int .u16 ss, .slice a' len' cap']) (by simp [results, Tryd.results93, go_sem, m0, m1, m2]) rfl ?_
        refine ⟨⟨kk, ss, a', len', cap'⟩, S, rfl, ?_, HSN.out, fun b hb => by have := HSL.out b hb; rw [HQ.out]; omega, ?_⟩
        · rw [HEE.out]
          exact tr_keep _ _ _ _ (fun b hb => by
            have := HSL.out b hb
            rw [Below.heap_setCell _ _ _ _ (by simp; omega), Below.heap_setCell _ _ _ _ (by simp; omega), Below.heap_setCell _ _ _ _ (by simp; omega)]) HTR.out
        · rw [HQ.out]
          exact ((HBW.out.setCell (by simp) _).setCell (by simp) _).setCell (by simp) _
end Go.Proofs.YtccaknabpnpjaaaDoor.A

/- What the reader makes: expressions in blocks of their own. -/
namespace Go.Proofs.YtccaknabpnpjaaaDoor.A
open Go.RowKit
set_option linter.unusedVariables false

theorem tr_lift {w : World} : ∀ (n : Nat) (t : Ex n) (x : Nd) (S : List Nat), Tr w n t x S → Tr w (n + 1) (liftE n t) x S
  | 0, _, _, _, h => h.elim
  | n + 1, t, x, S, ⟨h1, h2, h3, h4, h5, h6, h7, h8⟩ => by
    refine ⟨h1, h2, h3, h4, h5, h6, ?_, ?_⟩
    · show ((ks t).map (fun x => liftE n x)).length = x.l
      rw [List.length_map]; exact h7
    · rcases h8 with h8 | ⟨b, cs, ys, Ss, a1, a2, a3, a4, a5, a6, a7⟩
      · exact .inl h8
      · refine .inr ⟨b, cs, ys, Ss, a1, a2, a3, a4, a5, a6, fun i e y T he hy hT => ?_⟩
        have he' : ((ks t).map (fun x => liftE n x))[i]? = some e := he
        rw [List.getElem?_map] at he'
        obtain ⟨e0, he0, rfl⟩ := Option.map_eq_some_iff.1 he'
        exact tr_lift n e0 y T (a7 i e0 y T he0 hy hT)
/-- Blocks from some place on stay. -/
def Keep (B : Nat) (w w' : World) : Prop := w.heap.size ≤ w'.heap.size ∧ ∀ b, B ≤ b → b < w.heap.size → w'.heap[b]? = w.heap[b]?
theorem keep_gb {B q : Nat} {w w' : World} (h : w.grownBy w' (some q)) (hq : q < B) : Keep B w w' := ⟨h.size, fun b hb hl => h.block b hl (by intro e; cases e; omega)⟩
theorem keep_below {B : Nat} {w w' : World} (h : Below w.heap.size w w') : Keep B w w' := ⟨h.size, fun b _ hl => h.block b hl⟩
theorem tr_kept {B : Nat} {w w' : World} {n : Nat} {t : Ex n} {x : Nd} {S : List Nat} (h : Tr w n t x S) (hS : ∀ b ∈ S, B ≤ b) (hk : Keep B w w') : Tr w' n t x S := tr_keep n t x S (fun b hb => hk.2 b (hS b hb) (tr_lt n t x S h b hb)) h
theorem mkg_kept {base : Nat} {w w' : World} {n : Nat} {l : List (Ex n)} {v : Value} {ys : List Nd} {Ss : List (List Nat)} (h : Mkg base w n l v ys Ss) (hk : Keep base w w') : Mkg base w' n l v ys Ss := by
  obtain ⟨h1, h2, h3, h4, h5, h6, h7⟩ := h
  refine ⟨⟨h1.1, ?_⟩, h2, h3, fun i e y T he hy hT => tr_keep n e y T (fun b hb => hk.2 b (h6 b (mem_flat hT hb)).1 (h6 b (mem_flat hT hb)).2) (h4 i e y T he hy hT), h5, fun b hb => ⟨(h6 b hb).1, Nat.lt_of_lt_of_le (h6 b hb).2 hk.1⟩, h7⟩
  have hlt := h1.lt
  rcases h1.2 with h0 | ⟨g, cap, cur, hv, hg, hcur, q1, q2, q3, q4⟩
  · exact .inl h0
  · exact .inr ⟨g, cap, cur, hv, hg, (hk.2 g hg (hlt g (by rw [hv]; rfl)).2).trans hcur, q1, q2, q3, q4⟩
/-- A list of one. -/
theorem mkg_one {base : Nat} {w : World} {n : Nat} {t : Ex n} {y : Nd} {S : List Nat} (h : Tr w n t y S) (hn : S.Nodup) (hS : ∀ b ∈ S, base ≤ b) (hb : base ≤ w.heap.size) :
    Mkg base (w.alloc (.cells #[.int .u8 y.k, .int .u16 y.s, .slice y.a y.l y.c] 42)) n [t] (.slice (some ⟨w.heap.size, 0, none⟩) 1 1) [y] [S] := by
  have hlt := tr_lt n t y S h
  refine ⟨⟨by simp [cellsN, cellsO], .inr ⟨w.heap.size, 1, _, rfl, hb, heap_alloc_last w _, Nat.le_refl _, by unfold maxLen; omega, by simp, by simp [cellsN, cellsO]⟩⟩, rfl, rfl, ?_, by simpa using hn, ?_, ?_⟩
  · intro i e y' T he hy hT
    match i with
    | 0 =>
      simp only [List.getElem?_cons_zero, Option.some.injEq] at he hy hT
      subst he; subst hy; subst hT
      exact tr_keep n _ _ _ (fun b hb' => Below.heap_alloc _ _ _ (hlt b hb')) h
    | i + 1 => simp at he
  · intro b hb'
    have : b ∈ S := by simpa using hb'
    exact ⟨hS b this, by have := hlt b this; simp; omega⟩
  · intro g hg hm
    have e : w.heap.size = g := by simpa [Value.ownBlock] using hg
    have : g ∈ S := by simpa using hm
    have := hlt g this
    omega
/-- Of some a node, of one that one, of none the empty word. -/
def togE (k : Nat) {n : Nat} : List (Ex n) → Ex (n + 1)
  | [] => (0, 0, [])
  | [x] => liftE n x
  | l => (k, 0, l)

theorem mknode_any (k : Nat) (a : Option Addr) (len cap : Nat) (w : World) :
    Calls Tryd.prog 83 #[.int .u8 k, .slice a len cap] w fun e w' => e = .returned (.agg #[.int .u8 k, .int .u16 0, .slice a len cap]) ∧ Below w.heap.size w w' := by
  have HB := hide ((Below.refl w.heap.size w).alloc (Nat.le_refl _) (.cells #[.int .u8 k, .int .u16 0, .slice a len cap] 42))
  go_enter Tryd.func83, Tryd.ntmps83
  go_wp2
  refine bodyPost_ret (v := .agg #[.int .u8 k, .int .u16 0, .slice a len cap]) (by simp [results, Tryd.results83, go_sem]) rfl ?_
  exact ⟨rfl, HB.out⟩

/-- What a call that makes an expression answers. -/
def Made (base : Nat) (w : World) (n : Nat) (t : Ex n) (e : Ending) (w' : World) : Prop := ∃ (y : Nd) (S : List Nat), e = .returned (.agg #[.int .u8 y.k, .int .u16 y.s, .slice y.a y.l y.c]) ∧ Tr w' n t y S ∧ S.Nodup ∧ (∀ b ∈ S, base ≤ b) ∧ Below w.heap.size w w'

set_option maxHeartbeats 1600000 in
theorem together_any (base k n : Nat) (l : List (Ex n)) (v : Value) (ys : List Nd) (Ss : List (List Nat)) (w : World) (hk : k < 256) (hl : l.length ≤ 4000) (h : Mkg base w n l v ys Ss) :
    Calls Tryd.prog 71 #[.int .u8 k, v] w fun e w' => Made base w (n + 1) (togE k l) e w' := by
  match l, hl, h with
  | [], _, h =>
    have hform : ∃ a cap, v = .slice a 0 cap := by
      rcases h.1.2 with ⟨rfl, _⟩ | ⟨g, cap, cur, rfl, _⟩
      · exact ⟨_, _, rfl⟩
      · exact ⟨_, _, rfl⟩
    obtain ⟨a, cap, rfl⟩ := hform
    have HB := hide ((Below.refl w.heap.size w).alloc (Nat.le_refl _) (.cells #[.int .u8 0, .int .u16 0, .slice none 0 0] 42))
    clear h
    go_enter Tryd.func71, Tryd.ntmps71
    go_wp2
    refine bodyPost_ret (v := .agg #[.int .u8 0, .int .u16 0, .slice none 0 0]) (by simp [results, Tryd.results71, go_sem]) rfl ?_
    exact ⟨⟨0, 0, none, 0, 0⟩, [], rfl, ⟨rfl, rfl, by show (0 : Nat) < 256; omega, by show (0 : Nat) < 65536; omega, Nat.le_refl _, by show (0 : Nat) ≤ maxLen; unfold maxLen; omega, rfl, .inl ⟨rfl, rfl⟩⟩, by simp, (fun b hb => by cases hb), HB.out⟩
  | [x], _, h =>
    obtain ⟨h1, h2, h3, h4, h5, h6, h7⟩ := h
    obtain ⟨y, rfl⟩ : ∃ y, ys = [y] := by
      match ys, h2 with
      | [y], _ => exact ⟨y, rfl⟩
    obtain ⟨S, rfl⟩ : ∃ S, Ss = [S] := by
      match Ss, h3 with
      | [S], _ => exact ⟨S, rfl⟩
    have hT := h4 0 x y S rfl rfl rfl
    have hlt := tr_lt n x y S hT
    obtain ⟨g, cap, cur, rfl, hg, hcur, q1, q2, q3, q4⟩ : ∃ g cap cur, v = .slice (some ⟨g, 0, none⟩) 1 cap ∧ base ≤ g ∧ w.heap[g]? = some (.cells cur 42 (0, 0)) ∧ 1 ≤ cap ∧ cap ≤ maxLen ∧ cur.size = cap * 3 ∧ cur.toList.take (1 * 3) = cellsN [y] := by
      rcases h1.2 with ⟨_, h0⟩ | h0
      · simp at h0
      · exact h0
    have hc : ∀ j u, (cellsN [y])[j]? = some u → w.cell? ⟨g, j, none⟩ = some u := fun j u hj => by
      rw [cell_of_row w g j cur 42 (0, 0) hcur]
      rw [← q4] at hj
      have := List.getElem?_take_of_lt (l := cur.toList) (i := j) (j := 1 * 3) (by have := (List.getElem?_eq_some_iff.1 hj).1; simp at this; omega)
      rw [this] at hj
      simpa using hj
    have c0 := hc 0 (.int .u8 y.k) (by simp [cellsN, cellsO])
    have c1 := hc 1 (.int .u16 y.s) (by simp [cellsN, cellsO])
    have c2 := hc 2 (.slice y.a y.l y.c) (by simp [cellsN, cellsO])
    have d0 := cell_alloc c0 (.cells #[.int .u8 0, .int .u16 0, .slice none 0 0] 42)
    have d1 := cell_alloc c1 (.cells #[.int .u8 0, .int .u16 0, .slice none 0 0] 42)
    have d2 := cell_alloc c2 (.cells #[.int .u8 0, .int .u16 0, .slice none 0 0] 42)
    have hb' := (Below.refl w.heap.size w).alloc (Nat.le_refl _) (.cells #[.int .u8 y.k, .int .u16 y.s, .slice y.a y.l y.c] 42)
    have HB := hide hb'
    have HT := hide (tr_lift n x y S (tr_keep n x y S (fun b hb => hb'.block b (hlt b hb)) hT))
    have HN := hide (show S.Nodup by simpa using h5)
    have HS := hide (show ∀ b ∈ S, base ≤ b from fun b hb => (h6 b (by simpa using hb)).1)
    clear h1 h2 h3 h4 h5 h6 h7 hT hlt hc hb' hcur q4
    go_enter Tryd.func71, Tryd.ntmps71
    go_wp2
    refine bodyPost_ret (v := .agg #[.int .u8 y.k, .int .u16 y.s, .slice y.a y.l y.c]) (by simp [results, Tryd.results71, go_sem]) rfl ?_
    exact ⟨y, S, rfl, HT.out, HN.out, HS.out, HB.out⟩
  | x1 :: x2 :: r, hl, h =>
    obtain ⟨len, hlen⟩ : ∃ len, (x1 :: x2 :: r).length = len := ⟨_, rfl⟩
    have hlen2 : 2 ≤ len ∧ len ≤ 4000 := by rw [← hlen]; exact ⟨by simp, hl⟩
    obtain ⟨a, len', cap, S, rfl, hT, hN, hS⟩ := mkg_end h hk (show (0 : Nat) < 65536 by omega)
    have e : len' = len := by
      have e1 := hT.2.2.2.2.2.2.1
      have e2 : (x1 :: x2 :: r).length = len' := e1
      omega
    subst e
    have hlt := tr_lt _ _ _ _ hT
    have HT := hide hT
    have HN := hide hN
    have HS := hide hS
    have HL := hide hlt
    have HB0 := hide ((Below.refl w.heap.size w).alloc (Nat.le_refl _) (.cells #[.int .u8 0, .int .u16 0, .slice none 0 0] 42))
    have HST := hide (heap_alloc_last w (.cells #[.int .u8 0, .int .u16 0, .slice none 0 0] 42))
    have y0 : ((len' : Int) == 0) = false := by simp; omega
    have y1 : ((len' : Int) == 1) = false := by simp; omega
    clear h hT hN hS hl hlt hlen
    go_enter Tryd.func71, Tryd.ntmps71
    go_wp2_with fail
    refine (mknode_any k a len' cap _).mono ?_
    rintro e w1 ⟨rfl, hb⟩
    have hst : St3 w1 w.heap.size 0 0 (.slice none 0 0) := (hb.block _ (by simp)).trans HST.out
    obtain ⟨m0, m1, m2, m3⟩ := st3_cells hst
    have m4 := m3 0
    have m5 := m3 1
    have m6 := m3 2
    have HB1 := hide (HB0.out.trans (hb.mono HB0.out.size))
    clear m3 hb hst
    go_wp2
    refine bodyPost_ret (v := .agg #[.int .u8 k, .int .u16 0, .slice a len' cap]) (by simp [results, Tryd.results71, go_sem, m0, m1, m2]) rfl ?_
    have hbf := ((HB1.out.setCell (p := ⟨w.heap.size, 0, none⟩) (by simp) (.int .u8 k)).setCell (p := ⟨w.heap.size, 1, none⟩) (by simp) (.int .u16 0)).setCell (p := ⟨w.heap.size, 2, none⟩) (by simp) (.slice a len' cap)
    refine ⟨⟨k, 0, a, len', cap⟩, S, rfl, ?_, HN.out, HS.out, hbf⟩
    exact tr_keep _ _ _ _ (fun b hb => hbf.block b (HL.out b hb)) HT.out
end Go.Proofs.YtccaknabpnpjaaaDoor.A
