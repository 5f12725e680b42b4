/- The document's Turned. -/
import Derived.Test.YtacfkdjpdgnohaaZ
import Derived.Deep.AppendSrc
namespace Go.Proofs.Ytacfkdjpdgnohaa.A
open Go.RowKit

theorem app_nil (W : World) (b : Nat) : (Builtin.append_ #[23, 23] 23 #[.slice (some ⟨b, 0, none⟩) 1 1, .slice none 0 0]).run Try.prog W = .ok (.slice (some ⟨b, 0, none⟩) 1 1) W := by
  obtain ⟨i0, hi, hz0, hz1, hz2⟩ := info_parts info25
  exact run_append_room_src (P := Try.prog) W 23 23 23 25 i0 Try.underlying23 hi b 0 1 1 (.slice none 0 0) 0 [] (Src.ofNil W Try.underlying23 0) (by omega) (fun j hj => by simp at hj) (fun j hj => by simp at hj)
/-- One part more, ahead. -/
theorem mkg_cons {base : Nat} {w w3 : World} {n : Nat} {l : List (Ex n)} {v : Value} {ys : List Nd} {Ss : List (List Nat)} (h : Mkg base w n l v ys Ss) {e : Ex n} {y : Nd} {T : List Nat} (ht : Tr w n e y T) (hT : T.Nodup) {lo : Nat} (hlo : ∀ b ∈ T, lo ≤ b ∧ b < w.heap.size) (hbl : base ≤ lo)
    (hS : ∀ b ∈ Ss.flatten, b < lo) {g cap : Nat} (hown : w3.ownsRow base 25 3 (.slice (some ⟨g, 0, none⟩) (l.length + 1) cap) (l.length + 1) (cellsO y ++ cellsN ys)) (hkeep : ∀ b, b < w.heap.size → w3.heap[b]? = w.heap[b]?) (hsz : w.heap.size ≤ w3.heap.size) (hg : w.heap.size ≤ g) :
    Mkg base w3 n (e :: l) (.slice (some ⟨g, 0, none⟩) (l.length + 1) cap) (y :: ys) (T :: Ss) := by
  obtain ⟨h1, h2, h3, h4, h5, h6, h7⟩ := h
  refine ⟨hown, by simp [h2], by simp [h3], ?_, ?_, ?_, ?_⟩
  · intro i e' y' T' he hy hT'
    cases i with
    | zero =>
      simp only [List.getElem?_cons_zero, Option.some.injEq] at he hy hT'
      subst he; subst hy; subst hT'
      exact tr_keep n _ _ _ (fun b hb => hkeep b (hlo b hb).2) ht
    | succ i =>
      simp only [List.getElem?_cons_succ] at he hy hT'
      exact tr_keep n e' y' T' (fun b hb => hkeep b (h6 b (mem_flat hT' hb)).2) (h4 i e' y' T' he hy hT')
  · rw [List.flatten_cons]
    refine List.nodup_append.2 ⟨hT, h5, fun b hb c hc q => ?_⟩
    subst q
    have := hS b hc
    have := hlo b hb
    omega
  · intro b hb
    rw [List.flatten_cons] at hb
    rcases List.mem_append.1 hb with hb | hb
    · have := hlo b hb
      exact ⟨by omega, by omega⟩
    · have := h6 b hb
      exact ⟨this.1, by omega⟩
  · intro g' hg' hm
    have hg2 : g' = g := by simpa [Value.ownBlock] using hg'.symm
    subst hg2
    rw [List.flatten_cons] at hm
    rcases List.mem_append.1 hm with hm | hm
    · have := (hlo g' hm).2; omega
    · have := (h6 g' hm).2; omega
theorem cons_next {base q k s : Nat} {A w3 : World} {n : Nat} {l : List (Ex n)} {v : Value} {ys : List Nd} {Ss : List (List Nat)} (h : Mkg base A n l v ys Ss) (hst : St3 A q k s v) (hq : q < base) {e : Ex n} {y : Nd} {T : List Nat} (ht : Tr A n e y T) (hT : T.Nodup) {lo : Nat} (hlo : ∀ b ∈ T, lo ≤ b ∧ b < A.heap.size) (hbl : base ≤ lo)
    (hS : ∀ b ∈ Ss.flatten, b < lo) {g m cap : Nat} (hm : l.length = m) (hown : w3.ownsRow base 25 3 (.slice (some ⟨g, 0, none⟩) (m + 1) cap) (m + 1) (cellsO y ++ cellsN ys)) (hb : Below A.heap.size A w3) (hg : A.heap.size ≤ g) :
    St3 (w3.setCell ⟨q, 2, none⟩ (.slice (some ⟨g, 0, none⟩) (m + 1) cap)) q k s (.slice (some ⟨g, 0, none⟩) (m + 1) cap) ∧ Mkg base (w3.setCell ⟨q, 2, none⟩ (.slice (some ⟨g, 0, none⟩) (m + 1) cap)) n (e :: l) (.slice (some ⟨g, 0, none⟩) (m + 1) cap) (y :: ys) (T :: Ss) ∧
    Below q A (w3.setCell ⟨q, 2, none⟩ (.slice (some ⟨g, 0, none⟩) (m + 1) cap)) ∧ A.heap.size ≤ (w3.setCell ⟨q, 2, none⟩ (.slice (some ⟨g, 0, none⟩) (m + 1) cap)).heap.size := by
  subst hm
  exact ⟨st3_set (st3_below hst hb (st3_lt hst)) _, mkg_set (mkg_cons h ht hT hlo hbl hS hown hb.block hb.size hg) hq _, (hb.mono (Nat.le_of_lt (st3_lt hst))).setCell (by simp) _, by simpa using hb.size⟩
theorem snoc_next {base q k s : Nat} {A w3 : World} {n : Nat} {l : List (Ex n)} {v : Value} {ys : List Nd} {Ss : List (List Nat)} (h : Mkg base A n l v ys Ss) (hst : St3 A q k s v) (hq : q < base) {e : Ex n} {y : Nd} {T : List Nat} (ht : Tr A n e y T) (hT : T.Nodup) {lo : Nat} (hlo : ∀ b ∈ T, lo ≤ b ∧ b < A.heap.size) (hbl : base ≤ lo)
    (hS : ∀ b ∈ Ss.flatten, b < lo) (hv : ∀ g, v.ownBlock = some g → base ≤ g ∧ g < lo) (hA : base ≤ A.heap.size) (o : Obj) {g m cap : Nat} (hm : l.length = m) (hown : w3.ownsRow base 25 3 (.slice (some ⟨g, 0, none⟩) (m + 1) cap) (m + 1) (cellsN ys ++ cellsO y)) (hgrow : (A.alloc o).grownBy w3 v.ownBlock) (hat : v.ownBlock = some g ∨ g = A.heap.size + 1) :
    St3 w3 q k s v ∧ St3 (w3.setCell ⟨q, 2, none⟩ (.slice (some ⟨g, 0, none⟩) (m + 1) cap)) q k s (.slice (some ⟨g, 0, none⟩) (m + 1) cap) ∧ Mkg base (w3.setCell ⟨q, 2, none⟩ (.slice (some ⟨g, 0, none⟩) (m + 1) cap)) n (l ++ [e]) (.slice (some ⟨g, 0, none⟩) (m + 1) cap) (ys ++ [y]) (Ss ++ [T]) ∧
    Below q A (w3.setCell ⟨q, 2, none⟩ (.slice (some ⟨g, 0, none⟩) (m + 1) cap)) ∧ A.heap.size ≤ (w3.setCell ⟨q, 2, none⟩ (.slice (some ⟨g, 0, none⟩) (m + 1) cap)).heap.size := by
  subst hm
  have b0 := (Below.refl A.heap.size A).alloc (Nat.le_refl _) o
  have h3 := mkg_below h b0
  have ht3 : Tr (A.alloc o) n e y T := tr_keep n e y T (fun b hb => Below.heap_alloc _ _ _ (hlo b hb).2) ht
  have s3 := st3_grown (st3_below hst b0 (st3_lt hst)) hgrow (fun e => by have := (hv q e.symm).1; omega)
  have m3 := mkg_app h3 ht3 hT (lo := lo) (fun b hb => ⟨(hlo b hb).1, by have := (hlo b hb).2; simp; omega⟩) hbl hS (fun g hg => (hv g hg).2) hown hgrow (by simpa using hat)
  have hz := hgrow.size
  simp at hz
  refine ⟨s3, st3_set s3 _, mkg_set m3 hq _, ?_, by simp; omega⟩
  exact (((b0.mono hA).grown hgrow (by simp; omega) (fun g hg => (hv g hg).1)).mono (by omega)).setCell (by simp) _
theorem turn_next_rev {n : Nat} {l : List (Ex n)} {i : Nat} {x : Ex n} (hx : l[i]? = some x) : ((l.take (i + 1)).map (fun x => turnE n x)).reverse = turnE n x :: ((l.take i).map (fun x => turnE n x)).reverse := by
  rw [turn_next hx, List.reverse_append]; rfl
/-- The list of a round, by the kind. -/
def tlist (kk : Nat) {n : Nat} (l : List (Ex n)) : List (Ex n) := if kk = 2 then (l.map (fun x => turnE n x)).reverse else l.map (fun x => turnE n x)
theorem tlist_len (kk : Nat) {n : Nat} (l : List (Ex n)) : (tlist kk l).length = l.length := by unfold tlist; split <;> simp
set_option maxRecDepth 100000 in
set_option maxHeartbeats 12800000 in
theorem rturn_any : ∀ (n : Nat) (t : Ex n) (v : Value) (w : World), Rx w n t v → realN n t ≤ 100 →
    Calls Try.prog 22 #[v] w fun e w' => Makes w n (turnE n t) e w' := by
  intro n
  induction n with
  | zero => intro t v w h; exact h.elim
  | succ n ih =>
    intro t v w h hrn
    obtain ⟨i0, hi0, hz0, hz1, hz2⟩ := info_parts info25
    have hrl := real_len (rx_full _ _ _ h)
    have HRK := hide (fun (x : Ex n) (hx : x ∈ ks t) => Nat.le_trans (real_kid hx) hrn)
    obtain ⟨a, len, cap, rfl, hk, hs, hl, h6, hkids⟩ := rx_open h
    have HE := hide (show turnE (n + 1) t = ((kd t, st t, tlist (kd t) (ks t)) : Ex (n + 1)) from rfl)
    rw [h6] at hrl
    have hlen : len ≤ 100 := by omega
    generalize kd t = kk at *
    generalize st t = ss at *
    generalize ks t = l at *
    have HK := hide hkids
    have HL := hide h6
    have hap := app_nil
    obtain ⟨q, hq⟩ : ∃ q, w.heap.size = q := ⟨_, rfl⟩
    have hW1 := ((((Below.refl w.heap.size w).alloc (Nat.le_refl _) (.cells #[.int .u8 kk, .int .u16 ss, .slice a len cap] 25)).alloc (by simp) (.cells #[.int .u8 0, .int .u16 0, .slice none 0 0] 25)).alloc (by simp; omega) (.cells #[.int .u8 kk, .int .u16 ss, .slice none 0 0] 25))
    have hW2 : (((w.alloc (.cells #[.int .u8 kk, .int .u16 ss, .slice a len cap] 25)).alloc (.cells #[.int .u8 0, .int .u16 0, .slice none 0 0] 25)).alloc (.cells #[.int .u8 kk, .int .u16 ss, .slice none 0 0] 25)).heap.size = q + 3 := by simp [hq]
    have hW3 : St3 (((w.alloc (.cells #[.int .u8 kk, .int .u16 ss, .slice a len cap] 25)).alloc (.cells #[.int .u8 0, .int .u16 0, .slice none 0 0] 25)).alloc (.cells #[.int .u8 kk, .int .u16 ss, .slice none 0 0] 25)) (q + 2) kk ss (.slice none 0 0) := by
      have e := heap_alloc_last ((w.alloc (.cells #[.int .u8 kk, .int .u16 ss, .slice a len cap] 25)).alloc (.cells #[.int .u8 0, .int .u16 0, .slice none 0 0] 25)) (.cells #[.int .u8 kk, .int .u16 ss, .slice none 0 0] 25)
      rw [show ((w.alloc (.cells #[.int .u8 kk, .int .u16 ss, .slice a len cap] 25)).alloc (.cells #[.int .u8 0, .int .u16 0, .slice none 0 0] 25)).heap.size = q + 2 by simp [hq]] at e
      exact e
    have hW4 : St3 (((w.alloc (.cells #[.int .u8 kk, .int .u16 ss, .slice a len cap] 25)).alloc (.cells #[.int .u8 0, .int .u16 0, .slice none 0 0] 25)).alloc (.cells #[.int .u8 kk, .int .u16 ss, .slice none 0 0] 25)) q kk ss (.slice a len cap) := by
      have e := heap_alloc_last w (.cells #[.int .u8 kk, .int .u16 ss, .slice a len cap] 25)
      rw [hq] at e
      exact (Below.heap_alloc _ _ _ (by simp [hq]; omega)).trans ((Below.heap_alloc _ _ _ (by simp [hq])).trans e)
    have hW5 : St3 (((w.alloc (.cells #[.int .u8 kk, .int .u16 ss, .slice a len cap] 25)).alloc (.cells #[.int .u8 0, .int .u16 0, .slice none 0 0] 25)).alloc (.cells #[.int .u8 kk, .int .u16 ss, .slice none 0 0] 25)) (q + 1) 0 0 (.slice none 0 0) := by
      have e := heap_alloc_last (w.alloc (.cells #[.int .u8 kk, .int .u16 ss, .slice a len cap] 25)) (.cells #[.int .u8 0, .int .u16 0, .slice none 0 0] 25)
      rw [show (w.alloc (.cells #[.int .u8 kk, .int .u16 ss, .slice a len cap] 25)).heap.size = q + 1 by simp [hq]] at e
      exact (Below.heap_alloc _ _ _ (by simp [hq])).trans e
    have HW := hide (And.intro hW1 (And.intro hW2 (And.intro hW3 (And.intro hW4 hW5))))
    clear h hkids h6 hrn hrl hl hW1 hW2 hW3 hW4 hW5
    go_enter Try.func22, Try.ntmps22
    go_wp2_with fail
    obtain ⟨hW1, hW2, hW3, hW4, hW5⟩ := HW.out
    clear HW
    generalize ((w.alloc (.cells #[.int .u8 kk, .int .u16 ss, .slice a len cap] 25)).alloc (.cells #[.int .u8 0, .int .u16 0, .slice none 0 0] 25)).alloc (.cells #[.int .u8 kk, .int .u16 ss, .slice none 0 0] 25) = W at *
    rw [hq] at hW1
    have HQ := hide hq
    obtain ⟨q2, hq2⟩ : ∃ q2, q + 1 + 1 = q2 := ⟨_, rfl⟩
    rw [hq2]
    rw [show q + 2 = q2 by omega] at hW3
    have HQ2 := hide (show q2 = q + 2 by omega)
    clear hq2
    have HW1 := hide hW1
    have HW2 := hide hW2
    have HW3 := hide hW3
    have HW4 := hide hW4
    have HW5 := hide hW5
    clear hq hW1 hW2 hW3 hW4 hW5
    go_loopw [4, 5] (fun u _ wr => ∃ (i : Nat) (vv : Value) (ys : List Nd) (Ss : List (List Nat)), i ≤ len ∧ u = .int .i64 i ∧ (i = 0 → vv = .slice none 0 0) ∧ St3 wr q2 kk ss vv ∧ Mkg (q + 3) wr n (tlist kk (l.take i)) vv ys Ss ∧ Below q2 W wr ∧ q + 3 ≤ wr.heap.size) (fun u _ _ => len - (intOf u).toNat)
    case atStart => exact ⟨0, _, [], [], Nat.zero_le _, rfl, fun _ => rfl, HW3.out, by unfold tlist; split <;> exact mkg_nil _ _ _, Below.refl _ _, by rw [HW2.out]; exact Nat.le_refl _⟩
    case round =>
      obtain ⟨i, vv, ys, Ss, hi, rfl, hv0, hst, hmk, hb, hsz⟩ := hrel
      have HV0 := hide hv0
      clear hv0
      have hstq := st3_below HW4.out hb (by have := HQ2.out; omega)
      obtain ⟨z0, -, z2, -⟩ := st3_cells hstq
      by_cases hlt : i < len
      · obtain ⟨x, b, off, c0, c1, c2, rfl, hx, k0, k1, k2, k3⟩ := HK.out wr (by rw [HQ.out]; exact HW1.out.trans (hb.mono (by have := HQ2.out; omega))) i hlt
        have HMEM := hide (List.mem_of_getElem? hx)
        have HX := hide hx
        have HLI := hide (show (tlist kk (l.take i)).length = i by rw [tlist_len]; simp; have := HL.out; omega)
        have i3 : (0 : Int) ≤ (i : Int) := by omega
        have i4 : (i : Int) < (len : Int) := by omega
        have HK3 := hide k3
        have HST := hide hst
        have HMK := hide hmk
        have HBB := hide hb
        have HSQ := hide hstq
        clear hx k3 hst hmk hb hstq
        go_wp2_with fail
        refine (ih x _ wr HK3.out (HRK.out x HMEM.out)).mono ?_
        rintro e w2 ⟨y, T, rfl, hT1, hT2, hT3, hb2⟩
        have hbA : Below wr.heap.size wr (w2.alloc (.cells #[.int .u8 y.k, .int .u16 y.s, .slice y.a y.l y.c] 25)) := hb2.alloc hb2.size _
        have hTA := tr_keep n _ y T (fun b hb' => Below.heap_alloc _ (.cells #[.int .u8 y.k, .int .u16 y.s, .slice y.a y.l y.c] 25) _ (tr_lt n _ y T hT1 b hb')) hT1
        have hTL := fun b (hb' : b ∈ T) => show wr.heap.size ≤ b ∧ b < (w2.alloc (.cells #[.int .u8 y.k, .int .u16 y.s, .slice y.a y.l y.c] 25)).heap.size from ⟨hT3 b hb', by have := tr_lt n _ y T hT1 b hb'; simp; omega⟩
        have HT2 := hide hT2
        have hSA := st3_below HST.out hbA (st3_lt HST.out)
        have hQA := st3_below HSQ.out hbA (st3_lt HSQ.out)
        have HA := hide (And.intro hTA (And.intro hTL (And.intro (mkg_below HMK.out hbA) (And.intro hSA (And.intro (HBB.out.trans (hbA.mono (by have := st3_lt HST.out; omega))) (show q + 3 ≤ (w2.alloc (.cells #[.int .u8 y.k, .int .u16 y.s, .slice y.a y.l y.c] 25)).heap.size by have := hbA.size; omega))))))
        have HSS := hide (fun b (hb' : b ∈ Ss.flatten) => (HMK.out.2.2.2.2.2.1 b hb').2)
        have HVV := hide (fun g (hg : vv.ownBlock = some g) => (HMK.out.1.lt g hg))
        obtain ⟨t0, -, -, -⟩ := st3_cells hQA
        obtain ⟨-, -, t2, -⟩ := st3_cells hSA
        have t3 := fun o => cell_alloc t2 o
        have n2 : q2 < (w2.alloc (.cells #[.int .u8 y.k, .int .u16 y.s, .slice y.a y.l y.c] 25)).heap.size := st3_lt hSA
        have N2 := hide n2
        have F2 := hide (show ∀ o, ((w2.alloc (.cells #[.int .u8 y.k, .int .u16 y.s, .slice y.a y.l y.c] 25)).alloc o).frozen? ⟨q2, 2, none⟩ = false from fun o => (World.frozen?_of_block (Below.heap_alloc _ o q2 n2)).trans ((st3_cells hSA).2.2.2 2))
        clear hbA hT1 hT2 hT3 hb2 k0 k1 k2 z0 z2 HMK HST HSQ HBB hTA hTL hSA hQA n2
        by_cases hk2 : kk = 2
        · have y2 : ((kk : Int) == 2) = true := by simp; omega
          have HN := hide (show tlist kk (l.take (i + 1)) = turnE n x :: tlist kk (l.take i) from by unfold tlist; rw [if_pos hk2, if_pos hk2]; exact turn_next_rev HX.out)
          clear hk2
          by_cases hi0z : i = 0
          · have ev := HV0.out hi0z
            subst ev
            have f2 := F2.out
            have HIZ := hide hi0z
            clear hi0z
            go_wp2
            go_roundw
            case rel =>
              obtain ⟨a1, a2, a3, a4, a5, a6⟩ := HA.out
              have hys : ys = [] := List.length_eq_zero_iff.1 (by have := a3.2.1; rw [HLI.out] at this; have := HIZ.out; omega)
              have ho := World.ownsRow_lit (base := q + 3) (e := 25) (size := 3) (w2.alloc (.cells #[.int .u8 y.k, .int .u16 y.s, .slice y.a y.l y.c] 25)) #[.int .u8 y.k, .int .u16 y.s, .slice y.a y.l y.c] 1 a6 (by unfold maxLen; omega) rfl
              have r := cons_next (g := (w2.alloc (.cells #[.int .u8 y.k, .int .u16 y.s, .slice y.a y.l y.c] 25)).heap.size) (cap := 1) a3 a4 (by have := HQ2.out; omega) a1 HT2.out a2 hsz HSS.out (HLI.out.trans HIZ.out) (by rw [hys]; exact ho) ((Below.refl _ _).alloc (Nat.le_refl _) _) (Nat.le_refl _)
              rw [show (w2.alloc (.cells #[.int .u8 y.k, .int .u16 y.s, .slice y.a y.l y.c] 25)).heap.size = w2.heap.size + 1 by simp] at r
              exact ⟨i + 1, _, _, _, by omega, by go_num, fun h => by omega, r.1, by rw [HN.out]; exact r.2.1, a5.trans r.2.2.1, by have := r.2.2.2; simp at this a6 ⊢; omega⟩
            case measure => simp [intOf]; omega
          · have hpos : 0 < i := by omega
            obtain ⟨g, gc, rfl, hg1, hg2⟩ := HA.out.2.2.1.1.form (by rw [HLI.out]; exact hpos)
            rw [HLI.out] at t2 t3 HA HVV
            have f2 := F2.out
            have HOW := hide (show ((w2.alloc (.cells #[.int .u8 y.k, .int .u16 y.s, .slice y.a y.l y.c] 25)).alloc (.cells #[.int .u8 y.k, .int .u16 y.s, .slice y.a y.l y.c] 25)).ownsRow (q + 3) 25 3 (.slice (some ⟨w2.heap.size + 1, 0, none⟩) 1 1) 1 (cellsO y) from by
              have ho := World.ownsRow_lit (base := q + 3) (e := 25) (size := 3) (w2.alloc (.cells #[.int .u8 y.k, .int .u16 y.s, .slice y.a y.l y.c] 25)) #[.int .u8 y.k, .int .u16 y.s, .slice y.a y.l y.c] 1 HA.out.2.2.2.2.2 (by unfold maxLen; omega) rfl
              rw [show (w2.alloc (.cells #[.int .u8 y.k, .int .u16 y.s, .slice y.a y.l y.c] 25)).heap.size = w2.heap.size + 1 by simp] at ho
              exact ho)
            have HNW := hide (show ∀ j u, (cellsN ys)[j]? = some u → ((w2.alloc (.cells #[.int .u8 y.k, .int .u16 y.s, .slice y.a y.l y.c] 25)).alloc (.cells #[.int .u8 y.k, .int .u16 y.s, .slice y.a y.l y.c] 25)).cell? ((⟨g, 0, none⟩ : Addr).add j) = some u from fun j u hj => (HA.out.2.2.1.1.alloc _).cells rfl j u hj)
            have HYL := hide (show (cellsN ys).length = i * 3 from by rw [cellsN_len, HA.out.2.2.1.2.1, HLI.out])
            clear hg1 hg2 HV0
            go_wp2_with (at_builtin; refine wpList_append_lies _ rfl _ _ 23 rfl (q + 3) 25 i0 (.agg #[.int .u8 0, .int .u16 0, .slice none 0 0]) 3 32 Try.underlying23 hi0 hz0 hz1 hz2 rfl (by omega) _ 1 (cellsO y) rfl HOW.out ⟨g, 0, none⟩ i gc (cellsN ys) rfl HYL.out HNW.out (cellsN_one' ys) hpos (by unfold maxLen; omega) (by omega) (by have := HA.out.2.2.2.2.2; simp at this ⊢; omega) (w2.heap.size + 2) (by simp) ?_)
            intro g' cap' w3 hown3 hgrow3 hat3 hlt3
            have hb3 : Below (w2.heap.size + 1) (w2.alloc (.cells #[.int .u8 y.k, .int .u16 y.s, .slice y.a y.l y.c] 25)) w3 := ((Below.refl (w2.heap.size + 1) (w2.alloc (.cells #[.int .u8 y.k, .int .u16 y.s, .slice y.a y.l y.c] 25))).alloc (by simp) (.cells #[.int .u8 y.k, .int .u16 y.s, .slice y.a y.l y.c] 25)).grown hgrow3 (by simp) (fun k' e => by simp [Value.ownBlock] at e; omega)
            have u2 := (hb3.cell (p := ⟨q2, 2, none⟩) (by have := N2.out; simpa using this)).trans t2
            have u3 := (hb3.frozen (p := ⟨q2, 2, none⟩) (by have := N2.out; simpa using this)).trans ((st3_cells HA.out.2.2.2.1).2.2.2 2)
            have HR := hide (cons_next (g := g') (m := i) (cap := cap') (w3 := w3) HA.out.2.2.1 HA.out.2.2.2.1 (by have := HQ2.out; omega) HA.out.1 HT2.out HA.out.2.1 hsz HSS.out HLI.out (by rw [Nat.add_comm i 1]; exact hown3) (by rw [show (w2.alloc (.cells #[.int .u8 y.k, .int .u16 y.s, .slice y.a y.l y.c] 25)).heap.size = w2.heap.size + 1 by simp]; exact hb3) (by simp [Value.ownBlock] at hat3 ⊢; omega))
            rw [Nat.add_comm i 1] at HR
            clear hown3 hgrow3 hat3 hlt3 hb3 t0 t2 t3 f2
            go_wp2
            go_roundw
            case rel => exact ⟨i + 1, _, _, _, by omega, by go_num, fun h => by omega, HR.out.1, by rw [HN.out]; exact HR.out.2.1, HA.out.2.2.2.2.1.trans HR.out.2.2.1, by have := HR.out.2.2.2; have := HA.out.2.2.2.2.2; omega⟩
            case measure => simp [intOf]; omega
        · have y2 : ((kk : Int) == 2) = false := by simp; omega
          have HN := hide (show tlist kk (l.take (i + 1)) = tlist kk (l.take i) ++ [turnE n x] from by unfold tlist; rw [if_neg hk2, if_neg hk2]; exact turn_next HX.out)
          have f2 := F2.out
          have HOW := hide (show ((w2.alloc (.cells #[.int .u8 y.k, .int .u16 y.s, .slice y.a y.l y.c] 25)).alloc (.cells #[.int .u8 y.k, .int .u16 y.s, .slice y.a y.l y.c] 25)).ownsRow (q + 3) 25 3 vv i (cellsN ys) from by
            have ho := HA.out.2.2.1.1.alloc (.cells #[.int .u8 y.k, .int .u16 y.s, .slice y.a y.l y.c] 25)
            rw [HLI.out] at ho
            exact ho)
          have HNW := hide (show ∀ j u, (cellsO y)[j]? = some u → ((w2.alloc (.cells #[.int .u8 y.k, .int .u16 y.s, .slice y.a y.l y.c] 25)).alloc (.cells #[.int .u8 y.k, .int .u16 y.s, .slice y.a y.l y.c] 25)).cell? ((⟨w2.heap.size + 1, 0, none⟩ : Addr).add j) = some u from fun j u hj => by
            have := one_newN (w2.alloc (.cells #[.int .u8 y.k, .int .u16 y.s, .slice y.a y.l y.c] 25)) y 25 j u hj
            rw [show (w2.alloc (.cells #[.int .u8 y.k, .int .u16 y.s, .slice y.a y.l y.c] 25)).heap.size = w2.heap.size + 1 by simp] at this
            exact this)
          clear hk2 HV0
          go_wp2_with (at_builtin; refine wpList_append_lies _ rfl _ _ 23 rfl (q + 3) 25 i0 (.agg #[.int .u8 0, .int .u16 0, .slice none 0 0]) 3 32 Try.underlying23 hi0 hz0 hz1 hz2 rfl (by omega) vv i (cellsN ys) rfl HOW.out ⟨w2.heap.size + 1, 0, none⟩ 1 1 (cellsO y) rfl rfl HNW.out (cellsO_one' y) (by omega) (by unfold maxLen; omega) (by omega) (by have := HA.out.2.2.2.2.2; simp at this ⊢; omega) (w2.heap.size + 2) (by simp) ?_)
          intro g' cap' w3 hown3 hgrow3 hat3 hlt3
          have HR := hide (snoc_next (g := g') (cap := cap') (w3 := w3) HA.out.2.2.1 HA.out.2.2.2.1 (by have := HQ2.out; omega) HA.out.1 HT2.out HA.out.2.1 hsz HSS.out HVV.out HA.out.2.2.2.2.2 _ HLI.out hown3 hgrow3 (by simpa using hat3))
          obtain ⟨-, -, u2, u4⟩ := st3_cells HR.out.1
          have u3 := u4 2
          clear hown3 hgrow3 hat3 hlt3 t0 t2 t3 f2 u4
          go_wp2
          go_roundw
          case rel => exact ⟨i + 1, _, _, _, by omega, by go_num, fun h => by omega, HR.out.2.1, by rw [HN.out]; exact HR.out.2.2.1, HA.out.2.2.2.2.1.trans HR.out.2.2.2.1, by have := HR.out.2.2.2.2; have := HA.out.2.2.2.2.2; omega⟩
          case measure => simp [intOf]; omega
      · have e : i = len := by omega
        subst e
        have HT := hide (show l.take i = l from List.take_of_length_le (by have := HL.out; omega))
        rw [HT.out] at hmk
        obtain ⟨m0, m1, m2, m3⟩ := st3_cells (st3_below HW5.out hb (by have := HQ2.out; omega))
        have m4 := m3 0
        have m5 := m3 1
        have m6 := m3 2
        clear m3
        have HBW := hide (show Below q w wr from HW1.out.trans (hb.mono (by have := HQ2.out; omega)))
        have hqq : q + 1 ≠ q2 := by have := HQ2.out; omega
        have hqs := hqq.symm
        obtain ⟨a', len', cap', S, rfl, hTr, hSn, hSl⟩ := mkg_end hmk hk hs
        obtain ⟨o0, o1, o2, o3⟩ := st3_cells hst
        have HTR := hide hTr
        have HSN := hide hSn
        have HSL := hide hSl
        clear hmk hTr hSn hSl o3 hb hst HV0
        go_wp2
        refine bodyPost_ret (v := .agg #[.int .u8 kk, .int .u16 ss, .slice a' len' cap']) (by simp [results, Try.results22, go_sem, m0, m1, m2]) rfl ?_
        refine ⟨⟨kk, ss, a', len', cap'⟩, S, rfl, ?_, HSN.out, fun b hb => by have := HSL.out b hb; rw [HQ.out]; omega, ?_⟩
        · rw [HE.out]
          exact tr_keep _ _ _ _ (fun b hb => by
            have := HSL.out b hb
            rw [Below.heap_setCell _ _ _ _ (by simp; omega), Below.heap_setCell _ _ _ _ (by simp; omega), Below.heap_setCell _ _ _ _ (by simp; omega)]) HTR.out
        · rw [HQ.out]
          exact ((HBW.out.setCell (by simp) _).setCell (by simp) _).setCell (by simp) _
end Go.Proofs.Ytacfkdjpdgnohaa.A
