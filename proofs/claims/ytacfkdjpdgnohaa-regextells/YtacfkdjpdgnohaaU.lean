/- The program's begins, First. -/
import Derived.Test.YtacfkdjpdgnohaaT
namespace Go.Proofs.Ytacfkdjpdgnohaa.A
open Go.RowKit

theorem hasEmpty_any (n : Nat) (t : Ex n) (v : Value) (w : World) (h : Rx w n t v) (hsh : shapesE n t = true) : Calls Try.prog 28 #[v] w fun e w' => e = .returned (.bool (emptyE n t)) ∧ Below w.heap.size w w' := empty_asks n t v w h hsh
theorem bits_or (a b : Nat) (ha : a < 65536) (hb : b < 65536) : bits BinOp.or IntKind.u16 (a : Int) (b : Int) = ((a ||| b : Nat) : Int) :=
  (bits_nat .u16 16 (by decide) (fun n h0 h1 => by rw [IntKind.wrap_u16]; omega) a b ha hb).2
theorem or_lt {a b : Nat} (ha : a < 65536) (hb : b < 65536) : a ||| b < 65536 := Nat.or_lt_two_pow (n := 16) ha hb
theorem fold_or_lt {α : Type} (f : α → Nat) : ∀ (l : List α) (a : Nat), a < 65536 → (∀ x ∈ l, f x < 65536) → l.foldl (fun a x => a ||| f x) a < 65536
  | [], _, h, _ => h
  | x :: r, a, h, hl => fold_or_lt f r _ (or_lt h (hl x (by simp))) (fun y hy => hl y (by simp [hy]))
theorem firstL_lt {α : Type} (f : α → Nat) (e : α → Bool) : ∀ (l : List α), (∀ x ∈ l, f x < 65536) → firstL f e l < 65536
  | [], _ => by show (0 : Nat) < 65536; decide
  | x :: r, hl => by
    show f x ||| (if e x = true then firstL f e r else 0) < 65536
    refine or_lt (hl x (by simp)) ?_
    split
    · exact firstL_lt f e r (fun y hy => hl y (by simp [hy]))
    · decide
/-- Every node's set is one of sixteen. -/
def setsE : (n : Nat) → Ex n → Prop
  | 0, _ => True
  | n + 1, t => st t < 65536 ∧ ∀ x ∈ ks t, setsE n x
theorem rx_sets {w : World} : ∀ (n : Nat) (t : Ex n) (v : Value), Rx w n t v → setsE n t
  | 0, _, _, _ => trivial
  | n + 1, t, _, ⟨a, len, cap, _, _, hs, _, _, h6, h7⟩ => by
    refine ⟨hs, fun x hx => ?_⟩
    obtain ⟨i, hi⟩ := List.getElem?_of_mem hx
    rcases h7 with h7 | ⟨b, off, _, h7⟩
    · have := (List.getElem?_eq_some_iff.1 hi).1; omega
    · obtain ⟨c0, c1, c2, _, _, _, q⟩ := h7 i x hi
      exact rx_sets n x _ q
theorem first_lt : ∀ (n : Nat) (t : Ex n), setsE n t → firstE n t < 65536
  | 0, _, _ => by show (0 : Nat) < 65536; decide
  | n + 1, t, ⟨hs, hl⟩ => by
    unfold firstE
    split
    · exact hs
    · split
      · exact firstL_lt _ _ _ (fun x hx => first_lt n x (hl x hx))
      · exact fold_or_lt _ _ _ (by decide) (fun x hx => first_lt n x (hl x hx))
theorem fold_or_start {α : Type} (f : α → Nat) : ∀ (l : List α) (a : Nat), l.foldl (fun a x => a ||| f x) a = a ||| l.foldl (fun a x => a ||| f x) 0
  | [], a => by simp
  | x :: r, a => by
    rw [List.foldl_cons, List.foldl_cons, fold_or_start f r (a ||| f x), fold_or_start f r (0 ||| f x), Nat.zero_or, Nat.or_assoc]
theorem firstL_take {α : Type} (f : α → Nat) (e : α → Bool) : ∀ (l : List α) (i : Nat), (∀ y ∈ l.take i, e y = true) → firstL f e l = (l.take i).foldl (fun a x => a ||| f x) 0 ||| firstL f e (l.drop i)
  | [], i, _ => by simp [firstL]
  | x :: r, 0, _ => by simp
  | x :: r, i + 1, h => by
    have hx : e x = true := h x (by simp)
    have ih := firstL_take f e r i (fun y hy => h y (by simp [hy]))
    show f x ||| (if e x = true then firstL f e r else 0) = _
    rw [if_pos hx, ih, List.take_succ_cons, List.drop_succ_cons, List.foldl_cons, fold_or_start f (r.take i) (0 ||| f x), Nat.zero_or, Nat.or_assoc]
theorem firstL_stop {α : Type} (f : α → Nat) (e : α → Bool) {l : List α} {i : Nat} {x : α} (hx : l[i]? = some x) (h : ∀ y ∈ l.take i, e y = true) (hn : e x = false) : firstL f e l = (l.take (i + 1)).foldl (fun a x => a ||| f x) 0 := by
  rw [firstL_take f e l i h, take_at hx, List.foldl_append]
  obtain ⟨hi, e1⟩ := List.getElem?_eq_some_iff.1 hx
  rw [List.drop_eq_getElem_cons hi, e1]
  show _ ||| (f x ||| (if e x = true then _ else 0)) = _ ||| f x
  rw [if_neg (by rw [hn]; simp), Nat.or_zero]
theorem firstL_end {α : Type} (f : α → Nat) (e : α → Bool) {l : List α} (h : ∀ y ∈ l, e y = true) : firstL f e l = l.foldl (fun a x => a ||| f x) 0 := by
  have := firstL_take f e l l.length (by rw [List.take_of_length_le (Nat.le_refl _)]; exact h)
  rw [List.take_of_length_le (Nat.le_refl _), List.drop_of_length_le (Nat.le_refl _)] at this
  rw [this]; simp [firstL]

set_option maxRecDepth 100000 in
set_option maxHeartbeats 3200000 in
/-- begins. -/
theorem begins_any : ∀ (n : Nat) (t : Ex n) (v : Value) (w : World), Rx w n t v → shapesE n t = true →
    Calls Try.prog 29 #[v] w fun e w' => e = .returned (.int .u16 (firstE n t : Nat)) ∧ Below w.heap.size w w' := by
  intro n
  induction n with
  | zero => intro t v w h; exact h.elim
  | succ n ih =>
    intro t v w h hsh
    have hsets := rx_sets _ _ _ h
    obtain ⟨a, len, cap, rfl, hk, hs, hl, h6, hkids⟩ := rx_open h
    unfold maxLen at hl
    obtain ⟨hok, hall⟩ : okE (kd t) (st t) (ks t).length = true ∧ ∀ x ∈ ks t, shapesE n x = true := by
      have e : (okE (kd t) (st t) (ks t).length && (ks t).all (fun x => shapesE n x)) = true := hsh
      rw [Bool.and_eq_true, List.all_eq_true] at e
      exact e
    have hE : firstE (n + 1) t = if kd t = 1 then st t else if kd t = 2 then firstL (fun x => firstE n x) (fun x => emptyE n x) (ks t) else (ks t).foldl (fun a x => a ||| firstE n x) 0 := rfl
    have hst : st t < 65536 ∧ ∀ x ∈ ks t, setsE n x := hsets
    rw [h6] at hok
    generalize kd t = kk at *
    generalize st t = ss at *
    generalize ks t = l at *
    have hcase : (kk = 1 ∧ len = 0) ∨ (kk ≠ 1 ∧ ss = 0) := by
      unfold okE at hok
      simp only [Bool.or_eq_true, Bool.and_eq_true, decide_eq_true_eq] at hok
      omega
    have HEND := hide (show (kk = 2 → ∀ y ∈ l, emptyE n y = true) → firstE (n + 1) t = l.foldl (fun a x => a ||| firstE n x) ss from fun q => by
      rcases hcase with ⟨e1, e2⟩ | ⟨e1, e2⟩
      · rw [hE, if_pos e1, List.length_eq_zero_iff.1 (h6.trans e2)]; rfl
      · rw [hE, if_neg e1, e2]
        by_cases e3 : kk = 2
        · rw [if_pos e3, firstL_end _ _ (q e3)]
        · rw [if_neg e3])
    have HSTOP := hide (show ∀ i x, kk = 2 → l[i]? = some x → (∀ y ∈ l.take i, emptyE n y = true) → emptyE n x = false → firstE (n + 1) t = (l.take (i + 1)).foldl (fun a x => a ||| firstE n x) ss from fun i x e3 hx q hn => by
      rcases hcase with ⟨e1, e2⟩ | ⟨e1, e2⟩
      · omega
      · rw [hE, if_neg e1, e2, if_pos e3]
        exact firstL_stop _ _ hx q hn)
    have HLT := hide (show ∀ i, (l.take i).foldl (fun a x => a ||| firstE n x) ss < 65536 from fun i => fold_or_lt _ _ _ hs (fun x hx => first_lt n x (hst.2 x (List.mem_of_mem_take hx))))
    have HFL := hide (show ∀ x ∈ l, firstE n x < 65536 from fun x hx => first_lt n x (hst.2 x hx))
    have HB0 := hide ((Below.refl w.heap.size w).alloc (Nat.le_refl _) (.cells #[.int .u8 kk, .int .u16 ss, .slice a len cap] 25))
    have HP := hide (box3 w (.int .u8 kk) (.int .u16 ss) (.slice a len cap) 25)
    have HK := hide hkids
    have HS := hide hall
    have HL := hide h6
    clear h hkids hsh hok hall h6 hE hsets hst hcase
    go_enter Try.func29, Try.ntmps29
    go_wp2_with fail
    obtain ⟨p0, p1, p2⟩ := HP.out
    clear HP
    generalize w.alloc (.cells #[.int .u8 kk, .int .u16 ss, .slice a len cap] 25) = W at *
    obtain ⟨q, hq⟩ : ∃ q, w.heap.size = q := ⟨_, rfl⟩
    rw [hq] at p0 p1 p2 HB0 ⊢
    have HQ := hide hq
    clear hq
    go_loopw [3, 5, 11] (fun s _ u wr => ∃ (i d : Nat), i ≤ len ∧ u = .int .i64 i ∧ s = .int .u16 d ∧ d = (l.take i).foldl (fun a x => a ||| firstE n x) ss ∧ (kk = 2 → ∀ y ∈ l.take i, emptyE n y = true) ∧ Below W.heap.size W wr) (fun _ _ u _ => len - (intOf u).toNat)
    case atStart => exact ⟨0, ss, Nat.zero_le _, rfl, rfl, rfl, fun _ y hy => by simp at hy, Below.refl _ _⟩
    case round =>
      obtain ⟨i, d, hi, rfl, rfl, hd, hem, hb⟩ := hrel
      have r0 := (hb.cell (p := ⟨q, 0, none⟩) (cell_lt p0)).trans p0
      have hdl : d < 65536 := by rw [hd]; exact HLT.out i
      have HD := hide hd
      have HEM := hide hem
      have HBW := hide hb
      clear hd hem
      by_cases hlt : i < len
      · obtain ⟨x, b, off, c0, c1, c2, rfl, hx, k0, k1, k2, k3⟩ := HK.out wr (by rw [HQ.out]; exact HB0.out.trans (hb.mono (HQ.out ▸ HB0.out.size))) i hlt
        obtain ⟨kx, sx, ax, lx, cx, rfl, rfl, rfl⟩ := rx_cells k3
        have HMEM := hide (List.mem_of_getElem? hx)
        have HX := hide hx
        have hfx := HFL.out x HMEM.out
        have HBA := hide (hb.alloc hb.size (.cells #[.int .u8 kx, .int .u16 sx, .slice ax lx cx] 25))
        have HXA := hide (rx_below ((Below.refl wr.heap.size wr).alloc (Nat.le_refl _) (.cells #[.int .u8 kx, .int .u16 sx, .slice ax lx cx] 25)) n x _ k3)
        obtain ⟨t0, t1, t2⟩ := box3 wr (.int .u8 kx) (.int .u16 sx) (.slice ax lx cx) 25
        have HZ := hide (show wr.heap.size < (wr.alloc (.cells #[.int .u8 kx, .int .u16 sx, .slice ax lx cx] 25)).heap.size by simp)
        have i3 : (0 : Int) ≤ (i : Int) := by omega
        have i4 : (i : Int) < (len : Int) := by omega
        clear hx k3 hb
        go_wp2_with fail
        have hbits := bits_or d (firstE n x) hdl hfx
        refine (ih x _ _ HXA.out (HS.out x HMEM.out)).mono ?_
        rintro e w2 ⟨rfl, hb2⟩
        have HB2 := hide (HBA.out.trans (hb2.mono HBA.out.size))
        have HX2 := hide (rx_below hb2 n x _ HXA.out)
        have s0 := (hb2.cell (p := ⟨wr.heap.size, 0, none⟩) HZ.out).trans t0
        have s1 := (hb2.cell (p := ⟨wr.heap.size, 1, none⟩) HZ.out).trans t1
        have s2 := (hb2.cell (p := ⟨wr.heap.size, 2, none⟩) HZ.out).trans t2
        have v0 := (HB2.out.cell (p := ⟨q, 0, none⟩) (cell_lt p0)).trans p0
        clear hb2 HXA t0 t1 t2 r0 HBA k0 k1 k2 HZ
        have HN := hide (show (l.take (i + 1)).foldl (fun a x => a ||| firstE n x) ss = d ||| firstE n x from by rw [take_at HX.out, List.foldl_append, ← HD.out]; rfl)
        obtain ⟨d', hd'⟩ : ∃ d', d ||| firstE n x = d' := ⟨_, rfl⟩
        rw [hd'] at HN hbits
        clear hd'
        by_cases hk2 : kk = 2
        · have y2 : ((kk : Int) == 2) = true := by simp; omega
          have HK2 := hide hk2
          clear hk2
          go_wp2_with fail
          refine (hasEmpty_any n x _ _ HX2.out (HS.out x HMEM.out)).mono ?_
          rintro e w3 ⟨rfl, hb3⟩
          have HB3 := hide (HB2.out.trans (hb3.mono HB2.out.size))
          clear hb3
          cases hem : emptyE n x with
          | true =>
            have HE := hide hem
            clear hem
            go_wp2
            go_roundw
            case rel => exact ⟨i + 1, d', by omega, by go_num, rfl, HN.out.symm, fun q y hy => by
              rw [take_at HX.out] at hy
              rcases List.mem_append.1 hy with hy | hy
              · exact HEM.out q y hy
              · rw [List.mem_singleton.1 hy]; exact HE.out, HB3.out⟩
            case measure => simp [intOf]; omega
          | false =>
            have HE := hide hem
            clear hem
            go_wp2
            go_ret
            exact ⟨by rw [HSTOP.out i x HK2.out HX.out (HEM.out HK2.out) HE.out, HN.out]; rfl, by rw [HQ.out]; exact HB0.out.trans (HB3.out.mono (HQ.out ▸ HB0.out.size))⟩
        · have y2 : ((kk : Int) == 2) = false := by simp; omega
          have HK2 := hide hk2
          clear hk2
          go_wp2
          go_roundw
          case rel => exact ⟨i + 1, d', by omega, by go_num, rfl, HN.out.symm, fun q => (HK2.out q).elim, HB2.out⟩
          case measure => simp [intOf]; omega
      · have e : i = len := by omega
        subst e
        have HT := hide (show l.take i = l from List.take_of_length_le (by have := HL.out; omega))
        clear hb
        go_wp2
        go_ret
        refine ⟨?_, by rw [HQ.out]; exact HB0.out.trans (HBW.out.mono (HQ.out ▸ HB0.out.size))⟩
        have h1 := HEM.out
        have h2 := HD.out
        rw [HT.out] at h1 h2
        rw [HEND.out h1, ← h2]
        rfl
/-- What First tells. -/
def firstR (n : Nat) (t : Ex n) : Nat := if rightE n t = true then firstE n t else 0
set_option maxHeartbeats 800000 in
/-- First. -/
theorem first_any (n : Nat) (t : Ex n) (v : Value) (w : World) (h : Rx w n t v) :
    Calls Try.prog 18 #[v] w fun e w' => e = .returned (.int .u16 (firstR n t : Nat)) ∧ Below w.heap.size w w' := by
  obtain ⟨c0, c1, c2, rfl⟩ := rx_form h
  obtain ⟨p0, p1, p2⟩ := box3 w c0 c1 c2 25
  have HX := hide h
  have HB0 := hide ((Below.refl w.heap.size w).alloc (Nat.le_refl _) (.cells #[c0, c1, c2] 25))
  have HF := hide (show firstR n t = if rightE n t = true then firstE n t else 0 from rfl)
  clear h
  go_enter Try.func18, Try.ntmps18
  go_wp2_with fail
  refine (right_any n t _ _ (rx_below HB0.out n t _ HX.out)).mono ?_
  rintro e w1 ⟨rfl, hb1⟩
  have r0 := (hb1.cell (p := ⟨w.heap.size, 0, none⟩) (cell_lt p0)).trans p0
  have r1 := (hb1.cell (p := ⟨w.heap.size, 1, none⟩) (cell_lt p1)).trans p1
  have r2 := (hb1.cell (p := ⟨w.heap.size, 2, none⟩) (cell_lt p2)).trans p2
  have HB1 := hide (HB0.out.trans (hb1.mono HB0.out.size))
  clear hb1 p0 p1 p2
  cases hr : rightE n t with
  | false =>
    rw [hr] at HF
    clear hr
    go_wp2
    go_ret
    exact ⟨by rw [HF.out]; rfl, HB1.out⟩
  | true =>
    rw [hr] at HF
    have HR := hide hr
    clear hr
    go_wp2_with fail
    refine (begins_any n t _ _ (rx_below HB1.out n t _ HX.out) (right_shapes HR.out)).mono ?_
    rintro e w2 ⟨rfl, hb2⟩
    have HB2 := hide (HB1.out.trans (hb2.mono HB1.out.size))
    clear hb2
    go_wp2
    go_ret
    exact ⟨by rw [HF.out]; rfl, HB2.out⟩
end Go.Proofs.Ytacfkdjpdgnohaa.A
