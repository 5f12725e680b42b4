/- Ahead of layer 6: a machine's memory; the document's Step. -/
import Derived.Test.YtccaknabpnpjaaaGreatDoorPk3
namespace Go.Proofs.YtccaknabpnpjaaaGreatDoor.A
open Go.RowKit

theorem box4 (w : World) (u0 u1 u2 u3 : Value) (t : TypeId) : (w.alloc (.cells #[u0, u1, u2, u3] t)).cell? ⟨w.heap.size, 0, none⟩ = some u0 ∧ (w.alloc (.cells #[u0, u1, u2, u3] t)).cell? ⟨w.heap.size, 1, none⟩ = some u1 ∧ (w.alloc (.cells #[u0, u1, u2, u3] t)).cell? ⟨w.heap.size, 2, none⟩ = some u2 ∧ (w.alloc (.cells #[u0, u1, u2, u3] t)).cell? ⟨w.heap.size, 3, none⟩ = some u3 := by
  refine ⟨?_, ?_, ?_, ?_⟩ <;> simp
/-- Sets at a slice. -/
def Sts (w : World) (a : Option Addr) (ss : List Nat) : Prop := ∀ (i s : Nat), ss[i]? = some s → ∃ b off, a = some ⟨b, off, none⟩ ∧ w.cell? ⟨b, off + i, none⟩ = some (.int .u16 (s : Int)) ∧ s < 65536
theorem sts_below {w w' : World} {a : Option Addr} {ss : List Nat} (hb : Below w.heap.size w w') (h : Sts w a ss) : Sts w' a ss := fun i s hs => by
  obtain ⟨b, off, e, k, l⟩ := h i s hs
  exact ⟨b, off, e, (hb.cell (p := ⟨b, off + i, none⟩) (cell_lt k)).trans k, l⟩
/-- Which states are stepped to from the first k. -/
def stpB (ss : List Nat) (ts : List Int) (c : Int) (o : Nat → Bool) (k j : Nat) : Bool := (List.range k).any fun i => o i && (match ss[i]?, ts[i]? with | some s, some t => inS s c && t == (j : Int) | _, _ => false)
theorem stpB_step {ss : List Nat} {ts : List Int} {c : Int} {o : Nat → Bool} {k : Nat} {s : Nat} {t : Int} (hs : ss[k]? = some s) (ht : ts[k]? = some t) (j : Nat) : stpB ss ts c o (k + 1) j = (stpB ss ts c o k j || (o k && (inS s c && t == (j : Int)))) := by
  unfold stpB; rw [List.range_succ, List.any_append]; simp [hs, ht]
theorem stpB_no {ss : List Nat} {ts : List Int} {c : Int} {o : Nat → Bool} {k : Nat} {s : Nat} {t : Int} (hs : ss[k]? = some s) (ht : ts[k]? = some t) (h : (o k && inS s c) = false) (j : Nat) : stpB ss ts c o k j = stpB ss ts c o (k + 1) j := by
  rw [stpB_step hs ht, ← Bool.and_assoc, h, Bool.false_and, Bool.or_false]
theorem stpB_yes {ss : List Nat} {ts : List Int} {c : Int} {o : Nat → Bool} {k : Nat} {s i : Nat} (hs : ss[k]? = some s) (ht : ts[k]? = some (i : Int)) (h : (o k && inS s c) = true) (j : Nat) : (if j = i then true else stpB ss ts c o k j) = stpB ss ts c o (k + 1) j := by
  rw [stpB_step hs ht, ← Bool.and_assoc, h, Bool.true_and]
  by_cases e : j = i
  · subst e; simp
  · have : ((i : Int) == (j : Int)) = false := by simp; omega
    rw [if_neg e, this, Bool.or_false]
theorem inS_out {s : Nat} {c : Int} (h : ¬ (0 ≤ c ∧ c < 16)) : inS s c = false := by
  unfold inS
  by_cases c0 : 0 ≤ c
  · have : decide (c < 16) = false := by simp; omega
    simp [this]
  · simp [c0]

set_option maxRecDepth 100000 in
set_option maxHeartbeats 3200000 in
theorem step_any (x0 x3 : Value) (a1 a2 : Option Addr) (N c1 c2 F : Nat) (ss : List Nat) (ts : List Int) (c : Int) (o : Nat → Bool) (w : World) (hN : N ≤ 10000) (hs : ss.length = N) (ht : ts.length = N)
    (hS : Sts w a1 ss) (hT : Wd w a2 ts) (hok : ∀ (i s : Nat) (t : Int), ss[i]? = some s → ts[i]? = some t → 0 < s → 0 ≤ t ∧ t < N) (hF : Mk w F N o) :
    Calls Tryz.prog 27 #[.agg #[x0, .slice a1 N c1, .slice a2 N c2, x3], .slice (some ⟨F, 0, none⟩) N N, .int .i64 c] w fun e w' => Gives w N (stpB ss ts c o N) e w' := by
  have hmk : ∀ w, (Instr.makeSlice 68 (.int .i64 (N : Int)) (.int .i64 (N : Int))).run Tryz.prog w = .ok (.slice (some ⟨w.heap.size, 0, none⟩) N N) (w.alloc (.cells (rowB N fun _ => false) 4)) := make39 N hN
  have HF := hide hF
  have HFL := hide (mk_lt hF)
  have HS := hide hS
  have HT := hide hT
  have HSL := hide hs
  have HTL := hide ht
  have HOK := hide hok
  clear hF hS hT hs ht hok
  obtain ⟨p0, p1, p2, p3⟩ := box4 w x0 (.slice a1 N c1) (.slice a2 N c2) x3 55
  have HB0 := hide ((Below.refl w.heap.size w).alloc (Nat.le_refl _) (.cells #[x0, .slice a1 N c1, .slice a2 N c2, x3] 55))
  go_enter Tryz.func27, Tryz.ntmps27
  go_wp2_with fail
  have hm0 : Mk ((w.alloc (.cells #[x0, .slice a1 N c1, .slice a2 N c2, x3] 55)).alloc (.cells (rowB N fun _ => false) 4)) (w.heap.size + 1) N (stpB ss ts c o 0) := mk_congr (g := fun _ => false) (mk_new _ _ _) (fun j _ => by simp [stpB])
  have hb0 := HB0.out.alloc (by simp) (.cells (rowB N fun _ => false) 4)
  have hp1 : ((w.alloc (.cells #[x0, .slice a1 N c1, .slice a2 N c2, x3] 55)).alloc (.cells (rowB N fun _ => false) 4)).cell? ⟨w.heap.size, 1, none⟩ = some (.slice a1 N c1) := by
    rw [← p1]; exact ((Below.refl (w.heap.size + 1) (w.alloc (.cells #[x0, .slice a1 N c1, .slice a2 N c2, x3] 55))).alloc (by simp) (.cells (rowB N fun _ => false) 4)).cell (p := ⟨w.heap.size, 1, none⟩) (by simp)
  have hp2 : ((w.alloc (.cells #[x0, .slice a1 N c1, .slice a2 N c2, x3] 55)).alloc (.cells (rowB N fun _ => false) 4)).cell? ⟨w.heap.size, 2, none⟩ = some (.slice a2 N c2) := by
    rw [← p2]; exact ((Below.refl (w.heap.size + 1) (w.alloc (.cells #[x0, .slice a1 N c1, .slice a2 N c2, x3] 55))).alloc (by simp) (.cells (rowB N fun _ => false) 4)).cell (p := ⟨w.heap.size, 2, none⟩) (by simp)
  clear hmk p0 p1 p2 p3 HB0
  generalize (w.alloc (.cells #[x0, .slice a1 N c1, .slice a2 N c2, x3] 55)).alloc (.cells (rowB N fun _ => false) 4) = W0 at *
  generalize hB : w.heap.size = B at *
  go_loopw [8] (fun i wr => ∃ k : Nat, k ≤ N ∧ i = .int .i64 k ∧ Mk wr (B + 1) N (stpB ss ts c o k) ∧ Below B w wr ∧ Below (B + 1) W0 wr) (fun i _ => N - (intOf i).toNat)
  case atStart => exact ⟨0, Nat.zero_le _, rfl, hm0, hb0, Below.refl _ _⟩
  case round =>
    obtain ⟨k, hk, rfl, hm, hb, hb2⟩ := hrel
    clear hm0 hb0
    have r1 := (hb2.cell (p := ⟨B, 1, none⟩) (Nat.lt_succ_self _)).trans hp1
    have r2 := (hb2.cell (p := ⟨B, 2, none⟩) (Nat.lt_succ_self _)).trans hp2
    clear hp1 hp2
    by_cases hlt : k < N
    · obtain ⟨f0, _⟩ := mk_cell (mk_below HFL.out hb HF.out) hlt
      obtain ⟨s, hcs⟩ : ∃ s, ss[k]? = some s := ⟨_, List.getElem?_eq_getElem (by rw [HSL.out]; exact hlt)⟩
      obtain ⟨t, hct⟩ : ∃ t, ts[k]? = some t := ⟨_, List.getElem?_eq_getElem (by rw [HTL.out]; exact hlt)⟩
      obtain ⟨b, off, rfl, k0, hs16⟩ := sts_below (hB ▸ hb) HS.out k s hcs
      obtain ⟨b', off', rfl, k1⟩ := wd_below (hB ▸ hb) HT.out k t hct
      have HCS := hide hcs
      have HCT := hide hct
      have i1 : (0 : Int) ≤ (k : Int) := by omega
      have i2 : (k : Int) < (N : Int) := by omega
      clear hcs hct
      cases ho : o k
      · rw [ho] at f0
        have HM := hide (mk_congr hm (fun j _ => stpB_no HCS.out HCT.out (show (o k && inS s c) = false by rw [ho]; rfl) j))
        clear ho hm
        go_wp2
        go_roundw
        case rel => exact ⟨k + 1, by omega, by go_num, HM.out, hb, hb2⟩
        case measure => simp [intOf]; omega
      · rw [ho] at f0
        have HO := hide ho
        clear ho
        by_cases c0 : 0 ≤ c
        · by_cases c1' : c < 16
          · cases hbit : (bits BinOp.and IntKind.u16 ((s : Int) / 2 ^ c.toNat) 1 == 1)
            · have HM := hide (mk_congr hm (fun j _ => stpB_no HCS.out HCT.out (show (o k && inS s c) = false by rw [← bit_at s c c0 c1', ← bits_one s c hs16, hbit, Bool.and_false]) j))
              clear hm
              go_wp2
              go_roundw
              case rel => exact ⟨k + 1, by omega, by go_num, HM.out, hb, hb2⟩
              case measure => simp [intOf]; omega
            · have hin : inS s c = true := by rw [← bit_at s c c0 c1', ← bits_one s c hs16, hbit]
              have hpos : 0 < s := by
                rcases Nat.eq_zero_or_pos s with e | e
                · subst e; simp [inS] at hin
                · exact e
              obtain ⟨t0, t1⟩ := HOK.out k s t HCS.out HCT.out hpos
              obtain ⟨i, rfl⟩ : ∃ i : Nat, t = i := ⟨t.toNat, by omega⟩
              have hi : i < N := by omega
              obtain ⟨m0, m1⟩ := mk_cell hm hi
              have HM := hide (mk_congr (mk_set hm hi true) (fun j _ => stpB_yes HCS.out HCT.out (show (o k && inS s c) = true by rw [HO.out, hin]; rfl) j))
              clear hm hin hpos
              go_wp2
              go_roundw
              case rel => exact ⟨k + 1, by omega, by go_num, HM.out, hb.setCell (by simp) _, hb2.setCell (by simp) _⟩
              case measure => simp [intOf]; omega
          · have HM := hide (mk_congr hm (fun j _ => stpB_no HCS.out HCT.out (show (o k && inS s c) = false by rw [inS_out (fun q => c1' q.2), Bool.and_false]) j))
            have z0 : decide (0 ≤ c) = true := by simp; omega
            have z1 : decide (c < 16) = false := by simp; omega
            clear hm
            go_wp2
            go_roundw
            case rel => exact ⟨k + 1, by omega, by go_num, HM.out, hb, hb2⟩
            case measure => simp [intOf]; omega
        · have HM := hide (mk_congr hm (fun j _ => stpB_no HCS.out HCT.out (show (o k && inS s c) = false by rw [inS_out (fun q => c0 q.1), Bool.and_false]) j))
          have z0 : decide (0 ≤ c) = false := by simp; omega
          clear hm
          go_wp2
          go_roundw
          case rel => exact ⟨k + 1, by omega, by go_num, HM.out, hb, hb2⟩
          case measure => simp [intOf]; omega
    · have e : k = N := by omega
      subst e
      go_wp2
      go_ret
      exact ⟨B + 1, by omega, rfl, hm, by rw [hB]; exact hb⟩

end Go.Proofs.YtccaknabpnpjaaaGreatDoor.A

/- Ahead of layer 6: the document's Close: what is reached by free steps. -/
namespace Go.Proofs.YtccaknabpnpjaaaGreatDoor.A
open Go.RowKit

/-- Free steps at a slice. -/
def Fs (w : World) (a : Option Addr) (fs : List (List Int)) : Prop := ∀ (i : Nat) (l : List Int), fs[i]? = some l → ∃ b off a' c', a = some ⟨b, off, none⟩ ∧ w.cell? ⟨b, off + i, none⟩ = some (.slice a' l.length c') ∧ Wd w a' l
theorem fs_below {w w' : World} {a : Option Addr} {fs : List (List Int)} (hb : Below w.heap.size w w') (h : Fs w a fs) : Fs w' a fs := fun i l hl => by
  obtain ⟨b, off, a', c', e, k, d⟩ := h i l hl
  exact ⟨b, off, a', c', e, (hb.cell (p := ⟨b, off + i, none⟩) (cell_lt k)).trans k, wd_below hb d⟩
/-- What is reached by free steps from states that are marked. -/
inductive Rch (fs : List (List Int)) (N : Nat) (o : Nat → Bool) : Nat → Prop
  | here {j : Nat} (hn : j < N) (h : o j = true) : Rch fs N o j
  | on {i j : Nat} {l : List Int} (h : Rch fs N o i) (hl : fs[i]? = some l) (hj : (j : Int) ∈ l) : Rch fs N o j
/-- Marks that are just what is reached. -/
def IsCl (fs : List (List Int)) (N : Nat) (o g : Nat → Bool) : Prop := ∀ j, j < N → (g j = true ↔ Rch fs N o j)
/-- How many are not marked. -/
def cntF (g : Nat → Bool) : Nat → Nat
  | 0 => 0
  | n + 1 => cntF g n + (match g n with | true => 0 | false => 1)
theorem cntF_mono {g h : Nat → Bool} : ∀ n, (∀ j, j < n → g j = true → h j = true) → cntF h n ≤ cntF g n
  | 0, _ => Nat.le_refl _
  | n + 1, e => by
    have h1 := cntF_mono n (fun j hj => e j (by omega))
    have h2 := e n (by omega)
    unfold cntF
    cases hg : g n <;> cases hh : h n <;> simp_all <;> omega
theorem cntF_lt {g h : Nat → Bool} : ∀ n, (∀ j, j < n → g j = true → h j = true) → ∀ z, z < n → g z = false → h z = true → cntF h n < cntF g n
  | 0, _, z, hz, _, _ => by omega
  | n + 1, e, z, hz, h0, h1 => by
    by_cases q : z = n
    · subst q
      have h3 := cntF_mono z (fun j hj => e j (by omega))
      unfold cntF
      rw [h0, h1]
      show cntF h z + 0 < cntF g z + 1
      omega
    · have h3 := cntF_lt n (fun j hj => e j (by omega)) z (by omega) h0 h1
      have h2 := e n (by omega)
      unfold cntF
      cases hg : g n <;> cases hh : h n <;> simp_all <;> omega
theorem cntF_congr {g h : Nat → Bool} (n : Nat) (e : ∀ j, j < n → g j = h j) : cntF g n = cntF h n :=
  Nat.le_antisymm (cntF_mono n (fun j hj q => by rw [e j hj]; exact q)) (cntF_mono n (fun j hj q => by rw [← e j hj]; exact q))
/-- The same, read in memory. -/
def undone (w : World) (B : Nat) : Nat → Nat
  | 0 => 0
  | n + 1 => undone w B n + (match w.cell? ⟨B, n, none⟩ with | some (.bool false) => 1 | _ => 0)
theorem undone_of {w : World} {B N : Nat} {g : Nat → Bool} (d : Mk w B N g) : ∀ n, n ≤ N → undone w B n = cntF g n
  | 0, _ => rfl
  | n + 1, hn => by
    unfold undone cntF
    rw [undone_of d n (by omega), (mk_cell d (j := n) (by omega)).1]
    cases g n <;> rfl
/-- Where a round of closing stands: marks at its start, whether one was added, marks now. -/
def Rnd (fs : List (List Int)) (o : Nat → Bool) (N : Nat) (g0 : Nat → Bool) (b : Bool) (g : Nat → Bool) : Prop :=
  (∀ j, j < N → g0 j = true → g j = true) ∧ (∀ j, j < N → g j = true → Rch fs N o j) ∧ (b = true → cntF g N < cntF g0 N) ∧ (b = false → ∀ j, j < N → g j = g0 j)
theorem rnd_set {fs : List (List Int)} {o : Nat → Bool} {N : Nat} {g0 : Nat → Bool} {b : Bool} {g : Nat → Bool} (h : Rnd fs o N g0 b g) {z : Nat} (hz : z < N) (hr : Rch fs N o z) : Rnd fs o N g0 (b || !g z) (fun j => if j = z then true else g j) := by
  obtain ⟨h1, h2, h3, h4⟩ := h
  have up : ∀ j, j < N → g j = true → (if j = z then true else g j) = true := fun j _ q => by rw [q]; simp
  refine ⟨fun j hj q => up j hj (h1 j hj q), fun j hj q => ?_, fun q => ?_, fun q j hj => ?_⟩
  · by_cases e : j = z
    · subst e; exact hr
    · simp only [if_neg e] at q; exact h2 j hj q
  · cases hb : b
    · rw [hb] at q
      have hgz : g z = false := by simpa using q
      have := cntF_lt (h := fun j => if j = z then true else g j) N up z hz hgz (by simp)
      rw [cntF_congr (g := g) N (h4 hb)] at this
      exact this
    · exact Nat.lt_of_le_of_lt (cntF_mono N up) (h3 hb)
  · have hb : b = false := by cases hb : b <;> simp_all
    have hgz : g z = true := by rw [hb] at q; simpa using q
    rw [← h4 hb j hj]
    by_cases e : j = z
    · subst e; simp [hgz]
    · simp [e]
/-- Closed at a state. -/
def ClAt (fs : List (List Int)) (g : Nat → Bool) (i : Nat) : Prop := g i = true → ∀ l, fs[i]? = some l → ∀ (j : Nat), (j : Int) ∈ l → g j = true
theorem closed_rch {fs : List (List Int)} {o g : Nat → Bool} {N : Nat} (h0 : ∀ j, j < N → o j = true → g j = true) (hc : ∀ i, i < N → ClAt fs g i) (hok : ∀ (i : Nat) (l : List Int), fs[i]? = some l → ∀ z ∈ l, 0 ≤ z ∧ z < (N : Int)) {j : Nat} (h : Rch fs N o j) : g j = true ∧ j < N := by
  induction h with
  | here hn h => exact ⟨h0 _ hn h, hn⟩
  | on _ hl' hj ih => exact ⟨hc _ ih.2 ih.1 _ hl' _ hj, by have := hok _ _ hl' _ hj; omega⟩
theorem closed_is {fs : List (List Int)} {o g : Nat → Bool} {N : Nat} (h0 : ∀ j, j < N → o j = true → g j = true) (h1 : ∀ j, j < N → g j = true → Rch fs N o j) (hc : ∀ i, i < N → ClAt fs g i) (hok : ∀ (i : Nat) (l : List Int), fs[i]? = some l → ∀ z ∈ l, 0 ≤ z ∧ z < (N : Int)) : IsCl fs N o g :=
  fun j hj => ⟨h1 j hj, fun h => (closed_rch h0 hc hok h).1⟩
theorem rch_congr {fs : List (List Int)} {o o' : Nat → Bool} {N : Nat} (e : ∀ j, j < N → o j = o' j) {j : Nat} (h : Rch fs N o j) : Rch fs N o' j := by
  induction h with
  | here hn h => exact .here hn (by rw [← e _ hn]; exact h)
  | on _ hl hj ih => exact .on ih hl hj
theorem isCl_congr {fs : List (List Int)} {o o' g : Nat → Bool} {N : Nat} (e : ∀ j, j < N → o j = o' j) (h : IsCl fs N o g) : IsCl fs N o' g :=
  fun j hj => (h j hj).trans ⟨rch_congr e, rch_congr fun j hj => (e j hj).symm⟩
/-- Two such marks are one. -/
theorem isCl_one {fs : List (List Int)} {o g g' : Nat → Bool} {N : Nat} (h : IsCl fs N o g) (h' : IsCl fs N o g') (j : Nat) (hj : j < N) : g j = g' j := by
  rw [Bool.eq_iff_iff]; exact (h j hj).trans (h' j hj).symm

end Go.Proofs.YtccaknabpnpjaaaGreatDoor.A

/- The program's isState, and what asks whether a list has a number that is no state. -/
namespace Go.Proofs.YtccaknabpnpjaaaGreatDoor.A
open Go.RowKit

/-- A number that is a state, of so many. -/
def isSt (n : Nat) (z : Int) : Bool := decide (0 ≤ z) && decide (z < (n : Int))
/-- A machine's four lists in a block. -/
def Bx (w : World) (p : Nat) (x0 x1 x2 x3 : Value) : Prop := w.cell? ⟨p, 0, none⟩ = some x0 ∧ w.cell? ⟨p, 1, none⟩ = some x1 ∧ w.cell? ⟨p, 2, none⟩ = some x2 ∧ w.cell? ⟨p, 3, none⟩ = some x3
theorem bx_below {w w' : World} {B p : Nat} {x0 x1 x2 x3 : Value} (hb : Below B w w') (hp : p < B) (h : Bx w p x0 x1 x2 x3) : Bx w' p x0 x1 x2 x3 :=
  ⟨(hb.cell (p := ⟨p, 0, none⟩) hp).trans h.1, (hb.cell (p := ⟨p, 1, none⟩) hp).trans h.2.1, (hb.cell (p := ⟨p, 2, none⟩) hp).trans h.2.2.1, (hb.cell (p := ⟨p, 3, none⟩) hp).trans h.2.2.2⟩
theorem bx_new (w : World) (x0 x1 x2 x3 : Value) : Bx (w.alloc (.cells #[x0, x1, x2, x3] 55)) w.heap.size x0 x1 x2 x3 := box4 w x0 x1 x2 x3 55

set_option maxHeartbeats 800000 in
theorem isState_any (a0 : Option Addr) (n0 c0 : Nat) (x1 x2 x3 : Value) (z : Int) (w : World) :
    Calls Tryz.prog 65 #[.agg #[.slice a0 n0 c0, x1, x2, x3], .int .i64 z] w fun e w' => e = .returned (.bool (isSt n0 z)) ∧ Below w.heap.size w w' := by
  obtain ⟨p0, p1, p2, p3⟩ := bx_new w (.slice a0 n0 c0) x1 x2 x3
  have HB := hide ((Below.refl w.heap.size w).alloc (Nat.le_refl _) (.cells #[.slice a0 n0 c0, x1, x2, x3] 55))
  by_cases z0 : 0 ≤ z
  · have h0 : decide (0 ≤ z) = true := by simp [z0]
    by_cases z1 : z < (n0 : Int)
    · have h1 : decide (z < (n0 : Int)) = true := by simp [z1]
      have HE := hide (show isSt n0 z = true by unfold isSt; rw [h0, h1]; rfl)
      go_enter Tryz.func65, Tryz.ntmps65
      go_wp2
      go_ret
      exact ⟨by rw [HE.out]; rfl, HB.out⟩
    · have h1 : decide (z < (n0 : Int)) = false := by simp [z1]
      have HE := hide (show isSt n0 z = false by unfold isSt; rw [h0, h1]; rfl)
      go_enter Tryz.func65, Tryz.ntmps65
      go_wp2
      go_ret
      exact ⟨by rw [HE.out]; rfl, HB.out⟩
  · have h0 : decide (0 ≤ z) = false := by simp [z0]
    have HE := hide (show isSt n0 z = false by unfold isSt; rw [h0]; rfl)
    go_enter Tryz.func65, Tryz.ntmps65
    go_wp2
    go_ret
    exact ⟨by rw [HE.out]; rfl, HB.out⟩

set_option maxHeartbeats 800000 in
theorem none_any (p : Nat) (a0 : Option Addr) (n0 c0 : Nat) (x1 x2 x3 : Value) (z : Int) (w : World) (hp : Bx w p (.slice a0 n0 c0) x1 x2 x3) :
    Calls Tryz.prog 64 #[.int .i64 z, .pointer (some ⟨p, 0, none⟩)] w fun e w' => e = .returned (.bool (!isSt n0 z)) ∧ Below w.heap.size w w' := by
  obtain ⟨p0, p1, p2, p3⟩ := hp
  go_enter Tryz.func64, Tryz.ntmps64
  go_wp2_with fail
  refine (isState_any a0 n0 c0 x1 x2 x3 z w).mono ?_
  rintro e w1 ⟨rfl, hb⟩
  have HB := hide hb
  clear hb
  go_wp2
  go_ret
  exact ⟨rfl, HB.out⟩

set_option maxHeartbeats 1600000 in
theorem indexI_any (p : Nat) (a0 : Option Addr) (n0 c0 : Nat) (x1 x2 x3 : Value) (a : Option Addr) (len cap : Nat) (l : List Int) (w : World) (hl : len ≤ maxLen) (h6 : l.length = len) (hpl : p < w.heap.size) (hp : Bx w p (.slice a0 n0 c0) x1 x2 x3) (hW : Wd w a l) :
    Calls Tryz.prog 83 #[.slice a len cap, .func (.func 64) #[] #[.pointer (some ⟨p, 0, none⟩)]] w fun e w' => ∃ z : Int, e = .returned (.int .i64 z) ∧ decide (0 ≤ z) = l.any (fun z => !isSt n0 z) ∧ Below w.heap.size w w' := by
  unfold maxLen at hl
  have HW := hide hW
  have HL := hide h6
  have HP := hide hp
  clear hW h6 hp
  go_enter Tryz.func83, Tryz.ntmps83
  go_wp2_with fail
  go_loopw [5, 8] (fun _ u wr => ∃ i : Nat, i ≤ len ∧ u = .int .i64 i ∧ (l.take i).any (fun z => !isSt n0 z) = false ∧ Below w.heap.size w wr) (fun _ u _ => len - (intOf u).toNat)
  case atStart => exact ⟨0, Nat.zero_le _, rfl, rfl, Below.refl _ _⟩
  case round =>
    obtain ⟨i, hi, rfl, hd, hb⟩ := hrel
    have HD := hide hd
    have HBW := hide hb
    clear hd
    by_cases hlt : i < len
    · obtain ⟨z, hz⟩ : ∃ z, l[i]? = some z := ⟨_, List.getElem?_eq_getElem (by rw [HL.out]; exact hlt)⟩
      obtain ⟨b, off, rfl, k0⟩ := wd_below hb HW.out i z hz
      have HN := hide (show (l.take (i + 1)).any (fun z => !isSt n0 z) = !isSt n0 z from by rw [take_at hz, List.any_append, HD.out]; simp)
      have HIN := hide (show (!isSt n0 z) = true → l.any (fun z => !isSt n0 z) = true from fun g => List.any_eq_true.2 ⟨z, List.mem_of_getElem? hz, g⟩)
      have i3 : (0 : Int) ≤ (i : Int) := by omega
      have i4 : (i : Int) < (len : Int) := by omega
      clear hz hb
      go_wp2_with fail
      refine (none_any p a0 n0 c0 x1 x2 x3 z wr (bx_below HBW.out hpl HP.out)).mono ?_
      rintro e w2 ⟨rfl, hb2⟩
      have HB2 := hide (HBW.out.trans (hb2.mono HBW.out.size))
      clear hb2
      cases hf : (!isSt n0 z)
      · have HF := hide hf
        clear hf
        go_wp2
        go_roundw
        case rel => exact ⟨i + 1, by omega, by go_num, by rw [HN.out, HF.out], HB2.out⟩
        case measure => simp [intOf]; omega
      · have HF := hide hf
        clear hf
        go_wp2
        go_ret
        exact ⟨(i : Int), rfl, by rw [HIN.out HF.out]; simp, HB2.out⟩
    · have e : i = len := by omega
      subst e
      have HT := hide (show l.take i = l from List.take_of_length_le (by have := HL.out; omega))
      clear hb
      go_wp2
      go_ret
      exact ⟨-1, rfl, by rw [← HT.out, HD.out]; rfl, HBW.out⟩

set_option maxHeartbeats 800000 in
theorem containsI_any (p : Nat) (a0 : Option Addr) (n0 c0 : Nat) (x1 x2 x3 : Value) (a : Option Addr) (len cap : Nat) (l : List Int) (w : World) (hl : len ≤ maxLen) (h6 : l.length = len) (hpl : p < w.heap.size) (hp : Bx w p (.slice a0 n0 c0) x1 x2 x3) (hW : Wd w a l) :
    Calls Tryz.prog 66 #[.slice a len cap, .func (.func 64) #[] #[.pointer (some ⟨p, 0, none⟩)]] w fun e w' => e = .returned (.bool (l.any (fun z => !isSt n0 z))) ∧ Below w.heap.size w w' := by
  have HC := hide (indexI_any p a0 n0 c0 x1 x2 x3 a len cap l w hl h6 hpl hp hW)
  clear hW h6 hp
  go_enter Tryz.func66, Tryz.ntmps66
  go_wp2_with fail
  refine HC.out.mono ?_
  rintro e w2 ⟨z, rfl, hz, hb2⟩
  have HB := hide hb2
  clear hb2 HC
  cases hg : l.any (fun z => !isSt n0 z)
  · have hz' : decide (0 ≤ z) = false := hz.trans hg
    have HG := hide hg
    clear hg hz
    go_wp2
    go_ret
    exact ⟨by rw [HG.out]; rfl, HB.out⟩
  · have hz' : decide (0 ≤ z) = true := hz.trans hg
    have HG := hide hg
    clear hg hz
    go_wp2
    go_ret
    exact ⟨by rw [HG.out]; rfl, HB.out⟩

end Go.Proofs.YtccaknabpnpjaaaGreatDoor.A
