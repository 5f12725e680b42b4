/- The program's Same. -/
import Derived.Test.YthkollnlmnbidaaGm
namespace Go.Proofs.Ythkollnlmnbidaa.A
open Go.RowKit Go.Maps
set_option linter.unusedVariables false

/-- A smallest machine in memory, by any of the machine's classes. -/
def SmM (nx : List (List Int)) (ru : List Int) (n M : Nat) (nx' : List (List Int)) (ru' : List Int) : Prop := ∃ A g, Cl nx ru n A g ∧ (smF nx ru n A g M).2.1 = nx' ∧ (smF nx ru n A g M).2.2 = ru'
theorem sm_cl {nx : List (List Int)} {ru : List Int} {n : Nat} {F : Nat → Int} (hx : Mx nx ru n) (hr : rightD nx ru = true) (h : IsCls nx ru n F) : Cl nx ru n (AC F) (GC F) := ⟨hx, ac_alk h, gc_live h⟩

theorem msmall_any (a0 a1 : Option Addr) (n c0 c1 M : Nat) (nx : List (List Int)) (ru : List Int) (w : World) (hM : M = 201) (hm : Dm w a0 a1 n n nx ru) (hr : rightD nx ru = true) (hx : Mx nx ru n) :
    Calls Try.prog 15 #[.agg #[.slice a0 n c0, .slice a1 n c1]] w fun e w' => ∃ (nx' : List (List Int)) (ru' : List Int) (k : Nat) (b0 b1 : Option Addr) (d0 d1 : Nat), SmM nx ru n M nx' ru' ∧ Mx nx' ru' k ∧ e = .returned (.agg #[.slice b0 k d0, .slice b1 k d1]) ∧ Dm w' b0 b1 k k nx' ru' ∧ k ≤ n ∧ Below w.heap.size w w' := by
  refine (msmall_yes a0 a1 n c0 c1 nx ru w hm hr hx).mono ?_
  rintro e w' ⟨F, hcl, b0, b1, d0, d1, rfl, h0, h1, hb⟩
  have hc := sm_cl hx hr hcl
  have hmx := sm_mx hc M hM
  have hle := sm_len hc M
  have htb := (sm_tb' hc M hM).ln
  rw [← hM] at h0 h1 ⊢
  refine ⟨_, _, (smF nx ru n (AC F) (GC F) M).2.1.length, b0, b1, d0, d1, ⟨_, _, hc, rfl, rfl⟩, hmx, by rw [hmx.lr], ⟨rfl, hmx.lr, h0, h1, ?_, ?_⟩, by omega, hb⟩
  · have := hmx.most; unfold maxLen; omega
  · have := hmx.most; unfold maxLen; omega
theorem mx_fit {nx : List (List Int)} {ru : List Int} {n : Nat} (h : Mx nx ru n) : ∀ x ∈ nx, ∀ z ∈ x, -1 ≤ z ∧ z ≤ 10000 := fun x hx z hz => by
  obtain ⟨i, hi, e⟩ := List.getElem_of_mem hx
  have h1 := h.next i x (by rw [List.getElem?_eq_getElem hi, e]) z hz
  have := h.most
  omega

theorem sz_alloc (w : World) (o : Obj) : w.heap.size ≤ (w.alloc o).heap.size := by simp
theorem have_of {p q : Prop} (h : p) (k : p → q) : q := k h
theorem nil3 (w : World) : ((w.alloc (.cells #[.slice none 0 0, .slice none 0 0] 25)).alloc (.cells #[.slice none 0 0, .slice none 0 0] 25)).heap[w.heap.size + 1]? = some (.cells #[.slice none 0 0, .slice none 0 0] 25 (0, 0)) := by
  have h := nil2 (w.alloc (.cells #[.slice none 0 0, .slice none 0 0] 25))
  rw [show (w.alloc (.cells #[.slice none 0 0, .slice none 0 0] 25)).heap.size = w.heap.size + 1 by simp] at h
  exact h
theorem blk_facts {w : World} {g : Nat} (h : w.heap[g]? = some (.cells #[.slice none 0 0, .slice none 0 0] 25 (0, 0))) : (w.cell? ⟨g, 0, none⟩ = some (.slice none 0 0) ∧ w.cell? ⟨g, 1, none⟩ = some (.slice none 0 0) ∧ w.frozen? ⟨g, 0, none⟩ = false ∧ w.frozen? ⟨g, 1, none⟩ = false) ∧ ∀ o, (w.alloc o).cell? ⟨g, 0, none⟩ = some (.slice none 0 0) ∧ (w.alloc o).cell? ⟨g, 1, none⟩ = some (.slice none 0 0) ∧ (w.alloc o).frozen? ⟨g, 0, none⟩ = false ∧ (w.alloc o).frozen? ⟨g, 1, none⟩ = false := by
  have key : ∀ {w : World}, w.heap[g]? = some (.cells #[.slice none 0 0, .slice none 0 0] 25 (0, 0)) → (w.cell? ⟨g, 0, none⟩ = some (.slice none 0 0) ∧ w.cell? ⟨g, 1, none⟩ = some (.slice none 0 0) ∧ w.frozen? ⟨g, 0, none⟩ = false ∧ w.frozen? ⟨g, 1, none⟩ = false) := fun h => by
    obtain ⟨h0, h1, hz⟩ := d_cells h
    exact ⟨h0, h1, hz 0, hz 1⟩
  exact ⟨key h, fun o => key ((Below.heap_alloc _ o g (Array.getElem?_eq_some_iff.1 h).1).trans h)⟩
/-- Two variables that are stored. -/
theorem two_set {X : World} {g5 g6 : Nat} {v0 v1 v2 v3 c0 c1 c2 c3 : Value} (h5 : X.heap[g5]? = some (.cells #[c0, c1] 25 (0, 0))) (h6 : X.heap[g6]? = some (.cells #[c2, c3] 25 (0, 0))) (hne : g5 ≠ g6) :
    ((((X.setCell ⟨g5, 0, none⟩ v0).setCell ⟨g5, 1, none⟩ v1).setCell ⟨g6, 0, none⟩ v2).setCell ⟨g6, 1, none⟩ v3).heap[g5]? = some (.cells #[v0, v1] 25 (0, 0)) ∧ ((((X.setCell ⟨g5, 0, none⟩ v0).setCell ⟨g5, 1, none⟩ v1).setCell ⟨g6, 0, none⟩ v2).setCell ⟨g6, 1, none⟩ v3).heap[g6]? = some (.cells #[v2, v3] 25 (0, 0)) := by
  have a5 := set2 (x := v0) (y := v1) h5
  refine ⟨?_, ?_⟩
  · rw [Below.heap_setCell _ _ _ _ hne, Below.heap_setCell _ _ _ _ hne]; exact a5
  · refine set2 ?_ (c0 := c2) (c1 := c3)
    rw [Below.heap_setCell _ _ _ _ (Ne.symm hne), Below.heap_setCell _ _ _ _ (Ne.symm hne)]; exact h6

theorem dm_set {w : World} {a0 a1 : Option Addr} {n0 n1 : Nat} {nx : List (List Int)} {ru : List Int} (h : Dm w a0 a1 n0 n1 nx ru) {p : Addr} {q : Option Addr} {a b : Nat} (hp : w.cell? p = some (.slice q a b)) (v : Value) : Dm (w.setCell p v) a0 a1 n0 n1 nx ru := by
  have key : ∀ {c : Addr} {z : Int}, w.cell? c = some (.int .i64 z) → (w.setCell p v).cell? c = some (.int .i64 z) := fun {c z} hc => by
    rw [World.cell?_setCell_other _ _ _ _ (fun e => by rw [← e, hp] at hc; cases hc)]; exact hc
  refine ⟨h.l0, h.l1, fun i row hr => ?_, fun i z hz => ?_, h.m0, h.m1⟩
  · obtain ⟨h1, b', off, e, h2⟩ := h.dr i row hr
    refine ⟨h1, b', off, e, fun j u hu => ?_⟩
    have h3 := h2 j u hu
    simp only [cI, List.getElem?_map] at hu
    cases hj : row[j]? with
    | none => rw [hj] at hu; cases hu
    | some z =>
      rw [hj] at hu
      obtain rfl := Option.some.inj hu
      exact key h3
  · obtain ⟨b', off, e, h2⟩ := h.wd i z hz
    exact ⟨b', off, e, key h2⟩
theorem two_end {W X : World} {B g5 g6 k1 k2 : Nat} {v0 v1 v2 v3 : Value} {x0 x1 y0 y1 : Option Addr} {x y : List (List Int)} {r s : List Int} (h5 : X.heap[g5]? = some (.cells #[.slice none 0 0, .slice none 0 0] 25 (0, 0))) (h6 : X.heap[g6]? = some (.cells #[.slice none 0 0, .slice none 0 0] 25 (0, 0))) (hne : g5 ≠ g6)
    (hd1 : Dm X x0 x1 k1 k1 x r) (hd2 : Dm X y0 y1 k2 k2 y s) (hb : Below B W X) (s5 : B ≤ g5) (s6 : B ≤ g6) :
    ((((X.setCell ⟨g5, 0, none⟩ v0).setCell ⟨g5, 1, none⟩ v1).setCell ⟨g6, 0, none⟩ v2).setCell ⟨g6, 1, none⟩ v3).heap[g5]? = some (.cells #[v0, v1] 25 (0, 0)) ∧ ((((X.setCell ⟨g5, 0, none⟩ v0).setCell ⟨g5, 1, none⟩ v1).setCell ⟨g6, 0, none⟩ v2).setCell ⟨g6, 1, none⟩ v3).heap[g6]? = some (.cells #[v2, v3] 25 (0, 0)) ∧
    Dm ((((X.setCell ⟨g5, 0, none⟩ v0).setCell ⟨g5, 1, none⟩ v1).setCell ⟨g6, 0, none⟩ v2).setCell ⟨g6, 1, none⟩ v3) x0 x1 k1 k1 x r ∧ Dm ((((X.setCell ⟨g5, 0, none⟩ v0).setCell ⟨g5, 1, none⟩ v1).setCell ⟨g6, 0, none⟩ v2).setCell ⟨g6, 1, none⟩ v3) y0 y1 k2 k2 y s ∧
    Below B W ((((X.setCell ⟨g5, 0, none⟩ v0).setCell ⟨g5, 1, none⟩ v1).setCell ⟨g6, 0, none⟩ v2).setCell ⟨g6, 1, none⟩ v3) := by
  obtain ⟨t1, t2⟩ := two_set (v0 := v0) (v1 := v1) (v2 := v2) (v3 := v3) h5 h6 hne
  have a5 := blk_set h5 0 v0
  have b5 := set2 (x := v0) (y := v1) h5
  have b6 : ((X.setCell ⟨g5, 0, none⟩ v0).setCell ⟨g5, 1, none⟩ v1).heap[g6]? = some (.cells #[.slice none 0 0, .slice none 0 0] 25 (0, 0)) := by
    rw [Below.heap_setCell _ _ _ _ (Ne.symm hne), Below.heap_setCell _ _ _ _ (Ne.symm hne)]; exact h6
  have a6 := blk_set b6 0 v2
  have c5 := (d_cells h5).1
  have c51 : (X.setCell ⟨g5, 0, none⟩ v0).cell? ⟨g5, 1, none⟩ = some (.slice none 0 0) := by rw [cell_of_row _ _ _ _ _ _ a5]; rfl
  have c6 := (d_cells b6).1
  have c61 : (((X.setCell ⟨g5, 0, none⟩ v0).setCell ⟨g5, 1, none⟩ v1).setCell ⟨g6, 0, none⟩ v2).cell? ⟨g6, 1, none⟩ = some (.slice none 0 0) := by rw [cell_of_row _ _ _ _ _ _ a6]; rfl
  exact ⟨t1, t2, dm_set (dm_set (dm_set (dm_set hd1 c5 v0) c51 v1) c6 v2) c61 v3, dm_set (dm_set (dm_set (dm_set hd2 c5 v0) c51 v1) c6 v2) c61 v3, (((hb.setCell (p := ⟨g5, 0, none⟩) s5 v0).setCell (p := ⟨g5, 1, none⟩) s5 v1).setCell (p := ⟨g6, 0, none⟩) s6 v2).setCell (p := ⟨g6, 1, none⟩) s6 v3⟩

set_option maxRecDepth 100000 in
set_option maxHeartbeats 1600000 in
theorem msame_no (a0 a1 b0 b1 : Option Addr) (n0 n1 m0 m1 c0 c1 d0 d1 : Nat) (nx nx2 : List (List Int)) (ru ru2 : List Int) (w : World) (hm : Dm w a0 a1 n0 n1 nx ru) (hm2 : Dm w b0 b1 m0 m1 nx2 ru2) (hr : rightD nx ru = false ∨ rightD nx2 ru2 = false) :
    Calls Try.prog 18 #[.agg #[.slice a0 n0 c0, .slice a1 n1 c1], .agg #[.slice b0 m0 d0, .slice b1 m1 d1]] w fun e w' => e = .returned (.bool false) ∧ Below w.heap.size w w' := by
  have hX := four28 w (.slice a0 n0 c0) (.slice a1 n1 c1) (.slice b0 m0 d0) (.slice b1 m1 d1)
  have hb0 := ((Below.refl w.heap.size w).alloc (Nat.le_refl _) (.cells #[.slice a0 n0 c0, .slice a1 n1 c1] 25)).alloc (by simp) (.cells #[.slice b0 m0 d0, .slice b1 m1 d1] 25)
  have HB0 := hide hb0
  have HX := hide hX
  have HL := hide (show w.heap.size + 1 < ((w.alloc (.cells #[.slice a0 n0 c0, .slice a1 n1 c1] 25)).alloc (.cells #[.slice b0 m0 d0, .slice b1 m1 d1] 25)).heap.size by simp)
  have hmA := dm_below' hb0 hm
  have HMB := hide (dm_below' hb0 hm2)
  have HCA := hide (dright_any a0 a1 n0 n1 c0 c1 nx ru _ hmA.l0 hmA.l1 hmA.dr hmA.wd hmA.m0 hmA.m1)
  have HR := hide hr
  obtain ⟨p0, p1, -⟩ := d_cells hX.1
  obtain ⟨p2, p3, -⟩ := d_cells hX.2
  clear hX hb0 hm hm2 hmA hr
  cases hA : rightD nx ru
  · rw [hA] at HCA
    clear hA
    go_enter Try.func18, Try.ntmps18
    go_wp2_with fail
    refine HCA.out.mono ?_
    rintro e w1 ⟨rfl, hb1⟩
    have HB1 := hide (HB0.out.trans (hb1.mono HB0.out.size))
    clear hb1 HCA
    go_wp2
    go_ret
    exact ⟨rfl, HB1.out⟩
  · rw [hA] at HCA
    have hBf : rightD nx2 ru2 = false := by rcases HR.out with h | h; rw [hA] at h; cases h; exact h
    have HBF := hide hBf
    clear hA hBf HR
    go_enter Try.func18, Try.ntmps18
    go_wp2_with fail
    refine HCA.out.mono ?_
    rintro e w1 ⟨rfl, hb1⟩
    have HB1 := hide (HB0.out.trans (hb1.mono HB0.out.size))
    have hmB := dm_below' hb1 HMB.out
    have HCB := hide (dright_any b0 b1 m0 m1 d0 d1 nx2 ru2 w1 hmB.l0 hmB.l1 hmB.dr hmB.wd hmB.m0 hmB.m1)
    rw [HBF.out] at HCB
    clear p2 p3
    obtain ⟨p2, p3, -⟩ := d_cells ((hb1.block _ HL.out).trans HX.out.2)
    clear hb1 HCA hmB
    go_wp2_with fail
    refine HCB.out.mono ?_
    rintro e w2 ⟨rfl, hb2⟩
    have HB2 := hide (HB1.out.trans (hb2.mono HB1.out.size))
    clear hb2 HCB
    go_wp2
    go_ret
    exact ⟨rfl, HB2.out⟩

/-- What Same of two machines that may be tells. -/
def SameYes : Prop := ∀ (a0 a1 b0 b1 : Option Addr) (n m c0 c1 d0 d1 M : Nat) (nx nx2 : List (List Int)) (ru ru2 : List Int) (w : World) (hM : M = 201) (hm : Dm w a0 a1 n n nx ru) (hm2 : Dm w b0 b1 m m nx2 ru2) (hr : rightD nx ru = true) (hr2 : rightD nx2 ru2 = true) (hx : Mx nx ru n) (hx2 : Mx nx2 ru2 m),
    Calls Try.prog 18 #[.agg #[.slice a0 n c0, .slice a1 n c1], .agg #[.slice b0 m d0, .slice b1 m d1]] w fun e w' => ∃ (x x2 : List (List Int)) (r r2 : List Int), SmM nx ru n M x r ∧ SmM nx2 ru2 m M x2 r2 ∧ e = .returned (.bool (decide (x = x2 ∧ r = r2))) ∧ Below w.heap.size w w'
end Go.Proofs.Ythkollnlmnbidaa.A
