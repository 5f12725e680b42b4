/- What the program's walk over an expression comes to. -/
import Derived.WalkKit
import Derived.ProofKit
import Derived.Outline
import Derived.BigQuiet
import Derived.Deep.QuietTactic
import Derived.Below
import Derived.Deep.RegionHeld3
import Derived.Test.YtbbfjjjnifomgaaGreatDoorK1
import Derived.Test.YtbbfjjjnifomgaaGreatDoorK2
import Derived.Test.YtbbfjjjnifomgaaGreatDoorK3
import Derived.Test.YtbbfjjjnifomgaaGreatDoorK5
import Derived.OpenShut
import Derived.Deep.Slices
import Derived.Deep.Strs
import Derived.Deep.OwnRows
import Derived.Deep.WholeRow
import Derived.Deep.Heap
import Derived.Test.YtbbfjjjnifomgaaGreatDoorK4
import Derived.Deep.AppendSrc
namespace Go.Proofs.YtbbfjjjnifomgaaGreatDoor.A

theorem eq_of_le {a b : Nat} (h : ∀ B, a ≤ B ↔ b ≤ B) : a = b := by
  have h1 := (h b).2 (Nat.le_refl _)
  have h2 := (h a).1 (Nat.le_refl _)
  omega
/-- How deep it is, without a bound. -/
def realD : (n : Nat) → Ex n → Nat
  | 0, _ => 0
  | n + 1, t => (ks t).foldl (fun a x => max a (realD n x)) 0 + 1
theorem deep_real : ∀ (n : Nat) (t : Ex n) (m : Nat), full n t → deepE n t m = min (realD n t) (m + 1)
  | 0, _, _, h => h.elim
  | n + 1, t, 0, _ => by show 1 = min ((ks t).foldl _ 0 + 1) 1; omega
  | n + 1, t, m + 1, h => by
    show (ks t).foldl (fun a x => max a (deepE n x m)) 0 + 1 = min ((ks t).foldl (fun a x => max a (realD n x)) 0 + 1) (m + 1 + 1)
    have : (ks t).foldl (fun a x => max a (deepE n x m)) 0 = min ((ks t).foldl (fun a x => max a (realD n x)) 0) (m + 1) := by
      refine eq_of_le fun B => ?_
      rw [fold_max_le (fun x => deepE n x m)]
      have e := fold_max_le (fun x => realD n x) B (ks t) 0
      constructor
      · intro ⟨_, q⟩
        by_cases hB : m + 1 ≤ B
        · omega
        · have : (ks t).foldl (fun a x => max a (realD n x)) 0 ≤ B := e.2 ⟨Nat.zero_le _, fun x hx => by have := q x hx; rw [deep_real n x m (h x hx)] at this; omega⟩
          omega
      · intro q
        refine ⟨Nat.zero_le _, fun x hx => ?_⟩
        rw [deep_real n x m (h x hx)]
        by_cases hB : m + 1 ≤ B
        · omega
        · have := (e.1 (by omega)).2 x hx
          omega
    omega

/-- What the walk over one expression comes to. -/
def Comes (n : Nat) (t : Ex n) : Prop := ∀ d N D : Nat, N ≤ 100 →
  ((N + realN n t ≤ 100 ∧ d + realD n t ≤ 13 ∧ shapesE n t = true) → walkE n t d (N, D) = (true, N + realN n t, max D (d + realD n t - 1))) ∧
  (¬ (N + realN n t ≤ 100 ∧ d + realD n t ≤ 13 ∧ shapesE n t = true) → (walkE n t d (N, D)).1 = false)
theorem fold_comes {n : Nat} (d : Nat) : ∀ (l : List (Ex n)) (_ : ∀ x ∈ l, Comes n x) (N D : Nat), N ≤ 100 →
    ((N + (l.map (fun x => realN n x)).sum ≤ 100 ∧ ∀ x ∈ l, d + realD n x ≤ 13 ∧ shapesE n x = true) → l.foldl (fun r x => if r.1 then walkE n x d r.2 else r) (true, N, D) = (true, N + (l.map (fun x => realN n x)).sum, l.foldl (fun a x => max a (d + realD n x - 1)) D)) ∧
    (¬ (N + (l.map (fun x => realN n x)).sum ≤ 100 ∧ ∀ x ∈ l, d + realD n x ≤ 13 ∧ shapesE n x = true) → (l.foldl (fun r x => if r.1 then walkE n x d r.2 else r) (true, N, D)).1 = false)
  | [], _, N, D, hN => ⟨fun _ => by simp, fun h => (h ⟨by simpa using hN, fun x hx => by simp at hx⟩).elim⟩
  | x :: l, hl, N, D, hN => by
    have hx := hl x (by simp) d N D hN
    simp only [List.map_cons, List.sum_cons, List.foldl_cons, List.mem_cons, forall_eq_or_imp, if_true]
    by_cases q : N + realN n x ≤ 100 ∧ d + realD n x ≤ 13 ∧ shapesE n x = true
    · rw [hx.1 q]
      have ih := fold_comes d l (fun y hy => hl y (by simp [hy])) (N + realN n x) (max D (d + realD n x - 1)) q.1
      constructor
      · intro h
        rw [ih.1 ⟨by omega, h.2.2⟩, Nat.add_assoc]
      · intro h
        exact ih.2 (fun k => h ⟨by omega, ⟨q.2.1, q.2.2⟩, k.2⟩)
    · have hf := hx.2 q
      constructor
      · intro h
        exact (q ⟨by omega, h.2.1.1, h.2.1.2⟩).elim
      · intro _
        rw [fold_no (fun x s => walkE n x d s) l _ hf]
        exact hf
theorem comes : ∀ (n : Nat) (t : Ex n), full n t → Comes n t
  | 0, _, h => h.elim
  | n + 1, t, h => fun d N D hN => by
    have hsum : realN (n + 1) t = 1 + ((ks t).map (fun x => realN n x)).sum := rfl
    have hdep : realD (n + 1) t = (ks t).foldl (fun a x => max a (realD n x)) 0 + 1 := rfl
    have hsh : shapesE (n + 1) t = (okE (kd t) (st t) (ks t).length && (ks t).all (fun x => shapesE n x)) := rfl
    have hw : walkE (n + 1) t d (N, D) = if takeB (kd t) (st t) (ks t).length d N = true then (ks t).foldl (fun r x => if r.1 then walkE n x (d + 1) r.2 else r) (true, N + 1, max D d) else (false, N + 1, max D d) := rfl
    have F := fun B => fold_max_le (fun x => realD n x) B (ks t) 0
    have htk : takeB (kd t) (st t) (ks t).length d N = true ↔ N + 1 ≤ 100 ∧ d ≤ 12 ∧ okE (kd t) (st t) (ks t).length = true := by
      unfold takeB; simp only [Bool.and_eq_true, decide_eq_true_eq]
    have hcond : (N + realN (n + 1) t ≤ 100 ∧ d + realD (n + 1) t ≤ 13 ∧ shapesE (n + 1) t = true) ↔ takeB (kd t) (st t) (ks t).length d N = true ∧ (N + 1 + ((ks t).map (fun x => realN n x)).sum ≤ 100 ∧ ∀ x ∈ ks t, d + 1 + realD n x ≤ 13 ∧ shapesE n x = true) := by
      rw [htk, hsum, hdep, hsh, Bool.and_eq_true, List.all_eq_true]
      constructor
      · rintro ⟨a, b, c, e⟩
        have := (F (12 - d)).1 (by omega)
        exact ⟨⟨by omega, by omega, c⟩, by omega, fun x hx => ⟨by have := this.2 x hx; omega, e x hx⟩⟩
      · rintro ⟨⟨a, b, c⟩, e, f⟩
        have := (F (12 - d)).2 ⟨Nat.zero_le _, fun x hx => by have := (f x hx).1; omega⟩
        exact ⟨by omega, by omega, c, fun x hx => (f x hx).2⟩
    by_cases tk : takeB (kd t) (st t) (ks t).length d N = true
    · have hN1 := (htk.1 tk).1
      have ih := fold_comes (d + 1) (ks t) (fun x hx => comes n x (h x hx)) (N + 1) (max D d) hN1
      rw [hw, if_pos tk]
      constructor
      · intro q
        rw [ih.1 (hcond.1 q).2, hsum]
        have e : (ks t).foldl (fun a x => max a (d + 1 + realD n x - 1)) (max D d) = max D (d + realD (n + 1) t - 1) := by
          refine eq_of_le fun B => ?_
          rw [fold_max_le (fun x => d + 1 + realD n x - 1), hdep]
          constructor
          · rintro ⟨a, b⟩
            have := (F (B - d)).2 ⟨Nat.zero_le _, fun x hx => by have := b x hx; omega⟩
            omega
          · intro a
            have := (F (B - d)).1 (by omega)
            exact ⟨by omega, fun x hx => by have := this.2 x hx; omega⟩
        rw [e, Nat.add_assoc]
      · intro q
        exact ih.2 (fun k => q (hcond.2 ⟨tk, k⟩))
    · rw [hw, if_neg tk]
      exact ⟨fun q => (tk (hcond.1 q).1).elim, fun _ => rfl⟩
/-- How many nodes, and how deep, if it is right. -/
def nodesR (n : Nat) (t : Ex n) : Nat := if rightE n t = true then nodesE n t else 0
def deepR (n : Nat) (t : Ex n) : Nat := if rightE n t = true then deepE n t 12 else 0
theorem right_iff {n : Nat} {t : Ex n} (h : full n t) : rightE n t = true ↔ 0 + realN n t ≤ 100 ∧ 1 + realD n t ≤ 13 ∧ shapesE n t = true := by
  unfold rightE
  have e1 := deep_real n t 12 h
  have e2 := nodes_real n t
  simp only [Bool.and_eq_true, decide_eq_true_eq]
  constructor
  · rintro ⟨a, b, c⟩
    refine ⟨?_, by omega, c⟩
    by_cases q : realN n t ≤ 100
    · omega
    · have := e2.2 (by omega); omega
  · rintro ⟨a, b, c⟩
    exact ⟨by omega, by have := e2.1 (by omega); omega, c⟩
theorem walk_right {n : Nat} {t : Ex n} (h : full n t) : (walkE n t 1 (0, 0)).1 = rightE n t ∧ (rightE n t = true → (walkE n t 1 (0, 0)).2.1 = nodesE n t ∧ (walkE n t 1 (0, 0)).2.2 = deepE n t 12) := by
  have c := comes n t h 1 0 0 (by omega)
  cases hr : rightE n t with
  | true =>
    have q := (right_iff h).1 hr
    rw [c.1 q]
    have e1 := deep_real n t 12 h
    have e2 := (nodes_real n t).1 (by omega)
    exact ⟨rfl, fun _ => ⟨by show 0 + realN n t = _; omega, by show max 0 (1 + realD n t - 1) = _; omega⟩⟩
  | false =>
    exact ⟨c.2 (fun q => by rw [(right_iff h).2 q] at hr; cases hr), fun q => by cases q⟩
end Go.Proofs.YtbbfjjjnifomgaaGreatDoor.A



/- The program's measure, Right. -/
namespace Go.Proofs.YtbbfjjjnifomgaaGreatDoor.A
open Go.RowKit

set_option maxRecDepth 100000 in
set_option maxHeartbeats 1600000 in
theorem measure_any (n : Nat) (t : Ex n) (v : Value) (w : World) (h : Rx w n t v) :
    Calls Tryz.prog 85 #[v] w fun e w' => e = .returned (.tuple #[.int .i64 (nodesR n t : Nat), .int .i64 (deepR n t : Nat), .bool (rightE n t)]) ∧ Below w.heap.size w w' := by
  obtain ⟨c0, c1, c2, rfl⟩ := rx_form h
  obtain ⟨kx, sx, ax, lx, cx, rfl, rfl, rfl⟩ := rx_cells h
  have hmf : ∀ (fn : Fn) (first cap : Array Value) (w : World), (Instr.makeFunc fn first cap).run Tryz.prog w = .ok (.func fn first cap) w := fun _ _ _ _ => rfl
  have HW := hide (walk_right (rx_full n t _ h))
  have HX := hide h
  clear h
  have HN := hide (show nodesR n t = if rightE n t = true then nodesE n t else 0 from rfl)
  have HD := hide (show deepR n t = if rightE n t = true then deepE n t 12 else 0 from rfl)
  have HB0 := hide ((((Below.refl w.heap.size w).alloc (Nat.le_refl _) (.cells #[.int .u8 kx, .int .u16 sx, .slice ax lx cx] 55)).alloc (by simp) (.cells #[.int .i64 0] 3)).alloc (by simp; omega) (.cells #[.int .i64 0] 3))
  have HC1 := hide (show Cn (((w.alloc (.cells #[.int .u8 kx, .int .u16 sx, .slice ax lx cx] 55)).alloc (.cells #[.int .i64 0] 3)).alloc (.cells #[.int .i64 0] 3)) (w.heap.size + 1) 0 from by
    have e := heap_alloc_last (w.alloc (.cells #[.int .u8 kx, .int .u16 sx, .slice ax lx cx] 55)) (.cells #[.int .i64 0] 3)
    rw [show (w.alloc (.cells #[.int .u8 kx, .int .u16 sx, .slice ax lx cx] 55)).heap.size = w.heap.size + 1 by simp] at e
    exact cn_alloc (x := 0) e _)
  have HC2 := hide (show Cn (((w.alloc (.cells #[.int .u8 kx, .int .u16 sx, .slice ax lx cx] 55)).alloc (.cells #[.int .i64 0] 3)).alloc (.cells #[.int .i64 0] 3)) (w.heap.size + 2) 0 from by
    have e := heap_alloc_last ((w.alloc (.cells #[.int .u8 kx, .int .u16 sx, .slice ax lx cx] 55)).alloc (.cells #[.int .i64 0] 3)) (.cells #[.int .i64 0] 3)
    rw [show ((w.alloc (.cells #[.int .u8 kx, .int .u16 sx, .slice ax lx cx] 55)).alloc (.cells #[.int .i64 0] 3)).heap.size = w.heap.size + 2 by simp] at e
    exact e)
  go_enter Tryz.func85, Tryz.ntmps85
  go_wp2_with fail
  refine (walk_any w (w.heap.size + 1) (w.heap.size + 2) (by omega) (by omega) (by omega) n t _ 1 0 0 _ (by omega) (by omega) (by omega) HX.out ⟨HB0.out, HC1.out, HC2.out⟩).mono ?_
  rintro e w1 ⟨rfl, hb1, hc1, hc2⟩
  have HB1 := hide hb1
  obtain ⟨d1, _⟩ := cn_cell hc1
  obtain ⟨d2, _⟩ := cn_cell hc2
  clear hb1 hc1 hc2 HB0 HC1 HC2
  rw [HW.out.1]
  have HW2 := hide HW.out.2
  clear HW
  cases hr : rightE n t with
  | false =>
    rw [hr] at HN HD
    have HR := hide hr
    clear hr
    go_wp2
    go_ret3
    exact ⟨by rw [HN.out, HD.out, HR.out]; rfl, HB1.out⟩
  | true =>
    rw [hr] at HN HD
    obtain ⟨e1, e2⟩ := HW2.out hr
    rw [e1] at d1
    rw [e2] at d2
    have HR := hide hr
    clear hr e1 e2 HW2
    go_wp2
    go_quiet (fail)
    go_wp2
    go_ret3
    exact ⟨by rw [HN.out, HD.out, HR.out]; rfl, below_drewN HB1.out _⟩
set_option maxHeartbeats 800000 in
theorem right_any (n : Nat) (t : Ex n) (v : Value) (w : World) (h : Rx w n t v) :
    Calls Tryz.prog 68 #[v] w fun e w' => e = .returned (.bool (rightE n t)) ∧ Below w.heap.size w w' := by
  obtain ⟨c0, c1, c2, rfl⟩ := rx_form h
  have HX := hide h
  have HB0 := hide ((Below.refl w.heap.size w).alloc (Nat.le_refl _) (.cells #[c0, c1, c2] 55))
  clear h
  go_enter Tryz.func68, Tryz.ntmps68
  go_wp2_with fail
  refine (measure_any n t _ _ (rx_below HB0.out n t _ HX.out)).mono ?_
  rintro e w1 ⟨rfl, hb1⟩
  have HB1 := hide (HB0.out.trans (hb1.mono HB0.out.size))
  clear hb1
  go_wp2
  go_ret
  exact ⟨rfl, HB1.out⟩
end Go.Proofs.YtbbfjjjnifomgaaGreatDoor.A



/- Ahead of layer 6: the document's tables of states. -/
namespace Go.Proofs.YtbbfjjjnifomgaaGreatDoor.A
open Go.RowKit

theorem mk_new1 (w : World) (N : Nat) : Mk (w.alloc (.cells (rowB N fun _ => false) 4)) w.heap.size N (fun _ => false) := heap_alloc_last w _
/-- Which states are among the first k that are told. -/
def tblB (zs : List Int) (k j : Nat) : Bool := (zs.take k).any fun z => z == (j : Int)
theorem tblB_step {zs : List Int} {k : Nat} {z : Int} (h : zs[k]? = some z) (j : Nat) : tblB zs (k + 1) j = (tblB zs k j || z == (j : Int)) := by
  unfold tblB; rw [take_at h, List.any_append]; simp
end Go.Proofs.YtbbfjjjnifomgaaGreatDoor.A



/- Ahead of layer 6: the document's List: the states of a table. -/
namespace Go.Proofs.YtbbfjjjnifomgaaGreatDoor.A
open Go.RowKit

/-- The states among the first k of a table. -/
def lstL (g : Nat → Bool) (k : Nat) : List Int := ((List.range k).filter g).map fun (j : Nat) => (j : Int)
theorem lstL_yes {g : Nat → Bool} {k : Nat} (h : g k = true) : lstL g (k + 1) = lstL g k ++ [(k : Int)] := by simp [lstL, List.range_succ, h]
theorem lstL_no {g : Nat → Bool} {k : Nat} (h : g k = false) : lstL g (k + 1) = lstL g k := by simp [lstL, List.range_succ, h]
theorem lstL_le (g : Nat → Bool) (k : Nat) : (lstL g k).length ≤ k := by
  unfold lstL; rw [List.length_map]; exact Nat.le_trans (List.length_filter_le _ _) (by simp)
theorem info3 : (Tryz.prog.info? 3).map (fun i => (i.zero, i.size, i.bytes)) = some (some (.int .i64 0), 1, 8) := by kernel_rfl
theorem one_new (w : World) (v : Value) (t : TypeId) : ∀ j u, [v][j]? = some u → (w.alloc (.cells #[v] t)).cell? ((⟨w.heap.size, 0, none⟩ : Addr).add j) = some u := by
  intro j u hj
  match j with
  | 0 =>
    have e : v = u := by simpa using hj
    subst e
    simp [Addr.add]
  | j + 1 => simp at hj

end Go.Proofs.YtbbfjjjnifomgaaGreatDoor.A


