/- Contracts: what a trie tells. -/
import Derived.Test.YtooiomfcemceiaaW
import Derived.WalkSpells
namespace Go.Proofs.Ytooiomfcemceiaa.A
open Go.RowKit Go.Maps

theorem seg_own' {w : World} {base n cap : Nat} {x : Option Addr} {l : List Rg} (h : w.ownsRow base 32 3 (.slice x n cap) n (cellsR l)) : SegR w x n l ∧ n ≤ cap ∧ cap ≤ maxLen := by
  obtain ⟨x', cap', e, _, h1, h2, h3⟩ := seg_own h
  cases e
  exact ⟨h3, h1, h2⟩
/-- A trie: how often it was asked, and whether it is built. -/
def Tr (zs : List Rg) (len : Nat) (w : World) (tb : Nat) (n : Int) (bu : Bool) : Prop :=
  (bu = true ∧ ∃ nb vb, Bt (hv zs len) w tb (.int .u32 1) (.int .i32 0) (.int .u32 0) (.int .i64 n) nb vb) ∨
  (bu = false ∧ ∃ x cap, St w tb (.slice x len cap) (.int .u32 0) (.int .i32 0) (.int .u32 0) (.slice none 0 0) (.slice none 0 0) (.int .i64 n) ∧ w.ownsRow 0 32 3 (.slice x len cap) len (cellsR zs))
theorem tr_type {zs : List Rg} {len : Nat} {w : World} {tb : Nat} {n : Int} {bu : Bool} (h : Tr zs len w tb n bu) : ∃ cs, w.heap[tb]? = some (.cells cs 58 (0, 0)) := by
  rcases h with ⟨_, nb, vb, d⟩ | ⟨_, x, cap, d, _⟩
  · exact ⟨_, d.1⟩
  · exact ⟨_, d⟩
theorem own_apart {w : World} {base n size t : Nat} {e : TypeId} {v : Value} {xs : List Value} (h : w.ownsRow base e size v n xs) {cs : Array Value} {ty : TypeId} {fr : Nat × Nat} (ht : w.heap[t]? = some (.cells cs ty fr)) (hne : ty ≠ e) : v.ownBlock = none ∨ v.ownBlock ≠ some t := by
  rcases h.2 with ⟨rfl, _⟩ | ⟨g, cap, cur, rfl, _, hg, _⟩
  · exact .inl rfl
  · refine .inr (fun q => ?_)
    simp [Value.ownBlock] at q
    subst q
    rw [ht] at hg
    simp at hg
    exact hne hg.2.1
theorem tr_grown {zs : List Rg} {len : Nat} {w w' : World} {tb t : Nat} {n : Int} {bu : Bool} (h : Tr zs len w tb n bu) (hg : w.grownBy w' (some t)) (hne : tb ≠ t) (ht : ∃ cs, w.heap[t]? = some (.cells cs 58 (0, 0))) : Tr zs len w' tb n bu := by
  obtain ⟨cs, ht⟩ := ht
  rcases h with ⟨rfl, nb, vb, d⟩ | ⟨rfl, x, cap, d, o⟩
  · exact .inl ⟨rfl, nb, vb, bt_grown d hg hne ht⟩
  · exact .inr ⟨rfl, x, cap, st_grown d hg (by simpa using hne), o.kept hg (own_apart o ht (by decide))⟩
theorem tr_below {zs : List Rg} {len : Nat} {w w' : World} {tb : Nat} {n : Int} {bu : Bool} (h : Tr zs len w tb n bu) (hg : Below w.heap.size w w') : Tr zs len w' tb n bu := by
  rcases h with ⟨rfl, nb, vb, d⟩ | ⟨rfl, x, cap, d, o⟩
  · exact .inl ⟨rfl, nb, vb, st_below d.1 hg, heap_below d.2.1 hg, own_below d.2.2 hg⟩
  · exact .inr ⟨rfl, x, cap, st_below d hg, own_below o hg⟩
theorem tr_asked {zs : List Rg} {len : Nat} {w : World} {tb : Nat} {n : Int} {bu : Bool} (h : Tr zs len w tb n bu) : w.cell? ⟨tb, 6, none⟩ = some (.int .i64 n) ∧ w.frozen? ⟨tb, 6, none⟩ = false := by
  rcases h with ⟨_, nb, vb, d⟩ | ⟨_, x, cap, d, _⟩
  · exact ⟨(st_cells d.1).2.2.2.2.2.2, st_free d.1 6⟩
  · exact ⟨(st_cells d).2.2.2.2.2.2, st_free d 6⟩
theorem tr_add {zs : List Rg} {len : Nat} {w : World} {tb : Nat} {n : Int} {bu : Bool} (h : Tr zs len w tb n bu) (m : Int) : Tr zs len (w.setCell ⟨tb, 6, none⟩ (.int .i64 m)) tb m bu := by
  rcases h with ⟨rfl, nb, vb, d⟩ | ⟨rfl, x, cap, d, o⟩
  · exact .inl ⟨rfl, nb, vb, bt_set d 6 _ rfl⟩
  · exact .inr ⟨rfl, x, cap, st_set d 6 _, own_set o ⟨tb, 6, none⟩ (own_apart o d (by decide)) _⟩

/-- Once is done. -/
theorem do_any (zs : List Rg) (len : Nat) (w : World) (tb : Nat) (n : Int) (bu : Bool) (ht : Tr zs len w tb n bu) (hl : len ≤ 5000) (hr : Rt 255 zs len) :
    Calls Try.prog 22 #[.pointer (some ⟨tb, 1, none⟩), .func (.func 23) #[.pointer (some ⟨tb, 0, none⟩)] #[]] w fun e w' => e = .returned (.tuple #[]) ∧ w.grownBy w' (some tb) ∧ ∃ nb vb, Bt (hv zs len) w' tb (.int .u32 1) (.int .i32 0) (.int .u32 0) (.int .i64 n) nb vb := by
  rcases ht with ⟨_, nb, vb, d⟩ | ⟨_, x, cap, d, o⟩
  · refine (do_done _ _ _ (st_cells d.1).2.1).mono ?_
    rintro e w' ⟨rfl, rfl⟩
    exact ⟨rfl, grown_refl _ _, nb, vb, d⟩
  · obtain ⟨h1, h2, h3⟩ := seg_own' o
    refine (do_first tb x len cap zs _ _ w d hl h2 h1 (fun a e => ?_) hr).mono (fun e w' h => h)
    rcases own_apart o d (by decide) with q | q
    · subst e; simp [Value.ownBlock] at q
    · subst e; simpa [Value.ownBlock] using q

theorem getnil_any (c : Int) (w : World) : Calls Try.prog 10 #[.pointer none, .int .i32 c] w fun e w' => e = .returned (.int .i64 0) ∧ w' = w := by
  go_enter Try.func10, Try.ntmps10
  go_wp2
  go_ret
  exact ⟨rfl, rfl⟩
theorem blocksnil_any (w : World) : Calls Try.prog 11 #[.pointer none] w fun e w' => e = .returned (.int .i64 0) ∧ w' = w := by
  go_enter Try.func11, Try.ntmps11
  go_wp2
  go_ret
  exact ⟨rfl, rfl⟩
theorem askednil_any (w : World) : Calls Try.prog 12 #[.pointer none] w fun e w' => e = .returned (.int .i64 0) ∧ w' = w := by
  go_enter Try.func12, Try.ntmps12
  go_wp2
  go_ret
  exact ⟨rfl, rfl⟩
theorem builtnil_any (w : World) : Calls Try.prog 13 #[.pointer none] w fun e w' => e = .returned (.bool false) ∧ w' = w := by
  go_enter Try.func13, Try.ntmps13
  go_wp2
  go_ret
  exact ⟨rfl, rfl⟩
theorem asked_any (zs : List Rg) (len : Nat) (w : World) (tb : Nat) (n : Int) (bu : Bool) (ht : Tr zs len w tb n bu) : Calls Try.prog 12 #[.pointer (some ⟨tb, 0, none⟩)] w fun e w' => e = .returned (.int .i64 n) ∧ w' = w := by
  obtain ⟨h1, _⟩ := tr_asked ht
  have HT := hide ht
  clear ht
  go_enter Try.func12, Try.ntmps12
  go_wp2_with (go_at_call 24; refine (loadn_any _ n _ h1).mono ?_; rintro e w' ⟨rfl, rfl⟩)
  go_ret
  exact ⟨rfl, rfl⟩
theorem built_any (zs : List Rg) (len : Nat) (w : World) (tb : Nat) (n : Int) (bu : Bool) (ht : Tr zs len w tb n bu) : Calls Try.prog 13 #[.pointer (some ⟨tb, 0, none⟩)] w fun e w' => e = .returned (.bool bu) ∧ w' = w := by
  have q52 : ∀ (w : World) (a : Option Addr) (n c n' c' : Nat), (binOp .neq 52 (.slice a n c) (.slice none n' c')).run Try.prog w = .ok (.bool (!a.isNone)) w := fun w a n c n' c' => run_neq_slice_nil_any w _ _ a n c n' c' Try.underlying52
  rcases ht with ⟨rfl, nb, vb, d⟩ | ⟨rfl, x, cap, d, _⟩
  · have h4 := (st_cells d.1).2.2.2.2.1
    clear d
    go_enter Try.func13, Try.ntmps13
    go_wp2
    go_ret
    exact ⟨rfl, rfl⟩
  · have h4 := (st_cells d).2.2.2.2.1
    clear d
    go_enter Try.func13, Try.ntmps13
    go_wp2
    go_ret
    exact ⟨rfl, rfl⟩
theorem blocks_any (zs : List Rg) (len : Nat) (w : World) (tb : Nat) (n : Int) (bu : Bool) (ht : Tr zs len w tb n bu) (hl : len ≤ 5000) (hr : Rt 255 zs len) :
    Calls Try.prog 11 #[.pointer (some ⟨tb, 0, none⟩)] w fun e w' => e = .returned (.int .i64 ((kept (hv zs len) 8704).length : Nat)) ∧ Tr zs len w' tb n true ∧ w.grownBy w' (some tb) := by
  have hmf : ∀ (fn : Fn) (first cap : Array Value) (w : World), (Instr.makeFunc fn first cap).run Try.prog w = .ok (.func fn first cap) w := fun _ _ _ _ => rfl
  have HT := hide ht
  clear ht
  go_enter Try.func11, Try.ntmps11
  go_wp2_with fail
  refine (do_any zs len _ tb n bu HT.out hl hr).mono ?_
  rintro e w2 ⟨rfl, hg2, nb, vb, hbt⟩
  obtain ⟨xb, cb, rfl⟩ := own_form hbt.2.2
  have h5 := (st_cells hbt.1).2.2.2.2.2.1
  have HB := hide hbt
  clear hbt
  generalize hnk : (kept (hv zs len) 8704).length = nk at *
  have HN := hide hnk
  clear hnk
  go_wp2
  go_ret
  refine ⟨?_, .inl ⟨rfl, nb, _, HB.out⟩, hg2⟩
  rw [HN.out]
  rfl

theorem bt_get {h : Int → Int} {w : World} {tb nb i j : Nat} {o1 o2 o3 a6 : Value} {xb : Option Addr} {nk cb : Nat} (d : Bt h w tb o1 o2 o3 a6 nb (.slice xb nk cb)) (hi : i < 8704) (hj : j < 128) :
    w.cell? ⟨nb, i, none⟩ = some (.int .u16 (numv h i : Nat)) ∧ ∃ g, xb = some ⟨g, 0, none⟩ ∧ numv h i < nk ∧ w.cell? ⟨g, numv h i * 128 + j, none⟩ = some (.int .u8 (h ((i : Int) * 128 + (j : Int)))) := by
  obtain ⟨d1, d2, d3⟩ := d
  obtain ⟨n1, n2⟩ := numv_at (h := h) hi
  have hnk : nk = (kept h 8704).length := by
    rcases d3.2 with ⟨e, hn⟩ | ⟨g, cap, cur, e, _⟩
    · cases e; exact hn.symm
    · cases e; rfl
  refine ⟨by rw [cell_of_row _ _ i _ _ _ d2, rowK_at _ _ hi], ?_⟩
  rcases d3.2 with ⟨e, hn⟩ | ⟨g, cap, cur, e, _, hg, hc, _, hs, ht⟩
  · rw [hn] at n1; omega
  · cases e
    refine ⟨g, rfl, by omega, ?_⟩
    have hat := cellsB_at (kept h 8704) (kept_len128 h 8704) (numv h i) j n1 hj
    have e1 : (bl h i).getD j 0 = h ((i : Int) * 128 + (j : Int)) := by rw [List.getD_eq_getElem?_getD, bl_at _ _ _ hj]; rfl
    rw [← ht, n2, e1] at hat
    rw [cell_of_row _ _ _ _ _ _ hg]
    rw [List.getElem?_take] at hat
    split at hat
    · rw [Array.getElem?_toList] at hat
      exact hat
    · cases hat

set_option maxRecDepth 100000 in
set_option maxHeartbeats 1600000 in
theorem get_any (zs : List Rg) (len : Nat) (w : World) (tb : Nat) (n : Int) (bu : Bool) (c : Int) (ht : Tr zs len w tb n bu) (hl : len ≤ 5000) (hr : Rt 255 zs len) (h0 : 0 ≤ n) (h1 : n < 4611686018427387904) :
    Calls Try.prog 10 #[.pointer (some ⟨tb, 0, none⟩), .int .i32 c] w fun e w' => e = .returned (.int .i64 (hv zs len c)) ∧ Tr zs len w' tb (n + 1) true ∧ w.grownBy w' (some tb) := by
  have hmf : ∀ (fn : Fn) (first cap : Array Value) (w : World), (Instr.makeFunc fn first cap).run Try.prog w = .ok (.func fn first cap) w := fun _ _ _ _ => rfl
  obtain ⟨a1, a2⟩ := tr_asked ht
  have HT := hide (tr_add ht (n + 1))
  have HG := hide (grown_set (grown_refl w (some tb)) ⟨tb, 6, none⟩ (.int .i64 (n + 1)) (.inl rfl))
  clear ht
  go_enter Try.func10, Try.ntmps10
  go_wp2_with fail
  refine (add_any _ n _ a1 a2 h0 h1).mono ?_
  rintro e w1 ⟨rfl, rfl⟩
  go_wp2_with fail
  refine (do_any zs len _ tb (n + 1) bu HT.out hl hr).mono ?_
  rintro e w2 ⟨rfl, hg2, nb, vb, hbt⟩
  have HG2 := hide (grown_more HG.out hg2 (fun k e => .inr (by cases e; rfl)))
  have HTR := hide (show Tr zs len w2 tb (n + 1) true from .inl ⟨rfl, nb, vb, hbt⟩)
  clear HG hg2 HT a1 a2
  by_cases hc : 0 ≤ c ∧ c ≤ 1114111
  · obtain ⟨xb, cb, rfl⟩ := own_form hbt.2.2
    obtain ⟨i, j, hcij, hi, hj⟩ : ∃ i j : Nat, c = (i : Int) * 128 + (j : Int) ∧ i < 8704 ∧ j < 128 := ⟨(c / 128).toNat, (c % 128).toNat, by omega, by omega, by omega⟩
    obtain ⟨g1, g, rfl, g3, g4⟩ := bt_get hbt hi hj
    rw [← hcij] at g4
    have hq : c.tdiv 128 = (i : Int) := by rw [Int.tdiv_eq_ediv_of_nonneg hc.1]; omega
    have hm : c.tmod 128 = (j : Int) := by rw [Int.tmod_eq_emod_of_nonneg hc.1]; omega
    obtain ⟨q0, q1, q2, q3, q4, q5, q6⟩ := st_cells hbt.1
    obtain ⟨hc1, hc2⟩ := hc
    have HC := hide hcij
    clear hbt hcij
    generalize numv (hv zs len) i = m at *
    generalize (kept (hv zs len) 8704).length = nk at *
    obtain ⟨v0, v1⟩ := hv_bd c hr
    generalize hh : hv zs len c = v at *
    have HH := hide hh
    clear hh
    have i1 : (i : Int) < 8704 := by omega
    have i2 : (m : Int) < (nk : Int) := by omega
    have i3 : (j : Int) < 128 := by omega
    go_wp2_with fail
    have i4 : (0 : Int) ≤ (i : Int) := by omega
    have i5 : (0 : Int) ≤ (m : Int) := by omega
    have i6 : (0 : Int) ≤ (j : Int) := by omega
    go_quiet (fail)
    go_wp2
    go_ret
    refine ⟨?_, ?_, ?_⟩
    · rw [HH.out]; rfl
    · exact tr_below HTR.out (below_drewN (Below.refl _ _) _)
    · exact grown_below HG2.out (below_drewN (Below.refl _ _) _)
  · have HV := hide (show hv zs len c = 0 from hv_bad (by unfold validB; simp; omega))
    have hor : c < 0 ∨ 1114111 < c := by omega
    clear hbt hc
    rcases hor with hc | hc
    · go_wp2
      go_ret
      exact ⟨by rw [HV.out]; rfl, HTR.out, HG2.out⟩
    · have hc' : ¬ c < 0 := by omega
      go_wp2
      go_ret
      exact ⟨by rw [HV.out]; rfl, HTR.out, HG2.out⟩
end Go.Proofs.Ytooiomfcemceiaa.A
