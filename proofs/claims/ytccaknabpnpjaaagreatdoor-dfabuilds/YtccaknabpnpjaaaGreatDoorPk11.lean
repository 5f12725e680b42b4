/- The program's closed and stepped. -/
import Derived.Test.YtccaknabpnpjaaaGreatDoorPk6
import Derived.Test.YtccaknabpnpjaaaGreatDoorPk10
import Derived.Test.YtccaknabpnpjaaaGreatDoorPk4
namespace Go.Proofs.YtccaknabpnpjaaaGreatDoor.A
open Go.RowKit

theorem tbl_iff (zs : List Int) (k j : Nat) : tblB zs k j = true ↔ ∃ p, p < k ∧ zs[p]? = some (j : Int) := by
  unfold tblB
  rw [List.any_eq_true]
  constructor
  · rintro ⟨z, hz, e⟩
    have e' : z = (j : Int) := by simpa using e
    obtain ⟨p, hp, h⟩ := List.getElem_of_mem hz
    have hp' : p < k ∧ p < zs.length := by rw [List.length_take] at hp; omega
    refine ⟨p, hp'.1, ?_⟩
    rw [List.getElem?_eq_getElem hp'.2, ← e', ← h, List.getElem_take]
  · rintro ⟨p, hp, h⟩
    refine ⟨(j : Int), ?_, by simp⟩
    have : (zs.take k)[p]? = some (j : Int) := by rw [List.getElem?_take_of_lt hp]; exact h
    exact List.mem_of_getElem? this
theorem tbl_mem (zs : List Int) (j : Nat) : tblB zs zs.length j = true ↔ (j : Int) ∈ zs := by
  rw [tbl_iff]
  constructor
  · rintro ⟨p, _, h⟩; exact List.mem_of_getElem? h
  · intro h
    obtain ⟨p, hp, e⟩ := List.getElem_of_mem h
    exact ⟨p, hp, by rw [List.getElem?_eq_getElem hp, e]⟩
theorem mk_old {w : World} {F n : Nat} {g : Nat → Bool} (d : Mk w F n g) (o : Obj) : Mk (w.alloc o) F n g := by
  unfold Mk; rw [Below.heap_alloc _ _ _ (mk_lt d)]; exact d

theorem cell_last (w : World) (u : Value) (t : TypeId) : (w.alloc (.cells #[u] t)).cell? ⟨w.heap.size, 0, none⟩ = some u := by simp
theorem lay4 (w : World) (x0 x1 x2 x3 u f : Value) (N : Nat) : ∃ W, W = ((((w.alloc (.cells #[x0, x1, x2, x3] 55)).alloc (.cells (rowB N fun _ => false) 4)).alloc (.cells #[u] 68)).alloc (.cells #[f] 121)) ∧
    Bx W w.heap.size x0 x1 x2 x3 ∧ Mk W (w.heap.size + 1) N (fun _ => false) ∧ W.cell? ⟨w.heap.size + 1 + 1, 0, none⟩ = some u ∧ W.cell? ⟨w.heap.size + 1 + 1 + 1, 0, none⟩ = some f ∧ Below w.heap.size w W := by
  refine ⟨_, rfl, ?_, ?_, ?_, ?_, ?_⟩
  · have hb : Below (w.heap.size + 1) (w.alloc (.cells #[x0, x1, x2, x3] 55)) ((((w.alloc (.cells #[x0, x1, x2, x3] 55)).alloc (.cells (rowB N fun _ => false) 4)).alloc (.cells #[u] 68)).alloc (.cells #[f] 121)) := (((Below.refl _ _).alloc (by simp) _).alloc (by simp) _).alloc (by simp) _
    exact bx_below hb (Nat.lt_succ_self _) (bx_new w x0 x1 x2 x3)
  · exact mk_old (mk_old (mk_new _ _ _) _) _
  · have h := cell_last ((w.alloc (.cells #[x0, x1, x2, x3] 55)).alloc (.cells (rowB N fun _ => false) 4)) u 68
    have e : ((w.alloc (.cells #[x0, x1, x2, x3] 55)).alloc (.cells (rowB N fun _ => false) 4)).heap.size = w.heap.size + 1 + 1 := by simp
    rw [e] at h
    rw [← h]
    exact ((Below.refl (w.heap.size + 1 + 1 + 1) (((w.alloc (.cells #[x0, x1, x2, x3] 55)).alloc (.cells (rowB N fun _ => false) 4)).alloc (.cells #[u] 68))).alloc (by simp) (.cells #[f] 121)).cell (p := ⟨w.heap.size + 1 + 1, 0, none⟩) (Nat.lt_succ_self _)
  · have h := cell_last (((w.alloc (.cells #[x0, x1, x2, x3] 55)).alloc (.cells (rowB N fun _ => false) 4)).alloc (.cells #[u] 68)) f 121
    have e : (((w.alloc (.cells #[x0, x1, x2, x3] 55)).alloc (.cells (rowB N fun _ => false) 4)).alloc (.cells #[u] 68)).heap.size = w.heap.size + 1 + 1 + 1 := by simp
    rw [e] at h
    exact h
  · exact ((((Below.refl _ _).alloc (Nat.le_refl _) _).alloc (by simp) _).alloc (by simp; omega) _).alloc (by simp; omega) _
theorem own_low {w : World} {base base' : Nat} {e : TypeId} {size : Nat} {v : Value} {n : Nat} {xs : List Value} (h : w.ownsRow base e size v n xs) (hb : base' ≤ base) : w.ownsRow base' e size v n xs := by
  obtain ⟨h1, h2 | ⟨g, cap, cur, hv, hg, r⟩⟩ := h
  · exact ⟨h1, .inl h2⟩
  · exact ⟨h1, .inr ⟨g, cap, cur, hv, Nat.le_trans hb hg, r⟩⟩

set_option maxRecDepth 100000 in
set_option maxHeartbeats 3200000 in
theorem closed_any (a0 : Option Addr) (N c0 : Nat) (x1 x2 x3 : Value) (a : Option Addr) (len cap : Nat) (fs : List (List Int)) (zs : List Int) (w : World) (hN : N ≤ 10000) (hf : fs.length = N) (hll : ∀ (i : Nat) (l : List Int), fs[i]? = some l → l.length ≤ maxLen)
    (hFs : Fs w a0 fs) (hok : ∀ (i : Nat) (l : List Int), fs[i]? = some l → ∀ z ∈ l, 0 ≤ z ∧ z < (N : Int)) (hz : zs.length = len) (hl : len ≤ maxLen) (hW : Wd w a zs) :
    Calls Tryz.prog 46 #[.agg #[.slice a0 N c0, x1, x2, x3], .slice a len cap] w fun e w' =>
      ∃ g v, IsCl fs N (tblB zs len) g ∧ e = .returned v ∧ w'.ownsRow w.heap.size 3 1 v (lstL g N).length ((lstL g N).map (Value.int .i64)) ∧ Below w.heap.size w w' := by
  have hmk : ∀ w, (Instr.makeSlice 68 (.int .i64 (N : Int)) (.int .i64 (N : Int))).run Tryz.prog w = .ok (.slice (some ⟨w.heap.size, 0, none⟩) N N) (w.alloc (.cells (rowB N fun _ => false) 4)) := make39 N hN
  have hmf : ∀ (fn : Fn) (first cap : Array Value) (w : World), (Instr.makeFunc fn first cap).run Tryz.prog w = .ok (.func fn first cap) w := fun _ _ _ _ => rfl
  have hstf : ∀ (a : Addr) (fn : Fn) (first cap : Array Value) (m : Mode) (w : World), Sem.run Tryz.prog (store a (.func fn first cap) m) w = stored Tryz.prog w a (.func fn first cap) m := fun a fn first cap m w => run_store Tryz.prog w a _ m rfl
  have HFS := hide hFs
  have HFL := hide hf
  have HLL := hide hll
  have HOK := hide hok
  have HZ := hide hz
  have HL := hide hl
  have HW := hide hW
  clear hFs hf hll hok hz hl hW
  obtain ⟨p0, p1, p2, p3⟩ := bx_new w (.slice a0 N c0) x1 x2 x3
  go_enter Tryz.func46, Tryz.ntmps46
  go_wp2_with fail
  clear p0 p1 p2 p3 hmk hmf hstf
  obtain ⟨W, eW, hbx, hmk, hcu, hcf, hbel⟩ := lay4 w (.slice a0 N c0) x1 x2 x3 (.slice (some ⟨w.heap.size + 1, 0, none⟩) N N) (.func (.func 67) #[] #[.pointer (some ⟨w.heap.size, 0, none⟩), .pointer (some ⟨w.heap.size + 1 + 1, 0, none⟩), .pointer (some ⟨w.heap.size + 1 + 1 + 1, 0, none⟩)]) N
  rw [← eW]
  clear eW
  refine (follow_any w (w.heap.size + 1) w.heap.size (w.heap.size + 1 + 1) (w.heap.size + 1 + 1 + 1) (by omega) (by omega) (by omega) (by omega) a0 N c0 x1 x2 x3 fs (Rch fs N (tblB zs len)) (fun i j l h hl hj => .on h hl hj) HFL.out HLL.out HFS.out HOK.out _ (fun _ => false) zs a len cap W (Nat.le_refl _) HZ.out HL.out HW.out hbel hbx hcu hcf hmk
    (fun z hz hN => .here hN (by rw [← HZ.out]; exact (tbl_mem zs z).2 hz)) (fun j _ e => by cases e)).mono ?_
  rintro e w1 ⟨rfl, hk1, g, hm1, hf1, hh1, hr1⟩
  have HIS := hide (show IsCl fs N (tblB zs len) g from closed_is (fun j hj e => by
      obtain ⟨pp, hpp, hh⟩ := (tbl_iff zs len j).1 e
      exact hh1 pp hpp j hh hj) hr1 (fun i hi => hf1.2 i hi rfl) HOK.out)
  have hq1 := (hk1.cell (p := ⟨w.heap.size + 1 + 1, 0, none⟩) (cell_lt hcu) (by simp)).trans hcu
  have HB1 := hide (hk1.below hbel hbel.size (by omega))
  have HM1 := hide hm1
  clear hbx hmk hcu hcf hf1 hh1 hr1 hk1 hm1 hbel
  go_wp2_with fail
  refine (rising_any (w.heap.size + 1) N g w1 hN HM1.out).mono ?_
  rintro e w2 ⟨v, rfl, ho, hb2⟩
  have HO := hide (own_low ho HB1.out.size)
  have HB2 := hide (HB1.out.trans (hb2.mono HB1.out.size))
  clear ho hb2 hq1
  go_wp2
  go_ret
  exact ⟨g, v, HIS.out, rfl, HO.out, HB2.out⟩

theorem stp_no {ss : List Nat} {ts : List Int} {c : Int} {zs : List Int} {k N : Nat} {z : Int} (hz : zs[k]? = some z) (h : ∀ i s : Nat, z = i → i < N → ss[i]? = some s → inS s c = false) (j : Nat) : stpB ss ts c (tblB zs k) N j = stpB ss ts c (tblB zs (k + 1)) N j := by
  rw [Bool.eq_iff_iff, stpB_iff, stpB_iff]
  constructor
  · rintro ⟨i, s, hi, ho, hS, hc⟩
    exact ⟨i, s, hi, by rw [tblB_step hz, ho]; rfl, hS, hc⟩
  · rintro ⟨i, s, hi, ho, hS, hc⟩
    rw [tblB_step hz, Bool.or_eq_true] at ho
    rcases ho with ho | ho
    · exact ⟨i, s, hi, ho, hS, hc⟩
    · have e : z = (i : Int) := by simpa using ho
      rw [h i s e hi hS.1] at hc; cases hc
theorem stp_yes {ss : List Nat} {ts : List Int} {c : Int} {zs : List Int} {k N y s t : Nat} (hz : zs[k]? = some (y : Int)) (hy : y < N) (hs : ss[y]? = some s) (ht : ts[y]? = some (t : Int)) (hc : inS s c = true) (j : Nat) : (if j = t then true else stpB ss ts c (tblB zs k) N j) = stpB ss ts c (tblB zs (k + 1)) N j := by
  rw [Bool.eq_iff_iff, stpB_iff]
  constructor
  · intro h
    by_cases e : j = t
    · subst e
      exact ⟨y, s, hy, by rw [tblB_step hz]; simp, ⟨hs, ht⟩, hc⟩
    · rw [if_neg e, stpB_iff] at h
      obtain ⟨i, s', hi, ho, hS, hc'⟩ := h
      exact ⟨i, s', hi, by rw [tblB_step hz, ho]; rfl, hS, hc'⟩
  · rintro ⟨i, s', hi, ho, hS, hc'⟩
    rw [tblB_step hz, Bool.or_eq_true] at ho
    rcases ho with ho | ho
    · by_cases e : j = t
      · rw [if_pos e]
      · rw [if_neg e, stpB_iff]; exact ⟨i, s', hi, ho, hS, hc'⟩
    · have e : y = i := by have : (y : Int) = (i : Int) := by simpa using ho
                           omega
      subst e
      have e2 : t = j := by have h1 := hS.2; rw [ht] at h1; have := Option.some.inj h1; omega
      rw [if_pos e2.symm]
theorem stp_none {ss : List Nat} {ts : List Int} {c : Int} (o : Nat → Bool) (N : Nat) (h : ¬ (0 ≤ c ∧ c < 16)) : lstL (stpB ss ts c o N) N = [] := by
  have h0 : ∀ j, stpB ss ts c o N j = false := fun j => by
    rw [Bool.eq_false_iff]
    intro e
    obtain ⟨i, s, _, _, _, hc⟩ := (stpB_iff _ _ _ _ _ _).1 e
    rw [inS_out h] at hc; cases hc
  unfold lstL
  rw [show (List.range N).filter (stpB ss ts c o N) = [] from List.filter_eq_nil_iff.2 (fun a _ => by rw [h0 a]; simp)]
  rfl

set_option maxRecDepth 100000 in
set_option maxHeartbeats 3200000 in
theorem stepped_any (a0 a1 a2 : Option Addr) (N c0 c1 c2 : Nat) (x3 : Value) (a : Option Addr) (len cap : Nat) (ss : List Nat) (ts zs : List Int) (c : Int) (w : World) (hN : N ≤ 10000) (hs : ss.length = N) (ht : ts.length = N)
    (hS : Sts w a1 ss) (hT : Wd w a2 ts) (hok : ∀ (i s : Nat) (t : Int), ss[i]? = some s → ts[i]? = some t → 0 < s → 0 ≤ t ∧ t < N) (hz : zs.length = len) (hl : len ≤ maxLen) (hW : Wd w a zs) :
    Calls Tryz.prog 69 #[.agg #[.slice a0 N c0, .slice a1 N c1, .slice a2 N c2, x3], .slice a len cap, .int .i64 c] w fun e w' =>
      ∃ v, e = .returned v ∧ w'.ownsRow w.heap.size 3 1 v (lstL (stpB ss ts c (tblB zs len) N) N).length ((lstL (stpB ss ts c (tblB zs len) N) N).map (Value.int .i64)) ∧ Below w.heap.size w w' := by
  have hmk : ∀ w, (Instr.makeSlice 68 (.int .i64 (N : Int)) (.int .i64 (N : Int))).run Tryz.prog w = .ok (.slice (some ⟨w.heap.size, 0, none⟩) N N) (w.alloc (.cells (rowB N fun _ => false) 4)) := make39 N hN
  unfold maxLen at hl
  have HS := hide hS
  have HT := hide hT
  have HSL := hide hs
  have HTL := hide ht
  have HOK := hide hok
  have HZ := hide hz
  have HW := hide hW
  clear hS hT hs ht hok hz hW
  have HBX := hide (bx_new w (.slice a0 N c0) (.slice a1 N c1) (.slice a2 N c2) x3)
  have HB0 := hide ((Below.refl w.heap.size w).alloc (Nat.le_refl _) (.cells #[.slice a0 N c0, .slice a1 N c1, .slice a2 N c2, x3] 55))
  obtain ⟨p0, p1, p2, p3⟩ := HBX.out
  by_cases cc : ¬ (0 ≤ c ∧ c < 16)
  · have HE := hide (stp_none (ss := ss) (ts := ts) (tblB zs len) N cc)
    by_cases c0' : c < 0
    · have y0 : decide (c < 0) = true := by simp [c0']
      go_enter Tryz.func69, Tryz.ntmps69
      go_wp2
      go_ret
      exact ⟨_, rfl, by rw [HE.out]; exact World.ownsRow_nil _ _ _ _, HB0.out⟩
    · have y0 : decide (c < 0) = false := by simp; omega
      have y1 : decide (16 ≤ c) = true := by simp; omega
      go_enter Tryz.func69, Tryz.ntmps69
      go_wp2
      go_ret
      exact ⟨_, rfl, by rw [HE.out]; exact World.ownsRow_nil _ _ _ _, HB0.out⟩
  have hc0 : 0 ≤ c := by omega
  have hc1 : c < 16 := by omega
  have y0 : decide (c < 0) = false := by simp; omega
  have y1 : decide (16 ≤ c) = false := by simp; omega
  clear cc
  go_enter Tryz.func69, Tryz.ntmps69
  go_wp2_with fail
  have hm0 : Mk ((w.alloc (.cells #[.slice a0 N c0, .slice a1 N c1, .slice a2 N c2, x3] 55)).alloc (.cells (rowB N fun _ => false) 4)) (w.heap.size + 1) N (stpB ss ts c (tblB zs 0) N) := mk_congr (g := fun _ => false) (mk_new _ _ _) (fun j _ => by
    rw [eq_comm, Bool.eq_false_iff]; intro e; obtain ⟨i, s, _, ho, _, _⟩ := (stpB_iff _ _ _ _ _ _).1 e; simp [tblB] at ho)
  have hb0 := HB0.out.alloc (by simp) (.cells (rowB N fun _ => false) 4)
  have HX0 := hide (bx_below ((Below.refl (w.heap.size + 1) (w.alloc (.cells #[.slice a0 N c0, .slice a1 N c1, .slice a2 N c2, x3] 55))).alloc (by simp) (.cells (rowB N fun _ => false) 4)) (Nat.lt_succ_self _) HBX.out)
  clear hmk p0 p1 p2 p3 HB0 HBX
  generalize (w.alloc (.cells #[.slice a0 N c0, .slice a1 N c1, .slice a2 N c2, x3] 55)).alloc (.cells (rowB N fun _ => false) 4) = W0 at *
  generalize hB : w.heap.size = B at *
  go_loopw [9, 22] (fun _ i wr => ∃ k : Nat, k ≤ len ∧ i = .int .i64 k ∧ Mk wr (B + 1) N (stpB ss ts c (tblB zs k) N) ∧ Kp (B + 1) W0 wr) (fun _ i _ => len - (intOf i).toNat)
  case atStart => exact ⟨0, Nat.zero_le _, rfl, hm0, Kp.refl _ _⟩
  case round =>
    obtain ⟨k, hk, rfl, hm, hkp⟩ := hrel
    clear hm0
    have HKP := hide hkp
    have HM := hide hm
    clear hkp hm
    have HBR := hide (HKP.out.below hb0 (by rw [← hB]; exact hb0.size) (by omega))
    by_cases hlt : k < len
    · obtain ⟨z, hz⟩ : ∃ z, zs[k]? = some z := ⟨_, List.getElem?_eq_getElem (by rw [HZ.out]; exact hlt)⟩
      obtain ⟨zb, zo, rfl, kz⟩ := wd_below (hB ▸ HBR.out) HW.out k z hz
      have HZZ := hide hz
      have i1 : (0 : Int) ≤ (k : Int) := by omega
      have i2 : (k : Int) < (len : Int) := by omega
      have HXR := hide (bx_kp HKP.out (by omega) HX0.out)
      obtain ⟨p0, p1, p2, p3⟩ := HXR.out
      clear hz
      go_wp2_with fail
      refine (isState_any a0 N c0 _ _ x3 z wr).mono ?_
      rintro e w2 ⟨rfl, hb2⟩
      have HK2 := hide (HKP.out.trans (Kp.of_below hb2))
      have HM2 := hide (mk_below (mk_lt HM.out) hb2 HM.out)
      have HB2 := hide (HK2.out.below hb0 (by rw [← hB]; exact hb0.size) (by omega))
      clear hb2 p0 p1 p2 p3 kz HXR
      cases hst : isSt N z
      · have HN := hide (mk_congr HM2.out (fun j _ => stp_no (ss := ss) (ts := ts) (c := c) (N := N) HZZ.out (fun i s e hi _ => by
          have : isSt N z = true := by unfold isSt; rw [e]; simp [hi]
          rw [hst] at this; cases this) j))
        clear hst
        go_wp2
        go_roundw
        case rel => exact ⟨k + 1, by omega, by go_num, HN.out, HK2.out⟩
        case measure => simp [intOf]; omega
      · obtain ⟨y, rfl⟩ : ∃ y : Nat, z = y := ⟨z.toNat, by unfold isSt at hst; simp at hst; omega⟩
        have hy : y < N := by unfold isSt at hst; simp at hst; exact hst
        clear hst
        obtain ⟨s, hcs⟩ : ∃ s, ss[y]? = some s := ⟨_, List.getElem?_eq_getElem (by rw [HSL.out]; exact hy)⟩
        obtain ⟨t, hct⟩ : ∃ t, ts[y]? = some t := ⟨_, List.getElem?_eq_getElem (by rw [HTL.out]; exact hy)⟩
        obtain ⟨b, off, rfl, k0, hs16⟩ := sts_below (hB ▸ HB2.out) HS.out y s hcs
        obtain ⟨b', off', rfl, k1⟩ := wd_below (hB ▸ HB2.out) HT.out y t hct
        have HCS := hide hcs
        have HCT := hide hct
        have i3 : (0 : Int) ≤ (y : Int) := by omega
        have i4 : (y : Int) < (N : Int) := by omega
        obtain ⟨p0, p1, p2, p3⟩ := bx_kp HK2.out (by omega) HX0.out
        clear hcs hct
        cases hbit : (bits BinOp.and IntKind.u16 ((s : Int) / 2 ^ c.toNat) 1 == 1)
        · have HN := hide (mk_congr HM2.out (fun j _ => stp_no (ss := ss) (ts := ts) (c := c) (N := N) HZZ.out (fun i s' e hi hs' => by
            have e' : y = i := by omega
            subst e'
            rw [HCS.out] at hs'
            cases hs'
            rw [← bit_at s c hc0 hc1, ← bits_one s c hs16, hbit]) j))
          go_wp2
          go_roundw
          case rel => exact ⟨k + 1, by omega, by go_num, HN.out, HK2.out⟩
          case measure => simp [intOf]; omega
        · have hin : inS s c = true := by rw [← bit_at s c hc0 hc1, ← bits_one s c hs16, hbit]
          have hpos : 0 < s := by
            rcases Nat.eq_zero_or_pos s with e | e
            · subst e; simp [inS] at hin
            · exact e
          obtain ⟨t0, t1⟩ := HOK.out y s t HCS.out HCT.out hpos
          obtain ⟨i, rfl⟩ : ∃ i : Nat, t = i := ⟨t.toNat, by omega⟩
          have hi : i < N := by omega
          obtain ⟨m0, m1⟩ := mk_cell HM2.out hi
          have HN := hide (mk_congr (mk_set HM2.out hi true) (fun j _ => stp_yes HZZ.out hy HCS.out HCT.out hin j))
          have HK3 := hide (HK2.out.set i (.bool true))
          have i5 : (0 : Int) ≤ (i : Int) := by omega
          have i6 : (i : Int) < (N : Int) := by omega
          clear hin hpos
          go_wp2
          go_roundw
          case rel => exact ⟨k + 1, by omega, by go_num, HN.out, HK3.out⟩
          case measure => simp [intOf]; omega
    · have e : k = len := by omega
      subst e
      go_wp2_with fail
      refine (rising_any (B + 1) N _ wr hN HM.out).mono ?_
      rintro e w2 ⟨v, rfl, ho, hb2⟩
      have hsz := HBR.out.size
      have HO := hide (own_low ho (show B ≤ wr.heap.size by omega))
      have HB2 := hide (HBR.out.trans (hb2.mono (show B ≤ wr.heap.size by omega)))
      clear ho hb2 hsz
      go_wp2
      go_ret
      exact ⟨v, rfl, hB ▸ HO.out, hB ▸ HB2.out⟩

end Go.Proofs.YtccaknabpnpjaaaGreatDoor.A

/- Ahead of layer 6: the document's Right of a machine. -/
namespace Go.Proofs.YtccaknabpnpjaaaGreatDoor.A
open Go.RowKit

/-- A state that may be, among N. -/
def okS (N : Nat) (r : Int) (s : Nat) (t : Int) (l : List Int) : Bool := decide (-1 ≤ r) && (decide (r ≤ 15) && ((s == 0 || (decide (0 ≤ t) && decide (t < (N : Int)))) && l.all fun z => decide (0 ≤ z) && decide (z < (N : Int))))
def okSt (fs : List (List Int)) (ss : List Nat) (ts rs : List Int) (N i : Nat) : Bool := match rs[i]?, ss[i]?, ts[i]?, fs[i]? with
  | some r, some s, some t, some l => okS N r s t l
  | _, _, _, _ => false
/-- May a machine be? -/
def rightN (fs : List (List Int)) (ss : List Nat) (ts rs : List Int) : Bool := decide (1 ≤ fs.length) && (decide (fs.length ≤ 3300) && (decide (ss.length = fs.length) && (decide (ts.length = fs.length) && (decide (rs.length = fs.length) && (List.range fs.length).all (okSt fs ss ts rs fs.length)))))
theorem okSt_at {fs : List (List Int)} {ss : List Nat} {ts rs : List Int} {N i : Nat} {r : Int} {s : Nat} {t : Int} {l : List Int} (hr : rs[i]? = some r) (hs : ss[i]? = some s) (ht : ts[i]? = some t) (hl : fs[i]? = some l) : okSt fs ss ts rs N i = okS N r s t l := by
  unfold okSt; rw [hr, hs, ht, hl]
theorem right_not {fs : List (List Int)} {ss : List Nat} {ts rs : List Int} {i : Nat} (hi : i < fs.length) (h : okSt fs ss ts rs fs.length i = false) : rightN fs ss ts rs = false := by
  have : (List.range fs.length).all (okSt fs ss ts rs fs.length) = false := by
    rw [List.all_eq_false]; exact ⟨i, by simp [hi], by simp [h]⟩
  unfold rightN; rw [this]; simp
theorem right_yes {fs : List (List Int)} {ss : List Nat} {ts rs : List Int} (h1 : 1 ≤ fs.length) (h2 : fs.length ≤ 3300) (h3 : ss.length = fs.length) (h4 : ts.length = fs.length) (h5 : rs.length = fs.length) (h : ∀ i, i < fs.length → okSt fs ss ts rs fs.length i = true) : rightN fs ss ts rs = true := by
  unfold rightN
  have : (List.range fs.length).all (okSt fs ss ts rs fs.length) = true := by
    rw [List.all_eq_true]; intro i hi; exact h i (by simpa using hi)
  rw [this]; simp [h1, h2, h3, h4, h5]

end Go.Proofs.YtccaknabpnpjaaaGreatDoor.A

/- The program's Right of a machine. -/
namespace Go.Proofs.YtccaknabpnpjaaaGreatDoor.A
open Go.RowKit

theorem any_not_all (n : Nat) (l : List Int) : l.any (fun z => !isSt n z) = !(l.all fun z => decide (0 ≤ z) && decide (z < (n : Int))) := by
  induction l with
  | nil => rfl
  | cons a r ih => rw [List.any_cons, List.all_cons, ih, Bool.not_and]; rfl
theorem okS_free {N : Nat} {r : Int} {s : Nat} {t : Int} {l : List Int} (h : l.any (fun z => !isSt N z) = true) : okS N r s t l = false := by
  rw [any_not_all] at h
  unfold okS
  rw [show (l.all fun z => decide (0 ≤ z) && decide (z < (N : Int))) = false by simpa using h]
  simp
theorem okS_to {N : Nat} {r : Int} {s : Nat} {t : Int} {l : List Int} (h : isSt N t = false) (hs : s ≠ 0) : okS N r s t l = false := by
  unfold okS
  unfold isSt at h
  rw [h, show (s == 0) = false by simpa using hs]
  simp
theorem okS_low {N : Nat} {r : Int} {s : Nat} {t : Int} {l : List Int} (h : r < -1) : okS N r s t l = false := by
  unfold okS
  rw [show decide (-1 ≤ r) = false by simp; omega]
  rfl
theorem okS_high {N : Nat} {r : Int} {s : Nat} {t : Int} {l : List Int} (h : 16 ≤ r) : okS N r s t l = false := by
  unfold okS
  rw [show decide (r ≤ 15) = false by simp; omega]
  simp
theorem okS_yes {N : Nat} {r : Int} {s : Nat} {t : Int} {l : List Int} (h1 : l.any (fun z => !isSt N z) = false) (h2 : s = 0 ∨ isSt N t = true) (h3 : ¬ r < -1) (h4 : ¬ 16 ≤ r) : okS N r s t l = true := by
  rw [any_not_all] at h1
  unfold okS
  unfold isSt at h2
  rw [show (l.all fun z => decide (0 ≤ z) && decide (z < (N : Int))) = true by simpa using h1, show decide (-1 ≤ r) = true by simp; omega, show decide (r ≤ 15) = true by simp; omega]
  rcases h2 with rfl | h2
  · simp
  · rw [h2]; simp

set_option maxRecDepth 100000 in
set_option maxHeartbeats 6400000 in
theorem pright_any (a0 a1 a2 a3 : Option Addr) (n0 n1 n2 n3 c0 c1 c2 c3 : Nat) (fs : List (List Int)) (ss : List Nat) (ts rs : List Int) (w : World) (h0 : fs.length = n0) (h1 : ss.length = n1) (h2 : ts.length = n2) (h3 : rs.length = n3)
    (hll : ∀ (i : Nat) (l : List Int), fs[i]? = some l → l.length ≤ maxLen) (hF : Fs w a0 fs) (hS : Sts w a1 ss) (hT : Wd w a2 ts) (hR : Wd w a3 rs) :
    Calls Tryz.prog 45 #[.agg #[.slice a0 n0 c0, .slice a1 n1 c1, .slice a2 n2 c2, .slice a3 n3 c3]] w fun e w' => e = .returned (.bool (rightN fs ss ts rs)) ∧ Below w.heap.size w w' := by
  have hmf : ∀ (fn : Fn) (first cap : Array Value) (w : World), (Instr.makeFunc fn first cap).run Tryz.prog w = .ok (.func fn first cap) w := fun _ _ _ _ => rfl
  have HF := hide hF
  have HS := hide hS
  have HT := hide hT
  have HR := hide hR
  have H0 := hide h0
  have H1 := hide h1
  have H2 := hide h2
  have H3 := hide h3
  have HLL := hide hll
  clear hF hS hT hR h0 h1 h2 h3 hll
  have HBX := hide (bx_new w (.slice a0 n0 c0) (.slice a1 n1 c1) (.slice a2 n2 c2) (.slice a3 n3 c3))
  obtain ⟨p0, p1, p2, p3⟩ := HBX.out
  have hb0 := ((Below.refl w.heap.size w).alloc (Nat.le_refl _) (.cells #[.slice a0 n0 c0, .slice a1 n1 c1, .slice a2 n2 c2, .slice a3 n3 c3] 55))
  by_cases g0 : n0 < 1
  · have HE := hide (show rightN fs ss ts rs = false by unfold rightN; rw [H0.out]; have : decide (1 ≤ n0) = false := by simp; omega
                                                        rw [this]; rfl)
    go_enter Tryz.func45, Tryz.ntmps45
    go_wp2
    go_ret
    exact ⟨by rw [HE.out]; rfl, hb0⟩
  by_cases g1 : 3300 < n0
  · have HE := hide (show rightN fs ss ts rs = false by unfold rightN; rw [H0.out]; have : decide (n0 ≤ 3300) = false := by simp; omega
                                                        rw [this]; simp)
    go_enter Tryz.func45, Tryz.ntmps45
    go_wp2
    go_ret
    exact ⟨by rw [HE.out]; rfl, hb0⟩
  by_cases g2 : n1 = n0
  case neg =>
    have HE := hide (show rightN fs ss ts rs = false by unfold rightN; rw [H0.out, H1.out]; have : decide (n1 = n0) = false := by simp [g2]
                                                        rw [this]; simp)
    have y : ((n1 : Int) != (n0 : Int)) = true := by simp; omega
    go_enter Tryz.func45, Tryz.ntmps45
    go_wp2
    go_ret
    exact ⟨by rw [HE.out]; rfl, hb0⟩
  subst g2
  by_cases g3 : n2 = n1
  case neg =>
    have HE := hide (show rightN fs ss ts rs = false by unfold rightN; rw [H0.out, H2.out]; have : decide (n2 = n1) = false := by simp [g3]
                                                        rw [this]; simp)
    have y : ((n2 : Int) != (n1 : Int)) = true := by simp; omega
    go_enter Tryz.func45, Tryz.ntmps45
    go_wp2
    go_ret
    exact ⟨by rw [HE.out]; rfl, hb0⟩
  subst g3
  by_cases g4 : n3 = n2
  case neg =>
    have HE := hide (show rightN fs ss ts rs = false by unfold rightN; rw [H0.out, H3.out]; have : decide (n3 = n2) = false := by simp [g4]
                                                        rw [this]; simp)
    have y : ((n3 : Int) != (n2 : Int)) = true := by simp; omega
    go_enter Tryz.func45, Tryz.ntmps45
    go_wp2
    go_ret
    exact ⟨by rw [HE.out]; rfl, hb0⟩
  subst g4
  have HF0 := hide (fs_below hb0 HF.out)
  have HS0 := hide (sts_below hb0 HS.out)
  have HT0 := hide (wd_below hb0 HT.out)
  have HR0 := hide (wd_below hb0 HR.out)
  have HB := hide hb0
  have HZ := hide (show (w.alloc (.cells #[.slice a0 n3 c0, .slice a1 n3 c1, .slice a2 n3 c2, .slice a3 n3 c3] 55)).heap.size = w.heap.size + 1 by simp)
  clear hb0 HF HS HT HR
  go_enter Tryz.func45, Tryz.ntmps45
  go_wp2_with fail
  clear p0 p1 p2 p3
  generalize w.alloc (.cells #[.slice a0 n3 c0, .slice a1 n3 c1, .slice a2 n3 c2, .slice a3 n3 c3] 55) = W0 at *
  generalize hB : w.heap.size = B at *
  generalize decide ((n3 : Int) < 1) = dd1
  generalize decide (3300 < (n3 : Int)) = dd2
  go_loopw [5, 38] (fun _ i wr => ∃ k : Nat, k ≤ n3 ∧ i = .int .i64 k ∧ (∀ j, j < k → okSt fs ss ts rs n3 j = true) ∧ Below W0.heap.size W0 wr) (fun _ i _ => n3 - (intOf i).toNat)
  case atStart => exact ⟨0, Nat.zero_le _, rfl, fun j hj => by omega, Below.refl _ _⟩
  case round =>
    obtain ⟨k, hk, rfl, hall, hb⟩ := hrel
    have HA := hide hall
    have HBW := hide hb
    have HBB := hide (HB.out.trans (hb.mono (by rw [← hB]; exact HB.out.size)))
    have HPB := hide (show B < W0.heap.size by rw [HZ.out]; omega)
    clear hall
    by_cases hlt : k < n3
    · obtain ⟨r, hcr⟩ : ∃ r, rs[k]? = some r := ⟨_, List.getElem?_eq_getElem (by rw [H3.out]; exact hlt)⟩
      obtain ⟨s, hcs⟩ : ∃ s, ss[k]? = some s := ⟨_, List.getElem?_eq_getElem (by rw [H1.out]; exact hlt)⟩
      obtain ⟨t, hct⟩ : ∃ t, ts[k]? = some t := ⟨_, List.getElem?_eq_getElem (by rw [H2.out]; exact hlt)⟩
      obtain ⟨l, hcl⟩ : ∃ l, fs[k]? = some l := ⟨_, List.getElem?_eq_getElem (by rw [H0.out]; exact hlt)⟩
      obtain ⟨rb, ro, rfl, _⟩ := HR0.out k r hcr
      obtain ⟨sb, so, rfl, _, hs16⟩ := HS0.out k s hcs
      obtain ⟨tb, to, rfl, _⟩ := HT0.out k t hct
      obtain ⟨fb, fo, fa, fc, rfl, kf, hwd⟩ := (fs_below hb HF0.out) k l hcl
      have HK := hide (okSt_at (N := n3) hcr hcs hct hcl)
      have HLM := hide (HLL.out k l hcl)
      have HW := hide hwd
      have HCR := hide hcr
      have HCS := hide hcs
      have HCT := hide hct
      have i1 : (0 : Int) ≤ (k : Int) := by omega
      have i2 : (k : Int) < (n3 : Int) := by omega
      have HBAD := hide (show okS n3 r s t l = false → rightN fs ss ts rs = false from fun e => right_not (i := k) (by rw [H0.out]; exact hlt) (by rw [H0.out, HK.out, e]))
      have HNXT := hide (show okS n3 r s t l = true → ∀ j, j < k + 1 → okSt fs ss ts rs n3 j = true from fun e j hj => by
        by_cases ej : j = k
        · subst ej; rw [HK.out, e]
        · exact HA.out j (by omega))
      clear hcr hcs hct hcl hwd
      have HX := hide (bx_below hb HPB.out HBX.out)
      obtain ⟨q0, q1, q2, q3⟩ := HX.out
      clear hb
      go_wp2_with fail
      refine (containsI_any B _ n3 c0 _ _ _ fa l.length fc l wr HLM.out rfl (by have := HBW.out.size; have := HPB.out; omega) HX.out HW.out).mono ?_
      rintro e w2 ⟨rfl, hb2⟩
      have HW2 := hide (HBW.out.trans (hb2.mono HBW.out.size))
      have HB2 := hide (HB.out.trans (HW2.out.mono (by rw [← hB]; exact HB.out.size)))
      clear hb2 q0 q1 q2 q3 kf
      have HX2 := hide (bx_below HW2.out HPB.out HBX.out)
      obtain ⟨q0, q1, q2, q3⟩ := HX2.out
      obtain ⟨b', o', e', kr⟩ := (wd_below HW2.out HR0.out) k r HCR.out
      obtain ⟨rfl, rfl⟩ : b' = rb ∧ o' = ro := by simp only [Option.some.injEq, Addr.mk.injEq] at e'; exact ⟨e'.1.symm, e'.2.1.symm⟩
      obtain ⟨b2', o2', e2', kss, _⟩ := (sts_below HW2.out HS0.out) k s HCS.out
      obtain ⟨rfl, rfl⟩ : b2' = sb ∧ o2' = so := by simp only [Option.some.injEq, Addr.mk.injEq] at e2'; exact ⟨e2'.1.symm, e2'.2.1.symm⟩
      obtain ⟨b3', o3', e3', kt⟩ := (wd_below HW2.out HT0.out) k t HCT.out
      obtain ⟨rfl, rfl⟩ : b3' = tb ∧ o3' = to := by simp only [Option.some.injEq, Addr.mk.injEq] at e3'; exact ⟨e3'.1.symm, e3'.2.1.symm⟩
      clear e' e2' e3'
      cases hfr : l.any (fun z => !isSt n3 z)
      case true =>
        have HE := hide (HBAD.out (okS_free hfr))
        clear hfr
        go_wp2
        go_ret
        exact ⟨by rw [HE.out]; rfl, hB ▸ HB2.out⟩
      have HFR := hide hfr
      clear hfr
      by_cases s0 : s = 0
      · subst s0
        by_cases r0 : r < -1
        · have HE := hide (HBAD.out (okS_low r0))
          have y1 : decide (r < -1) = true := by simp [r0]
          go_wp2
          go_ret
          exact ⟨by rw [HE.out]; rfl, hB ▸ HB2.out⟩
        have y1 : decide (r < -1) = false := by simp; omega
        by_cases r1 : 16 ≤ r
        · have HE := hide (HBAD.out (okS_high r1))
          have y2 : decide (16 ≤ r) = true := by simp [r1]
          go_wp2
          go_ret
          exact ⟨by rw [HE.out]; rfl, hB ▸ HB2.out⟩
        have y2 : decide (16 ≤ r) = false := by simp; omega
        have HN := hide (HNXT.out (okS_yes HFR.out (.inl rfl) r0 r1))
        go_wp2
        go_roundw
        case rel => exact ⟨k + 1, by omega, by go_num, HN.out, HW2.out⟩
        case measure => simp [intOf]; omega
      · have ys : ((s : Int) != 0) = true := by simp; omega
        go_wp2_with fail
        refine (none_any B _ n3 c0 _ _ _ t w2 HX2.out).mono ?_
        rintro e w3 ⟨rfl, hb3⟩
        have HW3 := hide (HW2.out.trans (hb3.mono HW2.out.size))
        have HB3 := hide (HB.out.trans (HW3.out.mono (by rw [← hB]; exact HB.out.size)))
        have q3' := (HW3.out.cell (p := ⟨B, 3, none⟩) HPB.out).trans HBX.out.2.2.2
        obtain ⟨b4', o4', e4', kr'⟩ := (wd_below HW3.out HR0.out) k r HCR.out
        obtain ⟨rfl, rfl⟩ : b4' = b' ∧ o4' = o' := by simp only [Option.some.injEq, Addr.mk.injEq] at e4'; exact ⟨e4'.1.symm, e4'.2.1.symm⟩
        clear hb3 q0 q1 q2 q3 kr kss kt e4'
        cases hto : isSt n3 t
        case false =>
          have HE := hide (HBAD.out (okS_to hto s0))
          clear hto
          go_wp2
          go_ret
          exact ⟨by rw [HE.out]; rfl, hB ▸ HB3.out⟩
        have HTO := hide hto
        clear hto
        by_cases r0 : r < -1
        · have HE := hide (HBAD.out (okS_low r0))
          have y1 : decide (r < -1) = true := by simp [r0]
          go_wp2
          go_ret
          exact ⟨by rw [HE.out]; rfl, hB ▸ HB3.out⟩
        have y1 : decide (r < -1) = false := by simp; omega
        by_cases r1 : 16 ≤ r
        · have HE := hide (HBAD.out (okS_high r1))
          have y2 : decide (16 ≤ r) = true := by simp [r1]
          go_wp2
          go_ret
          exact ⟨by rw [HE.out]; rfl, hB ▸ HB3.out⟩
        have y2 : decide (16 ≤ r) = false := by simp; omega
        have HN := hide (HNXT.out (okS_yes HFR.out (.inr HTO.out) r0 r1))
        go_wp2
        go_roundw
        case rel => exact ⟨k + 1, by omega, by go_num, HN.out, HW3.out⟩
        case measure => simp [intOf]; omega
    · have e : k = n3 := by omega
      subst e
      have HE := hide (show rightN fs ss ts rs = true from right_yes (by rw [H0.out]; omega) (by rw [H0.out]; omega) (by rw [H0.out, H1.out]) (by rw [H0.out, H2.out]) (by rw [H0.out, H3.out]) (by rw [H0.out]; exact HA.out))
      clear hb
      go_wp2
      go_ret
      exact ⟨by rw [HE.out]; rfl, hB ▸ HBB.out⟩

end Go.Proofs.YtccaknabpnpjaaaGreatDoor.A
