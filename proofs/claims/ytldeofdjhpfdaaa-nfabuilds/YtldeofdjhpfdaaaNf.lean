/- Ahead of layer 6: the document's Close, walked. -/
import Derived.Test.YtldeofdjhpfdaaaNe
namespace Go.Proofs.Ytldeofdjhpfdaaa.A
open Go.RowKit

/-- What is told of the first q steps of a list, while nothing was added. -/
def Told (g : Nat → Bool) (l : List Int) (q : Nat) : Prop := ∀ p, p < q → ∀ (z : Nat), l[p]? = some (z : Int) → g z = true
theorem told_cl {fs : List (List Int)} {g : Nat → Bool} {l : List Int} {i : Nat} (hl : fs[i]? = some l) (h : Told g l l.length) : ClAt fs g i := by
  intro _ l' hl' j hj
  rw [hl] at hl'
  cases hl'
  obtain ⟨p, hp, e⟩ := List.getElem_of_mem hj
  exact h p hp j (by rw [List.getElem?_eq_getElem hp, e])

set_option maxRecDepth 100000 in
set_option maxHeartbeats 6400000 in
theorem close_any (x1 x2 x3 : Value) (a0 : Option Addr) (N c0 F : Nat) (fs : List (List Int)) (o : Nat → Bool) (w : World) (hN : N ≤ 10000) (hf : fs.length = N) (hll : ∀ (i : Nat) (l : List Int), fs[i]? = some l → l.length ≤ maxLen)
    (hS : Fs w a0 fs) (hok : ∀ (i : Nat) (l : List Int), fs[i]? = some l → ∀ z ∈ l, 0 ≤ z ∧ z < (N : Int)) (hF : Mk w F N o) :
    Calls Try.prog 20 #[.agg #[.slice a0 N c0, x1, x2, x3], .slice (some ⟨F, 0, none⟩) N N] w fun e w' => ∃ g, IsCl fs N o g ∧ Gives w N g e w' := by
  have hmk : ∀ w, (Instr.makeSlice 42 (.int .i64 (N : Int)) (.int .i64 (N : Int))).run Try.prog w = .ok (.slice (some ⟨w.heap.size, 0, none⟩) N N) (w.alloc (.cells (rowB N fun _ => false) 4)) := make39 N hN
  have HF := hide hF
  have HFL := hide (mk_lt hF)
  have HS := hide hS
  have HSL := hide hf
  have HOK := hide hok
  have HLL := hide hll
  clear hF hS hf hok hll
  obtain ⟨p0, p1, p2, p3⟩ := box4 w (.slice a0 N c0) x1 x2 x3 29
  have HB0 := hide ((Below.refl w.heap.size w).alloc (Nat.le_refl _) (.cells #[.slice a0 N c0, x1, x2, x3] 29))
  go_enter Try.func20, Try.ntmps20
  go_wp2_with fail
  have hm0 : Mk ((w.alloc (.cells #[.slice a0 N c0, x1, x2, x3] 29)).alloc (.cells (rowB N fun _ => false) 4)) (w.heap.size + 1) N (fun j => decide (j < 0) && o j) := mk_congr (g := fun _ => false) (mk_new _ _ _) (by simp)
  have hb0 := HB0.out.alloc (by simp) (.cells (rowB N fun _ => false) 4)
  have hp0 : ((w.alloc (.cells #[.slice a0 N c0, x1, x2, x3] 29)).alloc (.cells (rowB N fun _ => false) 4)).cell? ⟨w.heap.size, 0, none⟩ = some (.slice a0 N c0) := by
    rw [← p0]; exact ((Below.refl (w.heap.size + 1) (w.alloc (.cells #[.slice a0 N c0, x1, x2, x3] 29))).alloc (by simp) (.cells (rowB N fun _ => false) 4)).cell (p := ⟨w.heap.size, 0, none⟩) (by simp)
  clear hmk p0 p1 p2 p3 HB0
  generalize (w.alloc (.cells #[.slice a0 N c0, x1, x2, x3] 29)).alloc (.cells (rowB N fun _ => false) 4) = W0 at *
  generalize hB : w.heap.size = B at *
  have HP0 := hide hp0
  clear hp0
  go_loopw [6] (fun i wr => ∃ k : Nat, k ≤ N ∧ i = .int .i64 k ∧ Mk wr (B + 1) N (fun j => decide (j < k) && o j) ∧ Below B w wr ∧ Below (B + 1) W0 wr) (fun i _ => N - (intOf i).toNat)
  case atStart => exact ⟨0, Nat.zero_le _, rfl, hm0, hb0, Below.refl _ _⟩
  case round =>
    obtain ⟨k, hk, rfl, hm, hb, hb2⟩ := hrel
    clear hm0 hb0
    by_cases hlt : k < N
    · obtain ⟨m0, m1⟩ := mk_cell hm hlt
      obtain ⟨f0, _⟩ := mk_cell (mk_below HFL.out hb HF.out) hlt
      have i1 : (0 : Int) ≤ (k : Int) := by omega
      have i2 : (k : Int) < (N : Int) := by omega
      have HM := hide hm
      clear hm
      go_wp2
      go_roundw
      case rel => exact ⟨k + 1, by omega, by go_num, mk_congr (mk_set HM.out hlt (o k)) (fun j _ => copy_set o k j), hb.setCell (by simp) _, hb2.setCell (by simp) _⟩
      case measure => simp [intOf]; omega
    · have e : k = N := by omega
      subst e
      go_wp2_with fail
      have hmo : Mk wr (B + 1) k o := mk_congr hm (fun j hj => by simp [hj])
      clear hm
      go_loopw [7] (fun m wr => ∃ (b : Bool) (g : Nat → Bool), m = .bool b ∧ Mk wr (B + 1) k g ∧ (∀ j, j < k → o j = true → g j = true) ∧ (∀ j, j < k → g j = true → Rch fs k o j) ∧ (b = false → ∀ i, i < k → ClAt fs g i) ∧ Below B w wr ∧ Below (B + 1) W0 wr) (fun m wr => undone wr (B + 1) k + (match m with | .bool true => 1 | _ => 0))
      case atStart => exact ⟨true, o, rfl, hmo, fun _ _ q => q, fun _ hj q => .here hj q, fun q => by simp at q, hb, hb2⟩
      case round =>
        clear hmo hb hb2
        obtain ⟨b, g0, rfl, hm, h0, h1, h2, hb, hb2⟩ := hrel
        have HU := hide (undone_of hm k (Nat.le_refl _))
        cases b
        · have HC := hide (closed_is h0 h1 (h2 rfl) HOK.out)
          clear h0 h1 h2
          go_wp2
          go_ret
          exact ⟨g0, HC.out, B + 1, by omega, rfl, hm, by rw [hB]; exact hb⟩
        · clear h2
          have H0 := hide h0
          have H1 := hide h1
          clear h0 h1
          go_wp2_with fail
          go_loopw [7, 8] (fun m i wr => ∃ (b : Bool) (g : Nat → Bool) (q : Nat), q ≤ k ∧ m = .bool b ∧ i = .int .i64 q ∧ Mk wr (B + 1) k g ∧ Rnd fs o k g0 b g ∧ (b = false → ∀ i, i < q → ClAt fs g0 i) ∧ Below B w wr ∧ Below (B + 1) W0 wr) (fun _ i _ => k - (intOf i).toNat)
          case atStart => exact ⟨false, g0, 0, Nat.zero_le _, rfl, rfl, hm, ⟨fun _ _ q => q, H1.out, fun q => by simp at q, fun _ _ _ => rfl⟩, fun _ i hi => by omega, hb, hb2⟩
          case round =>
            clear hm hb hb2
            obtain ⟨b, g, q, hq, rfl, rfl, hm, hr, hc, hb, hb2⟩ := hrel
            have HR := hide hr
            have HC := hide hc
            clear hr hc
            by_cases hlt2 : q < k
            · obtain ⟨l, hl⟩ : ∃ l, fs[q]? = some l := ⟨_, List.getElem?_eq_getElem (by rw [HSL.out]; exact hlt2)⟩
              have HL := hide hl
              have hlm := HLL.out q l hl
              unfold maxLen at hlm
              have i1 : (0 : Int) ≤ (q : Int) := by omega
              have i2 : (q : Int) < (k : Int) := by omega
              clear hl
              go_wp2_with fail
              go_loopw [7, 9] (fun m i wr => ∃ (b : Bool) (g : Nat → Bool) (p : Nat), p ≤ l.length ∧ m = .bool b ∧ i = .int .i64 p ∧ Mk wr (B + 1) k g ∧ Rnd fs o k g0 b g ∧ (b = false → ∀ i, i < q → ClAt fs g0 i) ∧ (b = false → Told g0 l p) ∧ Below B w wr ∧ Below (B + 1) W0 wr) (fun _ i _ => l.length - (intOf i).toNat)
              case atStart => exact ⟨b, g, 0, Nat.zero_le _, rfl, rfl, hm, HR.out, HC.out, fun _ p hp => by omega, hb, hb2⟩
              case round =>
                clear hm hb hb2 HR HC
                obtain ⟨b, g, p, hp, rfl, rfl, hm, hr, hc, ht, hb, hb2⟩ := hrel
                have HR := hide hr
                have HC := hide hc
                have HT := hide ht
                clear hr hc ht
                have r0 := (hb2.cell (p := ⟨B, 0, none⟩) (Nat.lt_succ_self _)).trans HP0.out
                obtain ⟨fb, foff, fa, fc, rfl, kf, hwd⟩ := fs_below (hB ▸ hb) HS.out q l HL.out
                obtain ⟨m0, m1⟩ := mk_cell hm hlt2
                by_cases hlt3 : p < l.length
                · cases hg : g q
                  · rw [hg] at m0
                    have HE := hide (show b = false → ∀ i, i < q + 1 → ClAt fs g0 i from fun e i hi => by
                      by_cases ei : i = q
                      · subst ei; intro y; rw [← HR.out.2.2.2 e i hlt2, hg] at y; simp at y
                      · exact HC.out e i (by omega))
                    clear hg
                    have HM := hide hm
                    clear hm hwd
                    go_wp2
                    go_roundw
                    case rel => exact ⟨b, g, q + 1, by omega, rfl, by go_num, HM.out, HR.out, HE.out, hb, hb2⟩
                    case measure => simp [intOf]; omega
                  · rw [hg] at m0
                    obtain ⟨z, hz⟩ : ∃ z, l[p]? = some z := ⟨_, List.getElem?_eq_getElem hlt3⟩
                    obtain ⟨z0, z1⟩ := HOK.out q l HL.out z (List.mem_of_getElem? hz)
                    obtain ⟨i, rfl⟩ : ∃ i : Nat, z = i := ⟨z.toNat, by omega⟩
                    have hi : i < k := by omega
                    obtain ⟨b', off', rfl, k1⟩ := hwd p (i : Int) hz
                    obtain ⟨n0, n1⟩ := mk_cell hm hi
                    have i3 : (p : Int) < (l.length : Int) := by omega
                    have i4 : (0 : Int) ≤ (p : Int) := by omega
                    have HNX := hide (rnd_set HR.out hi (.on (HR.out.2.1 q hlt2 hg) HL.out (List.mem_of_getElem? hz)))
                    have HZ := hide hz
                    have HM := hide hm
                    clear hm hz hwd hg
                    cases b
                    · cases hgi : g i
                      · rw [hgi] at n0 HNX
                        clear hgi
                        go_wp2
                        go_roundw
                        case rel => exact ⟨true, _, p + 1, by omega, rfl, by go_num, mk_set HM.out hi true, HNX.out, fun y => by simp at y, fun y => by simp at y, hb.setCell (by simp) _, hb2.setCell (by simp) _⟩
                        case measure => simp [intOf]; omega
                      · rw [hgi] at n0 HNX
                        have HG := hide hgi
                        clear hgi
                        have HTN := hide (show Told g0 l (p + 1) from fun p' hp' z' hz' => by
                          by_cases ep : p' = p
                          · subst ep; rw [HZ.out] at hz'; have : i = z' := by have := Option.some.inj hz'; omega
                            subst this; rw [← HR.out.2.2.2 rfl i hi]; exact HG.out
                          · exact HT.out rfl p' (by omega) z' hz')
                        go_wp2
                        go_roundw
                        case rel => exact ⟨false, _, p + 1, by omega, rfl, by go_num, mk_set HM.out hi true, HNX.out, HC.out, fun _ => HTN.out, hb.setCell (by simp) _, hb2.setCell (by simp) _⟩
                        case measure => simp [intOf]; omega
                    · rw [Bool.true_or] at HNX
                      go_wp2
                      go_roundw
                      case rel => exact ⟨true, _, p + 1, by omega, rfl, by go_num, mk_set HM.out hi true, HNX.out, fun y => by simp at y, fun y => by simp at y, hb.setCell (by simp) _, hb2.setCell (by simp) _⟩
                      case measure => simp [intOf]; omega
                · have e : p = l.length := by omega
                  have HE := hide (show b = false → ∀ i, i < q + 1 → ClAt fs g0 i from fun e' i hi => by
                    by_cases ei : i = q
                    · subst ei; exact told_cl HL.out (e ▸ HT.out e')
                    · exact HC.out e' i (by omega))
                  subst e
                  have HM := hide hm
                  clear hm hwd
                  go_wp2
                  go_roundw
                  case rel => exact ⟨b, g, q + 1, by omega, rfl, by go_num, HM.out, HR.out, HE.out, hb, hb2⟩
                  case measure => simp [intOf]; omega
            · have e : q = k := by omega
              have HE := hide (show (∀ j, j < k → o j = true → g j = true) from fun j hj y => HR.out.1 j hj (H0.out j hj y))
              have HF2 := hide (show b = false → ∀ i, i < k → ClAt fs g i from fun e' i hi y l' hl' j hj => by
                have hjk : j < k := by have := HOK.out i l' hl' _ hj; omega
                rw [HR.out.2.2.2 e' j hjk]
                exact HC.out e' i (by omega) (by rw [← HR.out.2.2.2 e' i hi]; exact y) l' hl' j hj)
              have HU2 := hide (undone_of hm k (Nat.le_refl _))
              subst e
              have HM := hide hm
              clear hm
              go_wp2
              go_roundw
              case rel => exact ⟨b, g, rfl, HM.out, HE.out, HR.out.2.1, HF2.out, hb, hb2⟩
              case measure =>
                rw [HU.out]
                cases b
                · have := HU2.out
                  have h5 := cntF_congr (g := g) q (HR.out.2.2.2 rfl)
                  simp_all
                · have := HU2.out
                  have h5 := HR.out.2.2.1 rfl
                  simp_all

end Go.Proofs.Ytldeofdjhpfdaaa.A
