/- What measures an expression: the walk, and what it comes to. -/
import Derived.Test.YtldeofdjhpfdaaaL
namespace Go.Proofs.Ytldeofdjhpfdaaa.A
open Go.RowKit

/-- Node by node: whether none was refused, how many there were, and how deep they stood. -/
def walkE : (n : Nat) → Ex n → Nat → Nat × Nat → Bool × Nat × Nat
  | 0, _, _, s => (false, s)
  | n + 1, t, d, s => if takeB (kd t) (st t) (ks t).length d s.1 = true then (ks t).foldl (fun r x => if r.1 then walkE n x (d + 1) r.2 else r) (true, s.1 + 1, max s.2 d) else (false, s.1 + 1, max s.2 d)
/-- What stands within the bounds. -/
def Fits (r : Bool × Nat × Nat) : Prop := r.1 = true → r.2.1 ≤ 100 ∧ r.2.2 ≤ 12
theorem fold_fits {α : Type} (f : α → Nat × Nat → Bool × Nat × Nat) (hf : ∀ x s, s.1 ≤ 100 → s.2 ≤ 12 → Fits (f x s)) : ∀ (l : List α) (r : Bool × Nat × Nat), Fits r → Fits (l.foldl (fun r x => if r.1 then f x r.2 else r) r)
  | [], _, h => h
  | x :: l, r, h => by
    refine fold_fits f hf l _ ?_
    show Fits (if r.1 = true then f x r.2 else r)
    split
    · rename_i q; exact hf x r.2 (h q).1 (h q).2
    · exact h
theorem walk_fits : ∀ (n : Nat) (t : Ex n) (d : Nat) (s : Nat × Nat), s.1 ≤ 100 → s.2 ≤ 12 → Fits (walkE n t d s)
  | 0, _, _, _, _, _ => fun h => by cases h
  | n + 1, t, d, s, h1, h2 => by
    unfold walkE
    split
    · rename_i q
      refine fold_fits (fun x s => walkE n x (d + 1) s) (fun x s a b => walk_fits n x (d + 1) s a b) _ _ (fun _ => ?_)
      unfold takeB at q
      simp only [Bool.and_eq_true, decide_eq_true_eq] at q
      exact ⟨q.1, by show max s.2 d ≤ 12; omega⟩
    · exact fun h => by cases h
theorem fold_no {α : Type} (f : α → Nat × Nat → Bool × Nat × Nat) : ∀ (l : List α) (r : Bool × Nat × Nat), r.1 = false → l.foldl (fun r x => if r.1 then f x r.2 else r) r = r
  | [], _, _ => rfl
  | x :: l, r, h => by
    show l.foldl _ (if r.1 = true then f x r.2 else r) = r
    rw [if_neg (by rw [h]; simp)]
    exact fold_no f l r h

theorem rx_cells {w : World} {n : Nat} {t : Ex n} {c0 c1 c2 : Value} (h : Rx w n t (.agg #[c0, c1, c2])) : ∃ (k s : Nat) (a : Option Addr) (len cap : Nat), c0 = .int .u8 k ∧ c1 = .int .u16 s ∧ c2 = .slice a len cap := by
  cases n with
  | zero => exact h.elim
  | succ n =>
    obtain ⟨a, len, cap, e, _⟩ := h
    simp only [Value.agg.injEq, Array.mk.injEq, List.cons.injEq, and_true] at e
    exact ⟨_, _, _, _, _, e.1, e.2.1, e.2.2⟩
/-- The world of what comes in, and two numbers that are counted in it. -/
def Go2 (w0 w : World) (p q N D : Nat) : Prop := Below w0.heap.size w0 w ∧ Cn w p N ∧ Cn w q D
set_option maxRecDepth 100000 in
set_option maxHeartbeats 3200000 in
theorem walk_any (w0 : World) (p q : Nat) (hp : w0.heap.size ≤ p) (hq : w0.heap.size ≤ q) (hpq : p ≠ q) : ∀ (n : Nat) (t : Ex n) (v : Value) (d N D : Nat) (w : World), N ≤ 100 → D ≤ 12 → d ≤ 13 → Rx w0 n t v → Go2 w0 w p q N D →
    Calls Try.prog 50 #[v, .int .i64 d, .func (.func 51) #[] #[.pointer (some ⟨p, 0, none⟩), .pointer (some ⟨q, 0, none⟩)]] w fun e w' =>
      e = .returned (.bool (walkE n t d (N, D)).1) ∧ Go2 w0 w' p q (walkE n t d (N, D)).2.1 (walkE n t d (N, D)).2.2 := by
  intro n
  induction n with
  | zero => intro t v d N D w _ _ _ h; exact h.elim
  | succ n ih =>
    intro t v d N D w hN hD hd h hg
    obtain ⟨a, len, cap, rfl, hk, hs, hl, h6, hkids⟩ := rx_open h
    have HE := hide (show walkE (n + 1) t d (N, D) = if takeB (kd t) (st t) (ks t).length d N = true then (ks t).foldl (fun r x => if r.1 then walkE n x (d + 1) r.2 else r) (true, N + 1, max D d) else (false, N + 1, max D d) from rfl)
    rw [h6] at HE
    have HTK := hide (show takeB (kd t) (st t) len d N = true → N + 1 ≤ 100 ∧ d ≤ 12 from fun q => by
      unfold takeB at q
      simp only [Bool.and_eq_true, decide_eq_true_eq] at q
      exact ⟨q.1, q.2.1⟩)
    have HML := hide hl
    unfold maxLen at hl
    generalize kd t = kk at *
    generalize st t = ss at *
    generalize ks t = l at *
    have HK := hide hkids
    have HL6 := hide h6
    obtain ⟨g1, g2, g3⟩ := hg
    have z1 := cn_lt g2
    have hb0 := g1.alloc (g1.size) (.cells #[.int .u8 kk, .int .u16 ss, .slice a len cap] 51)
    have hp0 := cn_alloc g2 (.cells #[.int .u8 kk, .int .u16 ss, .slice a len cap] 51)
    have hq0 := cn_alloc g3 (.cells #[.int .u8 kk, .int .u16 ss, .slice a len cap] 51)
    obtain ⟨r0, r1, r2⟩ := box3 w (.int .u8 kk) (.int .u16 ss) (.slice a len cap) 51
    have n1 : w.heap.size ≠ p := by have := cn_lt g2; omega
    have n2 : w.heap.size ≠ q := by have := cn_lt g3; omega
    clear h hkids g1 g2 g3 h6
    obtain ⟨tk, htk⟩ : ∃ b, takeB kk ss len d N = b := ⟨_, rfl⟩
    rw [htk] at HE HTK
    have HTB := hide htk
    clear htk
    have HB0 := hide hb0
    have HP0 := hide hp0
    have HQ0 := hide hq0
    have HR2 := hide r2
    clear hb0 hp0 hq0 r0 r1 r2
    go_enter Try.func50, Try.ntmps50
    go_wp2_with fail
    refine (take_any kk ss len a cap d N D p q _ w0.heap.size HML.out (by omega) (by omega) (by omega) HP0.out HQ0.out hpq hp hq).mono ?_
    rintro e w1 ⟨rfl, k1, k2, k3, k4⟩
    rw [HTB.out]
    have r2 : w1.cell? ⟨w.heap.size, 2, none⟩ = some (.slice a len cap) := (World.cell?_of_block (k4 w.heap.size (by simp) n1 n2)).trans HR2.out
    have HB1 := hide (HB0.out.trans k3)
    have HP1 := hide k1
    have HQ1 := hide k2
    clear k1 k2 k3 k4 HB0 HP0 HQ0 HR2
    cases tk with
    | false =>
      have HF := hide (show walkE (n + 1) t d (N, D) = (false, N + 1, max D d) from HE.out)
      go_wp2
      go_ret
      exact ⟨by rw [HF.out]; rfl, by rw [HF.out]; exact ⟨HB1.out, HP1.out, HQ1.out⟩⟩
    | true =>
      have HF := hide (show walkE (n + 1) t d (N, D) = l.foldl (fun r x => if r.1 then walkE n x (d + 1) r.2 else r) (true, N + 1, max D d) from HE.out)
      obtain ⟨hN1, hd1⟩ := HTK.out rfl
      have HFT := hide (fun (k : List (Ex n)) => fold_fits (fun x s => walkE n x (d + 1) s) (fun x s a b => walk_fits n x (d + 1) s a b) k (true, N + 1, max D d) (fun _ => ⟨hN1, by show max D d ≤ 12; omega⟩))
      clear HE HTK
      obtain ⟨d1, hd1e⟩ : ∃ d1, d + 1 = d1 := ⟨_, rfl⟩
      have hdi : (d : Int) + 1 = (d1 : Int) := by omega
      rw [hd1e] at HF HFT
      have hd13 : d1 ≤ 13 := by omega
      clear hd1e
      go_wp2_with fail
      go_loopw [8, 17] (fun _ u wr => ∃ (i N' D' : Nat), i ≤ len ∧ u = .int .i64 i ∧ (l.take i).foldl (fun r x => if r.1 then walkE n x d1 r.2 else r) (true, N + 1, max D d) = (true, N', D') ∧ Go2 w0 wr p q N' D') (fun _ u _ => len - (intOf u).toNat)
      case atStart => exact ⟨0, N + 1, max D d, Nat.zero_le _, rfl, rfl, HB1.out, HP1.out, HQ1.out⟩
      case round =>
        obtain ⟨i, N', D', hi, rfl, hf, hg⟩ := hrel
        obtain ⟨hN', hD'⟩ : N' ≤ 100 ∧ D' ≤ 12 := by have := HFT.out (l.take i); rw [hf] at this; exact this rfl
        have HFI := hide hf
        have HGI := hide hg
        clear hf hg HB1 HP1 HQ1 r2
        by_cases hlt : i < len
        · obtain ⟨x, b, off, c0, c1, c2, rfl, hx, m0, m1, m2, m3⟩ := HK.out wr HGI.out.1 i hlt
          obtain ⟨x', b', off', c0', c1', c2', eb, hx', m0', m1', m2', m3'⟩ := HK.out w0 (Below.refl _ _) i hlt
          obtain rfl : x = x' := Option.some.inj (hx.symm.trans hx')
          cases eb
          have e0 : c0' = c0 := Option.some.inj (((HGI.out.1.cell (p := ⟨b, off + i * 3, none⟩) (cell_lt m0')).trans m0').symm.trans m0)
          have e1 : c1' = c1 := Option.some.inj (((HGI.out.1.cell (p := ⟨b, off + i * 3 + 1, none⟩) (cell_lt m1')).trans m1').symm.trans m1)
          have e2 : c2' = c2 := Option.some.inj (((HGI.out.1.cell (p := ⟨b, off + i * 3 + 2, none⟩) (cell_lt m2')).trans m2').symm.trans m2)
          subst e0; subst e1; subst e2
          obtain ⟨kx, sx, ax, lx, cx, rfl, rfl, rfl⟩ := rx_cells m3'
          have HN := hide (show (l.take (i + 1)).foldl (fun r x => if r.1 then walkE n x d1 r.2 else r) (true, N + 1, max D d) = walkE n x d1 (N', D') from by
            rw [take_at hx, List.foldl_append, HFI.out]; rfl)
          have HSTOP := hide (show (walkE n x d1 (N', D')).1 = false → l.foldl (fun r x => if r.1 then walkE n x d1 r.2 else r) (true, N + 1, max D d) = walkE n x d1 (N', D') from fun q => by
            rw [← List.take_append_drop (i + 1) l, List.foldl_append, HN.out]; exact fold_no _ _ _ q)
          have HX3 := hide m3'
          have i3 : (0 : Int) ≤ (i : Int) := by omega
          have i4 : (i : Int) < (len : Int) := by omega
          have HG2 := hide (show Go2 w0 (wr.alloc (.cells #[.int .u8 kx, .int .u16 sx, .slice ax lx cx] 51)) p q N' D' from ⟨HGI.out.1.alloc HGI.out.1.size _, cn_alloc HGI.out.2.1 _, cn_alloc HGI.out.2.2 _⟩)
          clear m0' m1' m2' m3' m3 hx hx' HGI
          go_wp2_with fail
          refine (ih x _ d1 N' D' _ hN' hD' hd13 HX3.out HG2.out).mono ?_
          rintro e w2 ⟨rfl, hg2⟩
          have HG3 := hide hg2
          clear hg2 HG2
          cases hr : (walkE n x d1 (N', D')).1 with
          | true =>
            have HR := hide hr
            clear hr
            go_wp2
            go_roundw
            case rel => exact ⟨i + 1, (walkE n x d1 (N', D')).2.1, (walkE n x d1 (N', D')).2.2, by omega, by go_num, by rw [HN.out]; exact Prod.ext HR.out rfl, HG3.out⟩
            case measure => simp [intOf]; omega
          | false =>
            have HR := hide hr
            clear hr
            go_wp2
            go_ret
            exact ⟨by rw [HF.out, HSTOP.out HR.out, HR.out]; rfl, by rw [HF.out, HSTOP.out HR.out]; exact HG3.out⟩
        · have e : i = len := by omega
          subst e
          have HT := hide (show l.take i = l from List.take_of_length_le (by have := HL6.out; omega))
          go_wp2
          go_ret
          rw [HF.out]
          have := HFI.out
          rw [HT.out] at this
          rw [this]
          exact ⟨rfl, HGI.out⟩
end Go.Proofs.Ytldeofdjhpfdaaa.A
