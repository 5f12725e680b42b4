/- The program's Same, walked. -/
import Derived.Test.YtacfkdjpdgnohaaSb
namespace Go.Proofs.Ytacfkdjpdgnohaa.A
open Go.RowKit

theorem env_ne {w0 w : World} {p f m : Nat} {V : Nat → Prop} (h : Env w0 w p f m V) {j o : Nat} {v : Value} (hc : w.cell? ⟨j, o, none⟩ = some v) : j ≠ m := by
  obtain ⟨_, _, _, _, _, _, es, clock, h7, _⟩ := h
  rintro rfl
  simp [World.cell?, h7] at hc
set_option maxRecDepth 100000 in
set_option maxHeartbeats 6400000 in
theorem alike_any (w0 : World) (p f m : Nat) : ∀ n, Alike w0 p f m n := by
  intro n
  induction n with
  | zero => intro t x S v V w h; exact h.elim
  | succ n ih =>
    intro t x S v V w htr hnd hV hrx henv
    obtain ⟨k, s, ax, l, c⟩ := x
    obtain ⟨h1, h2, h3, h4, h5, h6, h7, h8⟩ := htr
    simp only at h1 h2 h5 h6 h7 h8
    subst h1; subst h2
    obtain ⟨a', len, cap', rfl, -, -, hl, hl2, hkids⟩ := rx_open hrx
    obtain rfl : l = len := h7.symm.trans hl2
    have HML := hide hl
    unfold maxLen at hl
    show Calls Try.prog 31 #[.agg #[.int .u8 (kd t : Nat), .int .u16 (st t : Nat), .slice ax l c], _, _, _] w _
    have bA : Below w.heap.size w ((w.alloc (.cells #[.int .u8 (kd t : Nat), .int .u16 (st t : Nat), .slice ax l c] 25)).alloc (.cells #[.int .u8 (kd t : Nat), .int .u16 (st t : Nat), .slice a' l cap'] 25)) := ((Below.refl _ w).alloc (Nat.le_refl _) _).alloc (by simp) _
    have HEA := hide (env_below henv bA)
    have HK := hide hkids
    have HL := hide h7
    generalize kd t = kk at *
    generalize st t = ss at *
    generalize ks t = ls at *
    by_cases hl0 : l = 0
    · have y0 : ((l : Int) == 0) = true := by simp; omega
      clear h8 hrx henv hkids h7 hl2 bA hl0
      go_enter Try.func31, Try.ntmps31
      go_wp2
      go_ret
      exact ⟨rfl, env_mono HEA.out (fun g hg => .inl hg)⟩
    · have y0 : ((l : Int) == 0) = false := by simp; omega
      rcases h8 with ⟨q, _⟩ | ⟨b, cs, ys, Ss, rfl, a2, a3, a4, a5, a6, a7⟩
      · exact absurd q hl0
      obtain ⟨x0, b', off', -, -, -, rfl, -, -, -, -, -⟩ := hkids w0 (Below.refl _ _) 0 (by omega)
      have hbx := box3 w (.int .u8 kk) (.int .u16 ss) (.slice (some ⟨b, 0, none⟩) l c) 25
      have HB1 := hide (And.intro (cell_alloc hbx.1 (.cells #[.int .u8 kk, .int .u16 ss, .slice (some ⟨b', off', none⟩) l cap'] 25)) (And.intro (cell_alloc hbx.2.1 (.cells #[.int .u8 kk, .int .u16 ss, .slice (some ⟨b', off', none⟩) l cap'] 25)) (cell_alloc hbx.2.2 (.cells #[.int .u8 kk, .int .u16 ss, .slice (some ⟨b', off', none⟩) l cap'] 25))))
      have hbz : (w.alloc (.cells #[.int .u8 kk, .int .u16 ss, .slice (some ⟨b, 0, none⟩) l c] 25)).heap.size = w.heap.size + 1 := by simp
      have hby := box3 (w.alloc (.cells #[.int .u8 kk, .int .u16 ss, .slice (some ⟨b, 0, none⟩) l c] 25)) (.int .u8 kk) (.int .u16 ss) (.slice (some ⟨b', off', none⟩) l cap') 25
      rw [hbz] at hby
      have HB2 := hide hby
      have HA2 := hide a2
      have HA3 := hide a3
      have HA4 := hide a4
      have HA5 := hide a5
      have HA6 := hide a6
      have HA7 := hide a7
      have HND := hide hnd
      have HV := hide hV
      have i3 : (0 : Int) < (l : Int) := by omega
      clear a2 a3 a4 a5 a6 a7 hnd hV hrx henv hkids h7 hl2 bA hbx hbz hby
      go_enter Try.func31, Try.ntmps31
      go_wp2_with fail
      obtain ⟨-, -, r2⟩ := HB1.out
      obtain ⟨-, -, s2⟩ := HB2.out
      clear HB1 HB2
      generalize (w.alloc (.cells #[.int .u8 kk, .int .u16 ss, .slice (some ⟨b, 0, none⟩) l c] 25)).alloc (.cells #[.int .u8 kk, .int .u16 ss, .slice (some ⟨b', off', none⟩) l cap'] 25) = W at *
      obtain ⟨qa, hqa⟩ : ∃ q, w.heap.size = q := ⟨_, rfl⟩
      rw [hqa] at r2 s2 ⊢
      obtain ⟨qb, hqb⟩ : ∃ q, qa + 1 = q := ⟨_, rfl⟩
      rw [hqb] at s2 ⊢
      clear hqa hqb
      have r3 := fun o => cell_alloc r2 o
      have s3 := fun o => cell_alloc s2 o
      have l0 : 0 < l := by omega
      go_region
      have bX : Below W.heap.size W (W.alloc (.cells #[.pointer (some ⟨b, 0, none⟩), .pointer (some ⟨b', off', none⟩), .int .i64 (l : Int)] 46)).drew.drew := (((Below.refl _ W).alloc (Nat.le_refl _) _).drew).drew
      obtain ⟨clock, Y, Z, L1, L2, L3, L4, L5, hEZ, hZ⟩ := env_step (env_below HEA.out bX) HA2.out (HV.out b (by rw [HA6.out]; simp)) ⟨b', off', none⟩ l
      obtain ⟨v0, v1, v2⟩ := box3 W (.pointer (some ⟨b, 0, none⟩)) (.pointer (some ⟨b', off', none⟩)) (.int .i64 (l : Int)) 46
      obtain ⟨e0, e1⟩ := env_cells (env_below HEA.out bX)
      have xa := r3 (.cells #[.pointer (some ⟨b, 0, none⟩), .pointer (some ⟨b', off', none⟩), .int .i64 (l : Int)] 46)
      have xb := s3 (.cells #[.pointer (some ⟨b, 0, none⟩), .pointer (some ⟨b', off', none⟩), .int .i64 (l : Int)] 46)
      go_wp2_with fail
      generalize (W.alloc (.cells #[.pointer (some ⟨b, 0, none⟩), .pointer (some ⟨b', off', none⟩), .int .i64 (l : Int)] 46)) = X at *
      have e0' : X.cell? ⟨p, 0, none⟩ = some (.map (some m)) := e0
      unfold key3 at L1 L2 L3 L5
      have HEZ := hide hEZ
      have HZ := hide hZ
      have HL5 := hide L5
      clear hEZ hZ L5 e0 r3 s3
      have HEX := hide (env_below HEA.out bX)
      have na := env_ne HEX.out (j := qa) (o := 2) xa
      have nb := env_ne HEX.out (j := qb) (o := 2) xb
      have nl := env_ne HEX.out (j := W.heap.size) (o := 0) v0
      have za := (World.cell?_of_block (a := ⟨qa, 2, none⟩) (HZ.out qa na)).trans xa
      have zb := (World.cell?_of_block (a := ⟨qb, 2, none⟩) (HZ.out qb nb)).trans xb
      have z0 := (World.cell?_of_block (a := ⟨W.heap.size, 0, none⟩) (HZ.out _ nl)).trans v0
      have z1 := (World.cell?_of_block (a := ⟨W.heap.size, 1, none⟩) (HZ.out _ nl)).trans v1
      have z2 := (World.cell?_of_block (a := ⟨W.heap.size, 2, none⟩) (HZ.out _ nl)).trans v2
      obtain ⟨zp, zf⟩ := env_cells HEZ.out
      have HC := hide (equalFunc_any w0 p f m n ih b l c cs ys Ss ls (some ⟨b', off', none⟩) cap' (fun j => V j ∨ j = b) Z HA2.out HA3.out HA4.out HA5.out HL.out HML.out HA7.out (by have := HND.out; rw [HA6.out] at this; exact (List.nodup_cons.1 this).2)
        (fun j hj q => by
          rcases q with q | rfl
          · exact HV.out j (by rw [HA6.out]; exact List.mem_cons_of_mem _ hj) q
          · have := HND.out; rw [HA6.out] at this; exact (List.nodup_cons.1 this).1 hj) HK.out HEZ.out)
      clear na nb nl r2 s2 e1 bX
      go_region
      have L5 := HL5.out
      clear L1 L2 L3 L4 HL5 xa xb v0 v1 v2 e0'
      go_wp2_with fail
      refine HC.out.mono ?_
      rintro e w2 ⟨rfl, henv2⟩
      have HE2 := hide henv2
      clear henv2 HC L5
      go_wp2
      go_ret
      exact ⟨rfl, env_mono HE2.out (fun j hj => by rw [HA6.out]; rcases hj with (hj | hj) | hj; exact .inl hj; exact .inr (by rw [hj]; simp); exact .inr (List.mem_cons_of_mem _ hj))⟩
end Go.Proofs.Ytacfkdjpdgnohaa.A

