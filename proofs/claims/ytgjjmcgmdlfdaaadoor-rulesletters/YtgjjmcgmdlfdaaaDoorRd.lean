/- The reader's set. -/
import Derived.Test.YtgjjmcgmdlfdaaaDoorRc
namespace Go.Proofs.YtgjjmcgmdlfdaaaDoor.A
open Go.RowKit
set_option linter.unusedVariables false

theorem bits_both (a b : Nat) (ha : a < 65536) (hb : b < 65536) : bits BinOp.and IntKind.u16 (a : Int) (b : Int) = ((a &&& b : Nat) : Int) ∧ bits BinOp.or IntKind.u16 (a : Int) (b : Int) = ((a ||| b : Nat) : Int) :=
  bits_nat .u16 16 (by decide) (fun n h0 h1 => by rw [IntKind.wrap_u16]; omega) a b ha hb
theorem or_lt16 {a b : Nat} (ha : a < 65536) (hb : b < 65536) : a ||| b < 65536 := Nat.or_lt_two_pow (n := 16) ha hb
set_option maxHeartbeats 3200000 in
theorem set_any (q : Nat) (L : ByteArray) (i : Nat) (w : World) (hi : i ≤ L.size) (hL : L.size ≤ 2000) (h : Rd w q L i) :
    Calls Tryd.prog 79 #[.pointer (some ⟨q, 0, none⟩)] w fun e w' => OutS w q L (setF L i) e w' := by
  have HR := hide h
  clear h
  cases hl : letF L i with
  | none =>
    have HF := hide (show setF L i = none by unfold setF; rw [hl])
    have HL := hide hl
    clear hl
    go_enter Tryd.func79, Tryd.ntmps79
    go_wp2_with fail
    refine (letter_no q L i w hi hL HR.out HL.out).mono ?_
    rintro e w1 ⟨rfl, h1⟩
    have H1 := hide h1
    clear h1
    go_wp2
    refine ⟨rfl, ?_⟩
    rw [HF.out]
    exact ⟨rfl, H1.out⟩
  | some m =>
    obtain ⟨hlt, k, hk, hc, rfl⟩ := letF_some hl
    have HF := hide (show setF L i = setL L (L.size + 1) (2 ^ k) (i + 1) by unfold setF; rw [hl])
    have hm := letF_lt hl
    have HC := hide hc
    clear hl hc
    go_enter Tryd.func79, Tryd.ntmps79
    go_wp2_with fail
    refine (letter_yes q L i w hlt hL HR.out k HC.out hk).mono ?_
    rintro e w1 ⟨rfl, h1, h2⟩
    have H1 := hide h1
    have H2 := hide h2
    generalize 2 ^ k = m at *
    clear h1 h2 HR
    go_wp2_with fail
    go_loopw [3, 4] (fun s _ wr => ∃ (a j f : Nat), s = .int .u16 a ∧ a < 65536 ∧ j ≤ L.size ∧ L.size < j + f ∧ Rd wr q L j ∧ w.grownBy wr (some q) ∧ setL L f a j = setF L i) (fun _ _ wr => L.size + 1 - posOf wr q)
    case atStart => exact ⟨m, i + 1, L.size + 1, rfl, hm, by omega, by omega, H1.out, H2.out, HF.out.symm⟩
    case round =>
      obtain ⟨a, j, f, rfl, ha, hj, hf, hrd, hg, hs⟩ := hrel
      obtain ⟨f, rfl⟩ : ∃ f', f = f' + 1 := ⟨f - 1, by omega⟩
      have HRD := hide hrd
      have HG := hide hg
      have HPO := hide (pos_rd hrd)
      have HS := hide (show (if tk L j 93 = true then some (a, j + 1) else match letF L j with
        | none => none
        | some m => if a &&& m = 0 then setL L f (a ||| m) (j + 1) else none) = setF L i from hs)
      clear hrd hg hs
      go_wp2_with fail
      refine (takes_any q L j 93 wr hj hL HRD.out).mono ?_
      rintro e w2 ⟨rfl, h3, h4⟩
      have HG2 := hide (gb_trans HG.out h4)
      cases ht : tk L j 93 with
      | true =>
        rw [nx_yes ht] at h3
        have H3 := hide h3
        have HJ := hide (tk_lt ht)
        rw [ht] at HS
        have HS2 := hide (show some (a, j + 1) = setF L i from HS.out)
        clear h3 h4 ht HS
        go_wp2
        go_ret
        rw [← HS2.out]
        exact ⟨rfl, ha, HJ.out, H3.out, HG2.out⟩
      | false =>
        rw [nx_no ht] at h3
        have H3 := hide h3
        rw [ht] at HS
        clear h3 h4 ht
        cases hl : letF L j with
        | none =>
          rw [hl] at HS
          have HS2 := hide (show none = setF L i from HS.out)
          have HL := hide hl
          clear HS hl
          go_wp2_with fail
          refine (letter_no q L j w2 hj hL H3.out HL.out).mono ?_
          rintro e w3 ⟨rfl, h5⟩
          have HG3 := hide (gb_trans HG2.out h5)
          clear h5
          go_wp2
          refine ⟨rfl, ?_⟩
          rw [← HS2.out]
          exact ⟨rfl, HG3.out⟩
        | some m2 =>
          rw [hl] at HS
          obtain ⟨hlt2, k2, hk2, hc2, rfl⟩ := letF_some hl
          have hm2 := letF_lt hl
          have HC2 := hide hc2
          clear hl hc2
          go_wp2_with fail
          refine (letter_yes q L j w2 hlt2 hL H3.out k2 HC2.out hk2).mono ?_
          rintro e w3 ⟨rfl, h5, h6⟩
          have H5 := hide h5
          have HG3 := hide (gb_trans HG2.out h6)
          have HPN := hide (pos_rd h5)
          generalize 2 ^ k2 = m2 at *
          clear h5 h6
          obtain ⟨hb1, hb2⟩ := bits_both a m2 ha hm2
          by_cases hand : a &&& m2 = 0
          · have HS2 := hide (show setL L f (a ||| m2) (j + 1) = setF L i from by
              have := HS.out
              simp only [Bool.false_eq_true, if_false, hand, if_true] at this
              exact this)
            clear HS
            have hor := or_lt16 ha hm2
            rw [hand] at hb1
            generalize a ||| m2 = a2 at *
            go_wp2
            exact ⟨⟨a2, j + 1, f, rfl, hor, hlt2, by omega, H5.out, HG3.out, HS2.out⟩, by rw [HPN.out, HPO.out]; omega⟩
          · have HS2 := hide (show none = setF L i from by
              have := HS.out
              simp only [Bool.false_eq_true, if_false, hand] at this
              exact this)
            clear HS
            have hne : ((a &&& m2 : Nat) : Int) ≠ 0 := by omega
            have hne2 : (((a &&& m2 : Nat) : Int) != 0) = true := by simp; omega
            generalize a &&& m2 = a2 at *
            go_wp2
            refine ⟨rfl, ?_⟩
            rw [← HS2.out]
            exact ⟨rfl, HG3.out⟩
end Go.Proofs.YtgjjmcgmdlfdaaaDoor.A
