/- What every right program answers. -/
import Derived.Test.YtgjjmcgmdlfdaaaDoorTg
namespace Go.Proofs.YtgjjmcgmdlfdaaaDoor.A
open Go.RowKit
set_option linter.unusedVariables false

def txt : ByteArray := { data := #[115, 116, 100, 58, 32, 67, 40, 72, 67, 41, 42, 77, 63, 10, 98, 97, 100, 33, 58, 32, 91, 78, 72, 77, 93, 43] }
def kidsN : (n : Nat) → Ex n → Nat | 0, _ => 0 | _ + 1, t => (ks t).length
theorem rx_kids {w : World} {n : Nat} {t : Ex n} {k s : Nat} {a : Option Addr} {l c : Nat} (h : Rx w n t (.agg #[.int .u8 k, .int .u16 s, .slice a l c])) : l = kidsN n t := by
  cases n with
  | zero => exact h.elim
  | succ n =>
    obtain ⟨a', len, cap, e, _, _, _, h6, _⟩ := rx_open h
    simp only [Value.agg.injEq] at e
    have e3 := congrArg (fun x : Array Value => x[2]?) e
    simp at e3
    show l = (ks t).length
    omega
def goodTxt : Bool := match parseF txt with
  | (some [x0, x1], 0, 0) => x1.br && decide (kidsN x0.n x0.t = 3) && rightG [x0, x1]
  | _ => false
set_option maxRecDepth 1000000 in
theorem goodTxt_ok : goodTxt = true := by decide +kernel
theorem txt_rules : ∃ x0 x1, parseF txt = (some [x0, x1], 0, 0) ∧ x1.br = true ∧ kidsN x0.n x0.t = 3 ∧ rightG [x0, x1] = true := by
  have h := goodTxt_ok
  unfold goodTxt at h
  split at h
  · rename_i x0 x1 heq
    simp only [Bool.and_eq_true, decide_eq_true_eq] at h
    exact ⟨x0, x1, heq, h.1.1, h.1.2, h.2⟩
  · cases h
def chm : ByteArray := { data := #[67, 72, 77] }
theorem chm_ok : catsOk chm = true := by decide +kernel
theorem chm_cats : catsL chm = [1, 4, 5] := by decide +kernel
theorem chm_word : wordF [1, 4, 5] = chm := by decide +kernel
theorem let15 : letS 15 = { data := #[88] } := by decide +kernel

set_option maxRecDepth 100000 in
set_option maxHeartbeats 6400000 in
theorem alive_any (m : Int) (w : World) (hm : w.cell? ⟨0, 0, none⟩ = some (.int .i64 m)) : Calls Tryd.prog 7 #[] w fun e w' => e = .returned (.bool true) ∧ Below w.heap.size w w' := by
  obtain ⟨x0, x1, hp, hbr, hks, hrg⟩ := txt_rules
  have HP := hide (show Calls Tryd.prog 17 #[.string { data := #[115, 116, 100, 58, 32, 67, 40, 72, 67, 41, 42, 77, 63, 10, 98, 97, 100, 33, 58, 32, 91, 78, 72, 77, 93, 43] }] w fun e w' => ∃ a cap, e = .returned (.tuple #[.slice a 2 cap, .int .i64 0, .int .i64 0]) ∧ 2 ≤ cap ∧ cap ≤ maxLen ∧ Rs w' a 2 [x0, x1] ∧ Below w.heap.size w w' from by
    refine (parse_any txt m w (by decide) hm).mono ?_
    intro e w' hout
    rw [hp] at hout
    obtain ⟨a, len, cap, rfl, h1, h2, h3, h4⟩ := hout
    have e : len = 2 := h3.1.symm
    subst e
    exact ⟨a, cap, rfl, h1, h2, h3, h4⟩)
  have HBR := hide hbr
  have HKS := hide hks
  have HRG := hide hrg
  clear hp hbr hks hrg hm
  go_enter Tryd.func7, Tryd.ntmps7
  go_wp2_with fail
  refine HP.out.mono ?_
  rintro e w1 ⟨a, cap, rfl, hc1, hc2, hrs, hb1⟩
  have HRS := hide hrs
  have HB1 := hide hb1
  clear hrs hb1 HP
  go_wp2_with fail
  refine (cats_any chm w1 (by decide)).mono ?_
  intro e w2 hout
  unfold OutC at hout
  rw [if_pos chm_ok, chm_cats] at hout
  obtain ⟨a2, cap2, rfl, hd1, hd2, hwd, hb2⟩ := hout
  have hsz : chm.size = 3 := rfl
  rw [hsz] at hd1 ⊢
  have hrs2 := rs_below hb2 HRS.out
  obtain ⟨y0, b, off, k, s, a', l', c, rfl, hy0, p0, p1, p2, p3, p4, p5, p6⟩ := rs_open hrs2 (i := 0) (by omega)
  obtain ⟨y1, b1, off1, k1, s1, a1', l1', c1, he1, hy1, r0, r1, r2, r3, r4, r5, r6⟩ := rs_open hrs2 (i := 1) (by omega)
  have e0 : x0 = y0 := by simpa using hy0
  have e1 : x1 = y1 := by simpa using hy1
  subst e0; subst e1
  simp only [Option.some.injEq, Addr.mk.injEq, and_true] at he1
  obtain ⟨rfl, rfl⟩ := he1
  have hl3 : l' = 3 := (rx_kids p6).trans HKS.out
  subst hl3
  rw [HBR.out] at r4
  have HRS2 := hide hrs2
  have HWD := hide hwd
  have HB2 := hide (HB1.out.trans (hb2.mono HB1.out.size))
  simp only [Nat.zero_mul, Nat.add_zero, Nat.one_mul] at p3 r4
  clear hrs2 hwd hb2 p0 p1 p2 p4 p5 p6 r0 r1 r2 r3 r5 r6 hy0 hy1 HRS HB1
  go_wp2_with fail
  refine (rightG_any _ 2 cap [x0, x1] w2 hc1 hc2 HRS2.out).mono ?_
  rintro e w3 ⟨rfl, hb3⟩
  rw [HRG.out]
  have HWD3 := hide (wd_below hb3 HWD.out)
  have HB3 := hide (HB2.out.trans (hb3.mono HB2.out.size))
  clear hb3 p3 r4 HWD HB2 HRS2
  go_wp2_with fail
  refine (letter_cat 15 w3).mono ?_
  rintro e w4 ⟨rfl, hw⟩
  subst hw
  rw [let15]
  go_wp2_with fail
  refine (word_any a2 3 cap2 [1, 4, 5] _ rfl (by omega) HWD3.out).mono ?_
  rintro e w5 ⟨rfl, hb5⟩
  rw [chm_word]
  have HB5 := hide (HB3.out.trans (hb5.mono HB3.out.size))
  have hch : (chm.toList == ({ data := #[67, 72, 77] } : ByteArray).toList) = true := by unfold chm; simp
  clear hb5
  unfold chm
  go_wp2
  go_ret
  exact ⟨rfl, HB5.out⟩
end Go.Proofs.YtgjjmcgmdlfdaaaDoor.A
