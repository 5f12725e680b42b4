/- alive. -/
import Derived.Test.YtacfkdjpdgnohaaSd
namespace Go.Proofs.Ytacfkdjpdgnohaa.A
open Go.RowKit

theorem ex_turn_first {w : World} {y : Nd} {S : List Nat} (h : Tr w 3 (turnE 3 ex0) y S) : ∃ b c, y.a = some ⟨b, 0, none⟩ ∧ y.l = 2 ∧ y.c = c ∧ w.cell? ⟨b, 0, none⟩ = some (.int .u8 4) := by
  obtain ⟨h1, h2, h3, h4, h5, h6, h7, h8⟩ := h
  have hl : y.l = 2 := by rw [← h7]; rfl
  rcases h8 with ⟨h8, _⟩ | ⟨b, cs, ys, Ss, a1, a2, a3, a4, a5, a6, a7⟩
  · omega
  · refine ⟨b, _, a1, hl, rfl, ?_⟩
    have hy : ys[0]? = some (ys[0]'(by omega)) := by simp
    have hS : Ss[0]? = some (Ss[0]'(by omega)) := by simp
    obtain ⟨q0, _, _⟩ := cellsN_at ys 0 _ hy
    have ht := a7 0 _ _ _ (show (ks (turnE 3 ex0))[0]? = some ((4, 0, [(1, 4, [])]) : Ex 2) from rfl) hy hS
    have hk : (ys[0]'(by omega)).k = 4 := ht.1
    rw [hk] at q0
    rw [cell_of_row w b 0 cs 25 (0, 0) a2]
    rw [← a3] at q0
    have := List.getElem?_take_of_lt (l := cs.toList) (i := 0) (j := y.l * 3) (by omega)
    rw [show 0 * 3 = 0 from rfl, this] at q0
    simpa using q0
theorem field2 (w : World) (x y z : Value) : (Instr.field 25 (.agg #[x, y, z]) 2).run Try.prog w = .ok z w := by
  simp [Instr.field, run_underlying Try.underlying25, part, asAgg]
set_option maxRecDepth 100000 in
set_option maxHeartbeats 6400000 in
theorem alive_any (w : World) : Calls Try.prog 8 #[] w fun e w' => e = .returned (.bool true) ∧ Below w.heap.size w w' := by
  go_enter Try.func8, Try.ntmps8
  go_wp2_with fail
  refine (example_any w).mono ?_
  rintro e w1 ⟨y, S, rfl, ht, hS, hl, hb1⟩
  have bA : Below w1.heap.size w1 (w1.alloc (.cells #[.int .u8 y.k, .int .u16 y.s, .slice y.a y.l y.c] 25)) := (Below.refl _ w1).alloc (Nat.le_refl _) _
  have HT1 := hide (tr_keep 3 ex0 y S (fun b hb => bA.block b (tr_lt 3 ex0 y S ht b hb)) ht)
  have HS := hide hS
  have HB1 := hide (hb1.trans (bA.mono hb1.size))
  have HX := hide (box3 w1 (.int .u8 y.k) (.int .u16 y.s) (.slice y.a y.l y.c) 25)
  clear ht hS hl hb1 bA
  go_wp2_with fail
  obtain ⟨p0, p1, p2⟩ := HX.out
  clear HX
  generalize w1.alloc (.cells #[.int .u8 y.k, .int .u16 y.s, .slice y.a y.l y.c] 25) = A at *
  generalize w1.heap.size = q at *
  refine (right_any 3 ex0 _ A (tr_rx 3 ex0 y S HT1.out)).mono ?_
  rintro e w2 ⟨rfl, hb2⟩
  rw [ex_right]
  have r0 := (hb2.cell (p := ⟨q, 0, none⟩) (cell_lt p0)).trans p0
  have r1 := (hb2.cell (p := ⟨q, 1, none⟩) (cell_lt p1)).trans p1
  have r2 := (hb2.cell (p := ⟨q, 2, none⟩) (cell_lt p2)).trans p2
  have HT2 := hide (tr_keep 3 ex0 y S (fun b hb => hb2.block b (tr_lt 3 ex0 y S HT1.out b hb)) HT1.out)
  have HB2 := hide (HB1.out.trans (hb2.mono HB1.out.size))
  clear hb2 p0 p1 p2 HB1 HT1
  go_wp2_with fail
  refine (nodes_any 3 ex0 _ w2 (tr_rx 3 ex0 y S HT2.out)).mono ?_
  rintro e w3 ⟨rfl, hb3⟩
  rw [ex_nodes]
  have p0 := (hb3.cell (p := ⟨q, 0, none⟩) (cell_lt r0)).trans r0
  have p1 := (hb3.cell (p := ⟨q, 1, none⟩) (cell_lt r1)).trans r1
  have p2 := (hb3.cell (p := ⟨q, 2, none⟩) (cell_lt r2)).trans r2
  have HT3 := hide (tr_keep 3 ex0 y S (fun b hb => hb3.block b (tr_lt 3 ex0 y S HT2.out b hb)) HT2.out)
  have HB3 := hide (HB2.out.trans (hb3.mono HB2.out.size))
  clear hb3 r0 r1 r2 HB2 HT2
  go_wp2_with fail
  refine (deep_any 3 ex0 _ w3 (tr_rx 3 ex0 y S HT3.out)).mono ?_
  rintro e w4 ⟨rfl, hb4⟩
  rw [ex_deep]
  have r0 := (hb4.cell (p := ⟨q, 0, none⟩) (cell_lt p0)).trans p0
  have r1 := (hb4.cell (p := ⟨q, 1, none⟩) (cell_lt p1)).trans p1
  have r2 := (hb4.cell (p := ⟨q, 2, none⟩) (cell_lt p2)).trans p2
  have HT4 := hide (tr_keep 3 ex0 y S (fun b hb => hb4.block b (tr_lt 3 ex0 y S HT3.out b hb)) HT3.out)
  have HB4 := hide (HB3.out.trans (hb4.mono HB3.out.size))
  clear hb4 p0 p1 p2 HB3 HT3
  go_wp2_with fail
  refine (empty_any 3 ex0 _ w4 (tr_rx 3 ex0 y S HT4.out)).mono ?_
  rintro e w5 ⟨rfl, hb5⟩
  rw [ex_right, ex_empty]
  have p0 := (hb5.cell (p := ⟨q, 0, none⟩) (cell_lt r0)).trans r0
  have p1 := (hb5.cell (p := ⟨q, 1, none⟩) (cell_lt r1)).trans r1
  have p2 := (hb5.cell (p := ⟨q, 2, none⟩) (cell_lt r2)).trans r2
  have HT5 := hide (tr_keep 3 ex0 y S (fun b hb => hb5.block b (tr_lt 3 ex0 y S HT4.out b hb)) HT4.out)
  have HB5 := hide (HB4.out.trans (hb5.mono HB4.out.size))
  clear hb5 r0 r1 r2 HB4 HT4
  go_wp2_with fail
  refine (first_any 3 ex0 _ w5 (tr_rx 3 ex0 y S HT5.out)).mono ?_
  rintro e w6 ⟨rfl, hb6⟩
  rw [ex_first]
  have r0 := (hb6.cell (p := ⟨q, 0, none⟩) (cell_lt p0)).trans p0
  have r1 := (hb6.cell (p := ⟨q, 1, none⟩) (cell_lt p1)).trans p1
  have r2 := (hb6.cell (p := ⟨q, 2, none⟩) (cell_lt p2)).trans p2
  have HT6 := hide (tr_keep 3 ex0 y S (fun b hb => hb6.block b (tr_lt 3 ex0 y S HT5.out b hb)) HT5.out)
  have HB6 := hide (HB5.out.trans (hb6.mono HB5.out.size))
  clear hb6 p0 p1 p2 HB5 HT5
  go_wp2_with fail
  refine (same_yes 3 ex0 y S _ w6 HT6.out HS.out (tr_rx 3 ex0 y S HT6.out)).mono ?_
  rintro e w7 ⟨rfl, hb7⟩
  have p0 := (hb7.cell (p := ⟨q, 0, none⟩) (cell_lt r0)).trans r0
  have p1 := (hb7.cell (p := ⟨q, 1, none⟩) (cell_lt r1)).trans r1
  have p2 := (hb7.cell (p := ⟨q, 2, none⟩) (cell_lt r2)).trans r2
  have HT7 := hide (tr_keep 3 ex0 y S (fun b hb => hb7.block b (tr_lt 3 ex0 y S HT6.out b hb)) HT6.out)
  have HB7 := hide (HB6.out.trans (hb7.mono HB6.out.size))
  clear hb7 r0 r1 r2 HB6 HT6
  go_wp2_with fail
  refine (turned_yes 3 ex0 _ w7 (tr_rx 3 ex0 y S HT7.out) ex_right).mono ?_
  rintro e w8 ⟨z, U, rfl, ht8, -, -, hb8⟩
  obtain ⟨b, c, e1, e2, e3, e4⟩ := ex_turn_first ht8
  rw [e1, e2, e3]
  have HB8 := hide (HB7.out.trans (hb8.mono HB7.out.size))
  clear hb8 ht8 e1 e2 e3 p0 p1 p2
  have hfd := field2
  go_wp2
  go_ret
  exact ⟨rfl, HB8.out⟩
end Go.Proofs.Ytacfkdjpdgnohaa.A
