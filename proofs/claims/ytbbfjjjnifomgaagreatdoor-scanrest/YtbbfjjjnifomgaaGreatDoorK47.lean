/- A scanner is made. -/
import Derived.Deep.RegionLaw
import Derived.Deep.Cut
import Derived.Deep.CutRange
import Derived.Deep.AppendLies
import Derived.WalkKit
import Derived.ProofKit
import Derived.Outline
import Derived.BigQuiet
import Derived.Deep.QuietTactic
import Derived.Below
import Derived.Deep.RegionHeld3
import Derived.OpenShut
import Derived.Deep.Slices
import Derived.Deep.Strs
import Derived.Deep.OwnRows
import Derived.Deep.WholeRow
import Derived.Deep.Heap
import Derived.Laws.OwnMore
import Derived.Deep.AppendSrc
import Derived.Laws.AppendOwnNone
import Derived.Lib.SplitLaws
import Derived.WalkLawsBesides
import Derived.Laws.AppendOwn
import Derived.Shelf.Small.Strs
import Derived.Shelf.Strconv.Itoa0
import Derived.Shelf.Strconv.Itoa1
import Derived.Shelf.LaysM
import Derived.Shelf.Strconv.Itoa2
import Derived.Shelf.Strconv.Clone
import Derived.Shelf.Strings.Search1
import Derived.Shelf.Strings.Search2
import Derived.Shelf.Strings.Search3
import Derived.Shelf.Strings.Count
import Derived.Shelf.Strings.Shaped
import Derived.Shelf.Strconv.AppendUint10
import Derived.Shelf.Strconv.AppendInt10
import Derived.Shelf.Strconv.AppendIntPublic10
import Derived.Shelf.Strings.Split
import Derived.Shelf.Strings.SplitShaped
import Derived.Shelf.Bits.Mul64
import Derived.Shelf.Unicode.DecodeSlow
import Derived.Ground.Names2Prog
import Derived.Shelf.Slices.Clone
import Derived.Ground.SlgnProg
import Derived.Shelf.SlicesE.Clone
import Derived.OwnWalk
import Derived.Defers
import Derived.Recover
import Derived.Laws.IdiomStrings
import Derived.Laws.BytesArg
import Derived.Maps.OwnSet
import Derived.Maps.OwnOps
import Derived.Deep.MidRow
import Derived.LaidMore
import Derived.HandedShaped
import Derived.Shelf.Vars
import Derived.MakeChecks
import Derived.Stop.LaidErr
import Derived.Test.YtbbfjjjnifomgaaGreatDoorK1
import Derived.Test.YtbbfjjjnifomgaaGreatDoorK2
import Derived.Test.YtbbfjjjnifomgaaGreatDoorK3
import Derived.Test.YtbbfjjjnifomgaaGreatDoorK6
import Derived.Test.YtbbfjjjnifomgaaGreatDoorK8
import Derived.Test.YtbbfjjjnifomgaaGreatDoorK11
import Derived.Test.YtbbfjjjnifomgaaGreatDoorK13
import Derived.Test.YtbbfjjjnifomgaaGreatDoorK19
import Derived.Test.YtbbfjjjnifomgaaGreatDoorK21
import Derived.Test.YtbbfjjjnifomgaaGreatDoorK22
import Derived.Test.YtbbfjjjnifomgaaGreatDoorK24
import Derived.Test.YtbbfjjjnifomgaaGreatDoorK25
import Derived.Test.YtbbfjjjnifomgaaGreatDoorK29
import Derived.Test.YtbbfjjjnifomgaaGreatDoorK32
import Derived.Test.YtbbfjjjnifomgaaGreatDoorK39
import Derived.Test.YtbbfjjjnifomgaaGreatDoorK44
namespace Go.Proofs.YtbbfjjjnifomgaaGreatDoor.A
open Go.RowKit
set_option linter.unusedVariables false

theorem good_right : ∀ (l a : List Rl), goodL a l = true → ∀ x ∈ l, rightE x.n x.t = true
  | [], _, _, x, hx => by cases hx
  | y :: r, a, h, x, hx => by
    have h' : (umayB a y && goodL (a ++ [y]) r) = true := h
    rw [Bool.and_eq_true] at h'
    rcases List.mem_cons.1 hx with rfl | hx
    · have h1 := h'.1
      unfold umayB at h1
      simp only [Bool.and_eq_true] at h1
      exact h1.1.2
    · exact good_right r _ h'.2 x hx
theorem rightG_open {l : List Rl} (h : rightG l = true) : 1 ≤ l.length ∧ l.length ≤ 16 ∧ ∀ x ∈ l, rightE x.n x.t = true := by
  unfold rightG at h
  simp only [Bool.and_eq_true, decide_eq_true_eq] at h
  exact ⟨h.1.1, h.1.2, good_right l [] h.2⟩

theorem new_no (a : Option Addr) (len cap : Nat) (l : List Rl) (w : World) (hlc : len ≤ cap) (hcm : cap ≤ maxLen) (h : Rs w a len l) (hr : rightG l = false) :
    Calls Tryz.prog 14 #[.slice a len cap] w fun e w' => e = .returned (.pointer none) ∧ Below w.heap.size w w' := by
  have H := hide h
  have HR := hide hr
  clear h hr
  go_enter Tryz.func14, Tryz.ntmps14
  go_wp2_with fail
  refine (rightG_any a len cap l w hlc hcm H.out).mono ?_
  rintro e w1 ⟨rfl, hb1⟩
  rw [HR.out]
  have HB1 := hide hb1
  clear hb1
  go_wp2
  go_ret
  exact ⟨rfl, HB1.out⟩

theorem tr_type {w : World} : ∀ (n : Nat) (t : Ex n) (x : Nd) (S : List Nat), Tr w n t x S → ∀ b ∈ S, ∃ cs, w.heap[b]? = some (.cells cs 55 (0, 0))
  | 0, _, _, _, h => h.elim
  | n + 1, t, x, S, ⟨_, _, _, _, _, _, h7, h8⟩ => by
    rcases h8 with ⟨_, h8⟩ | ⟨b, cs, ys, Ss, _, a2, _, a4, a5, a6, a7⟩
    · intro b hb; rw [h8] at hb; cases hb
    · intro c hc
      rw [a6] at hc
      rcases List.mem_cons.1 hc with rfl | hc
      · exact ⟨cs, a2⟩
      · obtain ⟨T, hT, hc⟩ := List.mem_flatten.1 hc
        obtain ⟨i, hi⟩ := List.getElem?_of_mem hT
        have hlt := (List.getElem?_eq_some_iff.1 hi).1
        exact tr_type n (ks t)[i] ys[i] T (a7 i _ _ T (by simp) (by simp) hi) c hc

theorem three_newS (w : World) : ∀ j u, [(Value.int .u8 0), .int .u16 0, .slice none 0 0][j]? = some u → (w.alloc (.cells #[.int .u8 0, .int .u16 0, .slice none 0 0] 55)).cell? ((⟨w.heap.size, 0, none⟩ : Addr).add j) = some u := by
  intro j u hu
  match j, hu with
  | 0, hu => simp only [List.getElem?_cons_zero, Option.some.injEq] at hu; subst hu; simp [Addr.add]
  | 1, hu => simp only [List.getElem?_cons_succ, List.getElem?_cons_zero, Option.some.injEq] at hu; subst hu; simp [Addr.add]
  | 2, hu => simp only [List.getElem?_cons_succ, List.getElem?_cons_zero, Option.some.injEq] at hu; subst hu; simp [Addr.add]
  | j + 3, hu => simp at hu
theorem ones_zero : ∀ u ∈ [(Value.int .u8 0), .int .u16 0, .slice none 0 0], u.oneCell' = true := by
  intro u h
  simp only [List.mem_cons, List.not_mem_nil, or_false] at h
  rcases h with rfl | rfl | rfl <;> rfl

theorem set3 {l : List Value} {n : Nat} (h : l.length = n) (a b c x y z : Value) : (((l ++ [a, b, c]).set n x).set (n + 1) y).set (n + 2) z = l ++ [x, y, z] := by
  subst h
  simp [List.set_append_right]
/-- An expression more. -/
theorem new_next {q : Nat} {V W2 w3 : World} {ps : List (Rl × Nd)} {xv bv : Value} {x : Rl} {y : Nd} {T : List Nat} {g cap i : Nat} {bs : List Value} (hpl : ps.length = i)
    (hsk : Sk V q xv bv (.int .u32 0) (.int .i32 0) (.int .u32 0) (.slice none 0 0) (.slice none 0 0) 0 0) (hmk : Mkx (q + 1) V ps xv) (hbo : V.ownsRow (q + 1) 4 1 bv i bs) (hbV : q + 1 ≤ V.heap.size)
    (hb2 : Below V.heap.size V W2) (hT : Tr W2 x.n x.t y T) (hTl : ∀ b ∈ T, V.heap.size ≤ b)
    (hown : w3.ownsRow (q + 1) 55 3 (.slice (some ⟨g, 0, none⟩) (i + 1) cap) (i + 1) (cellsN (ps.map (·.2)) ++ [.int .u8 0, .int .u16 0, .slice none 0 0])) (hgrow : W2.grownBy w3 xv.ownBlock) (hat : xv.ownBlock = some g ∨ g = W2.heap.size) :
    ∃ wf, wf = (((w3.setCell ⟨g, i * 3, none⟩ (.int .u8 y.k)).setCell ⟨g, i * 3 + 1, none⟩ (.int .u16 y.s)).setCell ⟨g, i * 3 + 2, none⟩ (.slice y.a y.l y.c)).setCell ⟨q, 0, none⟩ (.slice (some ⟨g, 0, none⟩) (i + 1) cap) ∧
    Sk wf q (.slice (some ⟨g, 0, none⟩) (i + 1) cap) bv (.int .u32 0) (.int .i32 0) (.int .u32 0) (.slice none 0 0) (.slice none 0 0) 0 0 ∧ Mkx (q + 1) wf (ps ++ [(x, y)]) (.slice (some ⟨g, 0, none⟩) (i + 1) cap) ∧ wf.ownsRow (q + 1) 4 1 bv i bs ∧ Below q V wf ∧ q + 1 ≤ wf.heap.size ∧ ∀ b, b < V.heap.size → b ≠ q → (∀ cs, V.heap[b]? ≠ some (.cells cs 55 (0, 0))) → wf.heap[b]? = V.heap[b]? := by
  refine ⟨_, rfl, ?_⟩
  have hg := (own_type hown (k := g) rfl).1
  have hgq : g ≠ q := by omega
  have hxo : ∀ k, xv.ownBlock = some k → q + 1 ≤ k ∧ k < V.heap.size := fun k hk => by
    obtain ⟨h1, h2, -⟩ := own_type hmk.1 hk
    exact ⟨h1, h2⟩
  have hbo2 : ∀ k, bv.ownBlock = some k → k < V.heap.size ∧ xv.ownBlock ≠ some k := fun k hk => by
    obtain ⟨h1, h2, cs, h3⟩ := own_type hbo hk
    refine ⟨h2, fun e => ?_⟩
    obtain ⟨-, -, cs', h3'⟩ := own_type hmk.1 e
    rw [h3] at h3'
    simp at h3'
  have hne3 : ∀ k, bv.ownBlock = some k → k ≠ g := fun k hk e => by
    obtain ⟨h1, h2⟩ := hbo2 k hk
    rcases hat with hat | hat
    · exact h2 (by rw [hat, e])
    · have := hb2.size; omega
  have s2 := sk_below hsk hb2
  have s3 := sk_grown s2 hgrow (fun e => by have := (hxo q e.symm).1; omega)
  have hcl : (cellsN (ps.map (·.2))).length = i * 3 := by rw [cellsN_len]; simp [hpl]
  obtain ⟨o1, -⟩ := hown.stored (i * 3) (.int .u8 y.k)
  obtain ⟨o2, -⟩ := o1.stored (i * 3 + 1) (.int .u16 y.s)
  obtain ⟨o3, -⟩ := o2.stored (i * 3 + 2) (.slice y.a y.l y.c)
  rw [set3 hcl] at o3
  have o4 := set_far (q := q) (i := 0) (u := .slice (some ⟨g, 0, none⟩) (i + 1) cap) o3 (by simp [Value.ownBlock]; exact hgq)
  have hblk : ∀ b, b ≠ g → b ≠ q → ((((w3.setCell ⟨g, i * 3, none⟩ (.int .u8 y.k)).setCell ⟨g, i * 3 + 1, none⟩ (.int .u16 y.s)).setCell ⟨g, i * 3 + 2, none⟩ (.slice y.a y.l y.c)).setCell ⟨q, 0, none⟩ (.slice (some ⟨g, 0, none⟩) (i + 1) cap)).heap[b]? = w3.heap[b]? := fun b h1 h2 => by
    rw [Below.heap_setCell _ _ _ _ h2, Below.heap_setCell _ _ _ _ h1, Below.heap_setCell _ _ _ _ h1, Below.heap_setCell _ _ _ _ h1]
  have hsz : ((((w3.setCell ⟨g, i * 3, none⟩ (.int .u8 y.k)).setCell ⟨g, i * 3 + 1, none⟩ (.int .u16 y.s)).setCell ⟨g, i * 3 + 2, none⟩ (.slice y.a y.l y.c)).setCell ⟨q, 0, none⟩ (.slice (some ⟨g, 0, none⟩) (i + 1) cap)).heap.size = w3.heap.size := by simp
  refine ⟨?_, ?_, ?_, ?_, ?_, ?_⟩
  · have t1 := sk_other (sk_other (sk_other s3 (a := ⟨g, i * 3, none⟩) hgq (.int .u8 y.k)) (a := ⟨g, i * 3 + 1, none⟩) hgq (.int .u16 y.s)) (a := ⟨g, i * 3 + 2, none⟩) hgq (.slice y.a y.l y.c)
    exact sk_set t1 0 _
  · refine mkx_app (mkx_below hmk hb2) hT (fun b hb => ⟨by have := hTl b hb; omega, fun e => by have := (hxo b e).2; have := hTl b hb; omega⟩) hpl o4 (by rw [hsz]; exact hgrow.size) (fun b h0 h1 h2 h3 => ?_) (by rcases hat with h | h; exact .inl h; exact .inr (by omega))
    rw [hblk b h3 (by omega)]
    exact hgrow.block b h1 (fun e => h2 e.symm)
  · refine own_move hbo fun k hk => ?_
    obtain ⟨h1, h2⟩ := hbo2 k hk
    have h3 := (own_type hbo hk).1
    rw [hblk k (hne3 k hk) (by omega), hgrow.block k (by have := hb2.size; omega) (fun e => h2 e.symm), hb2.block k h1]
  · refine ⟨hgrow.os.trans hb2.os, hgrow.tape.trans hb2.tape, hgrow.output.trans hb2.output, by rw [hsz]; exact Nat.le_trans hb2.size hgrow.size, fun b hb => ?_⟩
    rw [hblk b (by omega) (by omega), hgrow.block b (by have := hb2.size; omega) (fun e => by have := (hxo b e.symm).1; omega), hb2.block b (by omega)]
  · rw [hsz]; have := hgrow.size; have := hb2.size; omega
  · intro b hb hbq hty
    have hxb : xv.ownBlock ≠ some b := fun e => by
      obtain ⟨-, -, cs, h⟩ := own_type hmk.1 e
      exact hty cs h
    have hbg : b ≠ g := fun e => by
      subst e
      rcases hat with hat | hat
      · exact hxb hat
      · have := hb2.size; omega
    rw [hblk b hbg hbq, hgrow.block b (by have := hb2.size; omega) (fun e => hxb e.symm), hb2.block b hb]
/-- A mark more. -/
theorem brk_next {q : Nat} {V W2 w3 : World} {ps : List (Rl × Nd)} {xv bv : Value} {br : Bool} {g cap i : Nat} {bs : List Value}
    (hsk : Sk V q xv bv (.int .u32 0) (.int .i32 0) (.int .u32 0) (.slice none 0 0) (.slice none 0 0) 0 0) (hmk : Mkx (q + 1) V ps xv) (hbo : V.ownsRow (q + 1) 4 1 bv i bs) (hbV : q + 1 ≤ V.heap.size)
    (hb2 : Below V.heap.size V W2)
    (hown : w3.ownsRow (q + 1) 4 1 (.slice (some ⟨g, 0, none⟩) (i + 1) cap) (i + 1) (bs ++ [.bool br])) (hgrow : W2.grownBy w3 bv.ownBlock) (hat : bv.ownBlock = some g ∨ g = W2.heap.size) :
    ∃ wf, wf = w3.setCell ⟨q, 1, none⟩ (.slice (some ⟨g, 0, none⟩) (i + 1) cap) ∧
    Sk wf q xv (.slice (some ⟨g, 0, none⟩) (i + 1) cap) (.int .u32 0) (.int .i32 0) (.int .u32 0) (.slice none 0 0) (.slice none 0 0) 0 0 ∧ Mkx (q + 1) wf ps xv ∧ wf.ownsRow (q + 1) 4 1 (.slice (some ⟨g, 0, none⟩) (i + 1) cap) (i + 1) (bs ++ [.bool br]) ∧ Below q V wf := by
  refine ⟨_, rfl, ?_⟩
  have hg := (own_type hown (k := g) rfl).1
  have hgq : g ≠ q := by omega
  have hxo : ∀ k, bv.ownBlock = some k → q + 1 ≤ k ∧ k < V.heap.size ∧ ∃ cs, V.heap[k]? = some (.cells cs 4 (0, 0)) := fun k hk => own_type hbo hk
  have s3 := sk_grown (sk_below hsk hb2) hgrow (fun e => by have := (hxo q e.symm).1; omega)
  have hk3 : ∀ b, q + 1 ≤ b → b < V.heap.size → (∀ cs, V.heap[b]? ≠ some (.cells cs 4 (0, 0))) → (w3.setCell ⟨q, 1, none⟩ (.slice (some ⟨g, 0, none⟩) (i + 1) cap)).heap[b]? = V.heap[b]? := fun b h1 h2 h3 => by
    rw [Below.heap_setCell _ _ _ _ (by show b ≠ q; omega), hgrow.block b (by have := hb2.size; omega) (fun e => by obtain ⟨-, -, cs, h⟩ := hxo b e.symm; exact h3 cs h), hb2.block b h2]
  refine ⟨sk_set s3 1 _, ⟨own_move hmk.1 fun k hk => ?_, fun p hp => ?_⟩, set_far hown (by simp [Value.ownBlock]; exact hgq), ?_⟩
  · obtain ⟨h1, h2, cs, h3⟩ := own_type hmk.1 hk
    exact hk3 k h1 h2 (fun cs' h => by rw [h3] at h; simp at h)
  · obtain ⟨S, hT, hS⟩ := hmk.2 p hp
    have hty := tr_type _ _ _ _ hT
    exact ⟨S, tr_keep _ _ _ _ (fun b hb => hk3 b (hS b hb).1 (hS b hb).2.1 (fun cs' h => by obtain ⟨cs, h'⟩ := hty b hb; rw [h] at h'; simp at h')) hT, fun b hb => ⟨(hS b hb).1, by have := (hS b hb).2.1; have := hb2.size; have := hgrow.size; simp; omega, (hS b hb).2.2⟩⟩
  · refine ⟨hgrow.os.trans hb2.os, hgrow.tape.trans hb2.tape, hgrow.output.trans hb2.output, by simpa using Nat.le_trans hb2.size hgrow.size, fun b hb => ?_⟩
    rw [Below.heap_setCell _ _ _ _ (by show b ≠ q; omega), hgrow.block b (by have := hb2.size; omega) (fun e => by have := (hxo b e.symm).1; omega), hb2.block b (by omega)]

set_option maxRecDepth 100000 in
set_option maxHeartbeats 25600000 in
theorem new_yes (a : Option Addr) (len cap : Nat) (l : List Rl) (w : World) (hlc : len ≤ cap) (hcm : cap ≤ maxLen) (h : Rs w a len l) (hr : rightG l = true) :
    Calls Tryz.prog 14 #[.slice a len cap] w fun e w' => ∃ q, e = .returned (.pointer (some ⟨q, 0, none⟩)) ∧ w.heap.size ≤ q ∧ Below w.heap.size w w' ∧ ScN w' q l := by
  obtain ⟨i0, hi0, hz0, hz1, hz2⟩ := info_parts info55
  obtain ⟨-, h16, hright⟩ := rightG_open hr
  have H := hide h
  have HR := hide hr
  have HRT := hide hright
  have HL := hide h.1
  rw [h.1] at h16
  unfold maxLen at hcm
  clear h hr hright
  go_enter Tryz.func14, Tryz.ntmps14
  go_wp2_with fail
  refine (rightG_any a len cap l w hlc (by unfold maxLen; omega) H.out).mono ?_
  rintro e w1 ⟨rfl, hb1⟩
  rw [HR.out]
  have HRS := hide (rs_below hb1 H.out)
  have HB1 := hide hb1
  have HSK := hide (show Sk (w1.alloc (.cells #[.slice none 0 0, .slice none 0 0, .int .u32 0, .int .i32 0, .int .u32 0, .slice none 0 0, .slice none 0 0, .int .i64 0, .int .i64 0] 87)) w1.heap.size (.slice none 0 0) (.slice none 0 0) (.int .u32 0) (.int .i32 0) (.int .u32 0) (.slice none 0 0) (.slice none 0 0) 0 0 from heap_alloc_last w1 _)
  have HRA := hide (rs_below ((Below.refl w1.heap.size w1).alloc (Nat.le_refl _) (.cells #[.slice none 0 0, .slice none 0 0, .int .u32 0, .int .i32 0, .int .u32 0, .slice none 0 0, .slice none 0 0, .int .i64 0, .int .i64 0] 87)) HRS.out)
  have HBA := hide ((Below.refl w1.heap.size w1).alloc (Nat.le_refl _) (.cells #[.slice none 0 0, .slice none 0 0, .int .u32 0, .int .i32 0, .int .u32 0, .slice none 0 0, .slice none 0 0, .int .i64 0, .int .i64 0] 87))
  clear hb1
  go_wp2_with fail
  generalize w1.alloc (.cells #[.slice none 0 0, .slice none 0 0, .int .u32 0, .int .i32 0, .int .u32 0, .slice none 0 0, .slice none 0 0, .int .i64 0, .int .i64 0] 87) = W at *
  obtain ⟨q, hq⟩ : ∃ q, w1.heap.size = q := ⟨_, rfl⟩
  rw [hq] at HSK HBA ⊢
  have HQ := hide hq
  clear hq
  go_loopw [13] (fun u wr => ∃ (i : Nat) (ps : List (Rl × Nd)) (xv bv : Value), i ≤ len ∧ u = .int .i64 i ∧ ps.map (·.1) = l.take i ∧ Sk wr q xv bv (.int .u32 0) (.int .i32 0) (.int .u32 0) (.slice none 0 0) (.slice none 0 0) 0 0 ∧ Mkx (q + 1) wr ps xv ∧ wr.ownsRow (q + 1) 4 1 bv i (brV (l.take i)) ∧ Below q w1 wr) (fun u _ => len - (intOf u).toNat)
  case atStart => exact ⟨0, [], _, _, Nat.zero_le _, rfl, rfl, HSK.out, mkx_nil _ _, World.ownsRow_nil _ _ _ _, HBA.out⟩
  case round =>
    obtain ⟨i, ps, xv, bv, hi, rfl, hps, hsk, hmk, hbo, hb⟩ := hrel
    by_cases hlt : i < len
    · have hrs := rs_below (w' := wr) (by rw [HQ.out]; exact hb) HRS.out
      obtain ⟨x, b, off, k, s, a', l', c, rfl, hx, p0, p1, p2, p3, p4, p5, p6⟩ := rs_open hrs hlt
      have hbA := (Below.refl wr.heap.size wr).alloc (Nat.le_refl _) (.cells #[.string x.nm, .int .u8 k, .int .u16 s, .slice a' l' c, .bool x.br] 57)
      have hsr : shapesE x.n x.t = true ∧ realN x.n x.t ≤ 100 := by
        obtain ⟨r1, _, r3⟩ := (right_iff (rx_full _ _ _ p6)).1 (HRT.out x (List.mem_of_getElem? hx))
        exact ⟨r3, by omega⟩
      have HSR := hide hsr
      have HX := hide (rx_below hbA x.n x.t _ p6)
      have HST := hide (st5_new wr x.nm k s a' l' c x.br)
      have HSKA := hide (sk_below hsk hbA)
      have HMKA := hide (mkx_below hmk hbA)
      have HBO := hide (own_up hbo (w' := wr.alloc (.cells #[.string x.nm, .int .u8 k, .int .u16 s, .slice a' l' c, .bool x.br] 57)) fun k _ hk => hbA.block k hk)
      have HBV := hide (hb.alloc (by have := hb.size; have := HQ.out; omega) (.cells #[.string x.nm, .int .u8 k, .int .u16 s, .slice a' l' c, .bool x.br] 57))
      have HTK := hide (take_at hx)
      have HPS := hide hps
      have HXM := hide (List.mem_of_getElem? hx)
      have HPL := hide (show ps.length = i by have := congrArg List.length hps; rw [List.length_map, List.length_take, HL.out] at this; omega)
      have HSZ := hide (show q + 1 ≤ (wr.alloc (.cells #[.string x.nm, .int .u8 k, .int .u16 s, .slice a' l' c, .bool x.br] 57)).heap.size by have := sk_lt hsk; simp; omega)
      have i3 : (0 : Int) ≤ (i : Int) := by omega
      have i4 : (i : Int) < (len : Int) := by omega
      obtain ⟨xa, xc, rfl⟩ := own_form hmk.1
      have HZQ := hide (show wr.heap.size ≠ q by have := sk_lt hsk; omega)
      clear hx p6 hb hrs hbA hps hsk hmk hbo hsr
      go_wp2_with fail
      generalize wr.alloc (.cells #[.string x.nm, .int .u8 k, .int .u16 s, .slice a' l' c, .bool x.br] 57) = V at *
      obtain ⟨z, hz⟩ : ∃ z, wr.heap.size = z := ⟨_, rfl⟩
      rw [hz] at HST HZQ ⊢
      clear hz p0 p1 p2 p3 p4 p5
      go_cut [] from 17 to 30 (fun wx => ∃ (y : Nd) (xa' : Option Addr) (xc' : Nat), Sk wx q (.slice xa' (i + 1) xc') bv (.int .u32 0) (.int .i32 0) (.int .u32 0) (.slice none 0 0) (.slice none 0 0) 0 0 ∧ Mkx (q + 1) wx (ps ++ [(x, y)]) (.slice xa' (i + 1) xc') ∧ wx.ownsRow (q + 1) 4 1 bv i (brV (l.take i)) ∧ Below q V wx ∧ q + 1 ≤ wx.heap.size ∧ St5 wx z x.nm k s a' l' c x.br)
      case first =>
        have hsk0 := HSKA.out
        have hmk0 := HMKA.out
        rw [HPL.out] at hsk0 hmk0
        have HSK0 := hide hsk0
        have HMK0 := hide hmk0
        clear hsk0 hmk0
        obtain ⟨s0, s1, s2, s3, s4, -⟩ := st5_cells HST.out
        obtain ⟨r0, r1, -⟩ := sk_cells HSKA.out
        have rz := sk_free HSKA.out 0
        rw [HPL.out] at r0
        clear s0 r1
        have HCL := hide (fun (w2 : World) (hb2 : Below V.heap.size V w2) => show w2.cell? ⟨q, 0, none⟩ = some (.slice xa i xc) ∧ w2.frozen? ⟨q, 0, none⟩ = false from by
          have t := sk_below HSKA.out hb2
          rw [HPL.out] at t
          exact ⟨(sk_cells t).1, sk_free t 0⟩)
        have HOW := hide (fun (w2 : World) (hb2 : Below V.drew.heap.size V.drew w2) => show (w2.alloc (.cells #[.int .u8 0, .int .u16 0, .slice none 0 0] 55)).ownsRow (q + 1) 55 3 (.slice xa i xc) i (cellsN (ps.map (·.2))) ∧ (∀ j u, [(Value.int .u8 0), .int .u16 0, .slice none 0 0][j]? = some u → (w2.alloc (.cells #[.int .u8 0, .int .u16 0, .slice none 0 0] 55)).cell? ((⟨w2.heap.size, 0, none⟩ : Addr).add j) = some u) ∧ q + 1 ≤ (w2.alloc (.cells #[.int .u8 0, .int .u16 0, .slice none 0 0] 55)).heap.size ∧ (w2.alloc (.cells #[.int .u8 0, .int .u16 0, .slice none 0 0] 55)).heap.size = w2.heap.size + 1 from
          ⟨by have := (own_below HMKA.out.1 ((ubelow_drew1 V).trans hb2)).alloc (.cells #[.int .u8 0, .int .u16 0, .slice none 0 0] 55); rw [HPL.out] at this; exact this, three_newS w2, by have := hb2.size; have := HSZ.out; simp at *; omega, by simp⟩)
        have HSW := hide (fun (W2 : World) (hbW : Below V.heap.size V W2) (g cp : Nat) (w3 : World) (hown : w3.ownsRow (q + 1) 55 3 (.slice (some ⟨g, 0, none⟩) (i + 1) cp) (i + 1) (cellsN (ps.map (·.2)) ++ [.int .u8 0, .int .u16 0, .slice none 0 0])) (hgrow : W2.grownBy w3 (Value.slice xa i xc).ownBlock) =>
          show (w3.cell? ⟨g, i * 3, none⟩ = some (.int .u8 0) ∧ w3.cell? ⟨g, i * 3 + 1, none⟩ = some (.int .u16 0) ∧ w3.cell? ⟨g, i * 3 + 2, none⟩ = some (.slice none 0 0)) ∧ (w3.frozen? ⟨g, i * 3, none⟩ = false ∧ w3.frozen? ⟨g, i * 3 + 1, none⟩ = false ∧ w3.frozen? ⟨g, i * 3 + 2, none⟩ = false) ∧ w3.cell? ⟨q, 0, none⟩ = some (.slice xa i xc) ∧ w3.frozen? ⟨q, 0, none⟩ = false ∧ g ≠ q from by
            have hcl : (cellsN (ps.map (·.2))).length = i * 3 := by rw [cellsN_len]; simp [HPL.out]
            have t2 := sk_grown (sk_below HSKA.out hbW) hgrow (fun e => by
              have h := HMKA.out.1
              rw [HPL.out] at h
              have := (own_type h e.symm).1; omega)
            rw [HPL.out] at t2
            have hg := (own_type hown (k := g) rfl).1
            refine ⟨⟨?_, ?_, ?_⟩, ⟨hown.frozenAt _, hown.frozenAt _, hown.frozenAt _⟩, (sk_cells t2).1, sk_free t2 0, by omega⟩
            · rw [hown.cellAt _ (by omega), List.getElem?_append_right (by omega), hcl]; simp
            · rw [hown.cellAt _ (by omega), List.getElem?_append_right (by omega), hcl]; simp
            · rw [hown.cellAt _ (by omega), List.getElem?_append_right (by omega), hcl]; simp)
        have i5 : (i : Int) < ((i + 1 : Nat) : Int) := by omega
        have i6 : (i : Int) < (i : Int) + 1 := by omega
        have HOA := hide (fun (w2 : World) (hb2 : Below (V.alloc (.cells #[.int .u8 0, .int .u16 0, .slice none 0 0] 55)).drew.heap.size (V.alloc (.cells #[.int .u8 0, .int .u16 0, .slice none 0 0] 55)).drew w2) => show w2.ownsRow (q + 1) 55 3 (.slice xa i xc) i (cellsN (ps.map (·.2))) ∧ (∀ j u, [(Value.int .u8 0), .int .u16 0, .slice none 0 0][j]? = some u → w2.cell? ((⟨V.heap.size, 0, none⟩ : Addr).add j) = some u) ∧ q + 1 ≤ w2.heap.size from by
          have hV : Below V.heap.size V w2 := Below.trans (((Below.refl V.heap.size V).alloc (Nat.le_refl _) _).drew) (hb2.mono (by simp))
          refine ⟨by have := own_below HMKA.out.1 hV; rw [HPL.out] at this; exact this, fun j u hu => ?_, by have := hV.size; have := HSZ.out; omega⟩
          have h := three_newS V j u hu
          exact (hb2.cell (p := (⟨V.heap.size, 0, none⟩ : Addr).add j) (by simp [Addr.add]; split <;> simp)).trans h)
        have v1 := cell_allocU s1 (.cells #[.int .u8 0, .int .u16 0, .slice none 0 0] 55)
        have v2 := cell_allocU s2 (.cells #[.int .u8 0, .int .u16 0, .slice none 0 0] 55)
        have v3 := cell_allocU s3 (.cells #[.int .u8 0, .int .u16 0, .slice none 0 0] 55)
        have v0 := cell_allocU r0 (.cells #[.int .u8 0, .int .u16 0, .slice none 0 0] 55)
        go_region_law ((first
          | (refine step_append_lies _ (by rfl) (.tmp 20) (.tmp 25) 50 (by rfl) (q + 1) 55 i0 (.agg #[.int .u8 0, .int .u16 0, .slice none 0 0]) 3 32 Tryz.underlying50 hi0 hz0 hz1 hz2 rfl (by omega) (.slice xa i xc) i (cellsN (ps.map (·.2))) (by rfl) (HOW.out w2 hb2).1 ⟨w2.heap.size, 0, none⟩ 1 1 [.int .u8 0, .int .u16 0, .slice none 0 0] (by rfl) rfl (HOW.out w2 hb2).2.1 ones_zero (by omega) (by unfold maxLen; omega) (by omega) (HOW.out w2 hb2).2.2.1 _ (HOW.out w2 hb2).2.2.2 ?_; intro g cap' w3 hown3 hgrow3 hat3 hlt3; obtain ⟨W2, c1, c2, c3, c4, c5⟩ : ∃ W2, Below V.heap.size V W2 ∧ Tr W2 x.n x.t y T ∧ W2.grownBy w3 (Value.slice xa i xc).ownBlock ∧ ((Value.slice xa i xc).ownBlock = some g ∨ g = W2.heap.size) ∧ ∀ b ∈ T, V.heap.size ≤ b := ⟨w2.alloc (.cells #[.int .u8 0, .int .u16 0, .slice none 0 0] 55), hbV.alloc (by have := hbV.size; simpa using this) _, tr_alloc hT1 _, hgrow3, by simpa using hat3, fun b hb => by have := hT3 b hb; simp at this; omega⟩; clear hgrow3 hat3; obtain ⟨⟨g1, g2, g3⟩, ⟨f1, f2, f3⟩, g4, f4, gne⟩ := HSW.out _ c1 g cap' w3 hown3 c3; have gnq := Ne.symm gne)
          | (refine step_append_lies _ (by rfl) (.tmp 20) (.tmp 25) 50 (by rfl) (q + 1) 55 i0 (.agg #[.int .u8 0, .int .u16 0, .slice none 0 0]) 3 32 Tryz.underlying50 hi0 hz0 hz1 hz2 rfl (by omega) (.slice xa i xc) i (cellsN (ps.map (·.2))) (by rfl) (HOA.out w2 hb2).1 ⟨V.heap.size, 0, none⟩ 1 1 [.int .u8 0, .int .u16 0, .slice none 0 0] (by rfl) rfl (HOA.out w2 hb2).2.1 ones_zero (by omega) (by unfold maxLen; omega) (by omega) (HOA.out w2 hb2).2.2 _ rfl ?_; intro g cap' w3 hown3 hgrow3 hat3 hlt3; obtain ⟨W2, c1, c2, c3, c4, c5⟩ : ∃ W2, Below V.heap.size V W2 ∧ Tr W2 x.n x.t y T ∧ W2.grownBy w3 (Value.slice xa i xc).ownBlock ∧ ((Value.slice xa i xc).ownBlock = some g ∨ g = W2.heap.size) ∧ ∀ b ∈ T, V.heap.size ≤ b := ⟨w2, hbV, hT1, hgrow3, hat3, fun b hb => by have := hT3 b hb; simp at this; omega⟩; clear hgrow3 hat3; obtain ⟨⟨g1, g2, g3⟩, ⟨f1, f2, f3⟩, g4, f4, gne⟩ := HSW.out _ c1 g cap' w3 hown3 c3; have gnq := Ne.symm gne)
          | (go_simp; go_at_call 32; refine (sdup_any x.n x.t _ _ (rx_below (by refine Below.drew ?_; first | exact Below.refl _ _ | exact (Below.refl _ _).alloc (Nat.le_refl _) _) x.n x.t _ HX.out) HSR.out.1 HSR.out.2).mono ?_; rintro e w2 ⟨y, T, rfl, hT1, hT2, hT3, hb2⟩; have hbV : Below V.heap.size V w2 := Below.trans (by refine Below.drew ?_; first | exact Below.refl _ _ | exact (Below.refl _ _).alloc (Nat.le_refl _) _) (hb2.mono (by simp)); obtain ⟨u1, u2⟩ := HCL.out w2 hbV; have u3 := cell_allocU u1 (.cells #[.int .u8 0, .int .u16 0, .slice none 0 0] 55); go_simp)))
        all_goals
          obtain ⟨wf, hwf, k1, k2, k3, k4, k5, k6⟩ := new_next (x := x) (y := y) HPL.out HSK0.out HMK0.out HBO.out HSZ.out c1 c2 c5 hown3 c3 c4
          have k7 := (k6 z (st5_lt HST.out) HZQ.out (fun cs h => by have h0 := HST.out; unfold St5 at h0; rw [h0] at h; simp at h)).trans HST.out
          have hcm := set_swap3 w3 gnq 0 (i * 3) (i * 3 + 1) (i * 3 + 2) (.slice (some ⟨g, 0, none⟩) (i + 1) cap') (.int .u8 y.k) (.int .u16 y.s) (.slice y.a y.l y.c)
          have HK := hide (And.intro hwf (And.intro hcm (And.intro k1 (And.intro k2 (And.intro k3 (And.intro k4 (And.intro k5 k7)))))))
          clear hwf hcm k1 k2 k3 k4 k5 k6 k7 c1 c2 c3 c4 c5 hown3 hT1 hT2 hT3
          go_wp2_with fail
          go_meet
          obtain ⟨hwf, hcm, k1, k2, k3, k4, k5, k7⟩ := HK.out
          try rw [hcm]
          rw [← hwf]
          exact ⟨y, _, _, k1, k2, k3, k4, k5, k7⟩
      case rest =>
      obtain ⟨U, rfl⟩ : ∃ y, y = wc := ⟨_, rfl⟩
      obtain ⟨y, xa', xc', hsk1, hmk1, hbo1, hb1, hsz1, hst1⟩ := hcut
      obtain ⟨ba, bc, rfl⟩ := own_form hbo1
      have HSK1 := hide hsk1
      have HMK1 := hide hmk1
      have HBO1 := hide hbo1
      have HBU := hide (HBV.out.trans hb1)
      have HSZ1 := hide hsz1
      obtain ⟨-, r1, -⟩ := sk_cells hsk1
      have rz := sk_free hsk1 1
      obtain ⟨-, -, -, -, s4, -⟩ := st5_cells hst1
      have v1 := cell_allocU r1 (.cells #[.bool x.br] 4)
      have v4 := cell_allocU s4 (.cells #[.bool x.br] 4)
      clear hsk1 hmk1 hbo1 hb1 hsz1 hst1
      obtain ⟨ib, hib, hzb, hsb, hbb⟩ := info_parts (show (Tryz.prog.info? 4).map (fun i => (i.zero, i.size, i.bytes)) = some (some (.bool false), 1, 1) by kernel_rfl)
      have HWB := hide (show Below U.heap.size U (U.alloc (.cells #[.bool x.br] 4)).drew from ((Below.refl U.heap.size U).alloc (Nat.le_refl _) _).drew)
      have HOB := hide (show (U.alloc (.cells #[.bool x.br] 4)).drew.ownsRow (q + 1) 4 1 (.slice ba i bc) i (brV (l.take i)) ∧ (∀ j u, [Value.bool x.br][j]? = some u → (U.alloc (.cells #[.bool x.br] 4)).drew.cell? ((⟨U.heap.size, 0, none⟩ : Addr).add j) = some u) ∧ q + 1 ≤ (U.alloc (.cells #[.bool x.br] 4)).drew.heap.size from
        ⟨own_below HBO1.out HWB.out, fun j u hu => by
          match j, hu with
          | 0, hu => simp only [List.getElem?_cons_zero, Option.some.injEq] at hu; subst hu; simp [Addr.add]
          | j + 1, hu => simp at hu, by have := HSZ1.out; simp; omega⟩)
      have HSB := hide (fun (w3 : World) (hgrow : (U.alloc (.cells #[.bool x.br] 4)).drew.grownBy w3 (Value.slice ba i bc).ownBlock) => show w3.cell? ⟨q, 1, none⟩ = some (.slice ba i bc) ∧ w3.frozen? ⟨q, 1, none⟩ = false from by
        have t := sk_grown (sk_below HSK1.out HWB.out) hgrow (fun e => by have := (own_type HBO1.out e.symm).1; omega)
        exact ⟨(sk_cells t).2.1, sk_free t 1⟩)
      go_wp2_with fail
      go_region_law ((first
        | (refine step_append_lies _ (by rfl) (.tmp 34) (.tmp 37) 70 (by rfl) (q + 1) 4 ib (.bool false) 1 1 Tryz.underlying70 hib hzb hsb hbb rfl (by omega) (.slice ba i bc) i (brV (l.take i)) (by rfl) HOB.out.1 ⟨U.heap.size, 0, none⟩ 1 1 [.bool x.br] (by rfl) rfl HOB.out.2.1 (fun u hu => by simp only [List.mem_cons, List.not_mem_nil, or_false] at hu; subst hu; rfl) (by omega) (by unfold maxLen; omega) (by omega) HOB.out.2.2 _ rfl ?_; intro g cap' w3 hown3 hgrow3 hat3 hlt3; obtain ⟨g4, f4⟩ := HSB.out w3 hgrow3)))
      all_goals
        obtain ⟨wf, hwf, k1, k2, k3, k4⟩ := brk_next (br := x.br) HSK1.out HMK1.out HBO1.out HSZ1.out HWB.out hown3 hgrow3 hat3
        have hlast : brV (l.take i) ++ [.bool x.br] = brV (l.take (i + 1)) := by rw [HTK.out]; simp [brV]
        have hpsn : (ps ++ [(x, y)]).map (·.1) = l.take (i + 1) := by rw [List.map_append, HPS.out, HTK.out]; rfl
        rw [hlast] at k3
        subst hwf
        go_wp2
        go_roundw
        case rel => exact ⟨i + 1, ps ++ [(x, y)], _, _, by omega, by go_num, hpsn, k1, k2, k3, HBU.out.trans k4⟩
        case measure => simp [intOf]; omega
    · have e : i = len := by omega
      subst e
      have HT := hide (show l.take i = l from List.take_of_length_le (by have := HL.out; omega))
      have HF := hide (show ScN wr q l from ⟨ps, xv, bv, by rw [hps, HT.out], hsk, hmk, by rw [HT.out] at hbo; rw [HL.out]; exact hbo⟩)
      have HBF := hide (show Below w.heap.size w wr from HB1.out.trans (hb.mono (by rw [← HQ.out]; exact HB1.out.size)))
      have HQF := hide (show w.heap.size ≤ q by rw [← HQ.out]; exact HB1.out.size)
      clear hps hsk hmk hbo hb
      go_wp2
      go_ret
      exact ⟨q, rfl, HQF.out, HBF.out, HF.out⟩
end Go.Proofs.YtbbfjjjnifomgaaGreatDoor.A

