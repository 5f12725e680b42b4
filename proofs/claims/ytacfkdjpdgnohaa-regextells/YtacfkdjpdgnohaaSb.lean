/- The program's Same, where one of the two lies in memory of its own. -/
import Derived.Test.YtacfkdjpdgnohaaSa
namespace Go.Proofs.Ytacfkdjpdgnohaa.A
open Go.RowKit

theorem mts_at {w0 w : World} {V : Nat → Prop} {es : List MapEntry} (h : Mts w0 V es) (hb : Below w0.heap.size w0 w) : Mts w V es := fun e he => by
  obtain ⟨g, b, n, c, t, h1, h2, h3⟩ := h e he
  exact ⟨g, b, n, c, t, h1, h2, (hb.block g (Array.getElem?_eq_some_iff.1 h3).1).trans h3⟩
/-- What Same's inner function leans on: the map of what was met, and itself. -/
def Env (w0 w : World) (p f m : Nat) (V : Nat → Prop) : Prop :=
  Below w0.heap.size w0 w ∧ w0.heap.size ≤ m ∧ m ≠ p ∧ m ≠ f ∧ w.heap[p]? = some (.cells #[.map (some m)] 43 (0, 0)) ∧ w.heap[f]? = some (.cells #[.func (.func 31) #[] #[.pointer (some ⟨p, 0, none⟩), .pointer (some ⟨f, 0, none⟩)]] 35 (0, 0)) ∧
    ∃ es clock, w.heap[m]? = some (.map es clock) ∧ (∀ e ∈ es.toList, e.born < clock) ∧ Mts w0 V es.toList
theorem heap_lt {w : World} {i : Nat} {o : Obj} (h : w.heap[i]? = some o) : i < w.heap.size := (Array.getElem?_eq_some_iff.1 h).1
theorem env_below {w0 w w1 : World} {p f m : Nat} {V : Nat → Prop} (h : Env w0 w p f m V) (hb : Below w.heap.size w w1) : Env w0 w1 p f m V := by
  obtain ⟨h1, h2, h3, h4, h5, h6, es, clock, h7, h8, h9⟩ := h
  exact ⟨h1.trans (hb.mono h1.size), h2, h3, h4, (hb.block p (heap_lt h5)).trans h5, (hb.block f (heap_lt h6)).trans h6, es, clock, (hb.block m (heap_lt h7)).trans h7, h8, h9⟩
theorem env_mono {w0 w : World} {p f m : Nat} {V V' : Nat → Prop} (h : Env w0 w p f m V) (hV : ∀ g, V g → V' g) : Env w0 w p f m V' := by
  obtain ⟨h1, h2, h3, h4, h5, h6, es, clock, h7, h8, h9⟩ := h
  exact ⟨h1, h2, h3, h4, h5, h6, es, clock, h7, h8, fun e he => by obtain ⟨g, b, n, c, t, a1, a2, a3⟩ := h9 e he; exact ⟨g, b, n, c, t, a1, hV g a2, a3⟩⟩
theorem env_cells {w0 w : World} {p f m : Nat} {V : Nat → Prop} (h : Env w0 w p f m V) : w.cell? ⟨p, 0, none⟩ = some (.map (some m)) ∧ w.cell? ⟨f, 0, none⟩ = some (.func (.func 31) #[] #[.pointer (some ⟨p, 0, none⟩), .pointer (some ⟨f, 0, none⟩)]) := by
  obtain ⟨_, _, _, _, h5, h6, _⟩ := h
  constructor
  · simp [World.cell?, h5]
  · simp [World.cell?, h6]

theorem set_same {w : World} {m : Nat} {o o' : Obj} (h : w.heap[m]? = some o) : (ChangeMaps.setBlock w m o').heap[m]? = some o' := by
  have := heap_lt h
  simp [ChangeMaps.setBlock, this]
theorem set_other {w : World} {m j : Nat} {o' : Obj} (h : j ≠ m) : (ChangeMaps.setBlock w m o').heap[j]? = w.heap[j]? := by
  simp [ChangeMaps.setBlock, h.symm]
/-- A list that was not met is met: 'met[lists]++', and what it tells then. -/
theorem env_step {w0 X : World} {p f m : Nat} {V : Nat → Prop} (henv : Env w0 X p f m V) {g : Nat} {cs : Array Value} (hg : w0.heap[g]? = some (.cells cs 25 (0, 0))) (hV : ¬ V g) (b : Addr) (n : Nat) : ∃ (clock : Nat) (Y Z : World),
    (Instr.lookup 43 (.map (some m)) (key3 ⟨g, 0, none⟩ b n) false).run Try.prog X = .ok (.int .i64 0) X ∧
    (Instr.mapEntry 43 (.map (some m)) (key3 ⟨g, 0, none⟩ b n)).run Try.prog X = .ok (.tuple #[.int .i64 0, .int .i64 clock]) Y ∧
    (Instr.lookup 43 (.map (some m)) (key3 ⟨g, 0, none⟩ b n) false).run Try.prog Y = .ok (.int .i64 0) Y ∧
    (Instr.entryStore 43 (.map (some m)) (.int .i64 clock) (.int .i64 1)).run Try.prog Y = .ok () Z ∧
    (Instr.lookup 43 (.map (some m)) (key3 ⟨g, 0, none⟩ b n) false).run Try.prog Z = .ok (.int .i64 1) Z ∧
    Env w0 Z p f m (fun j => V j ∨ j = g) ∧ (∀ j, j ≠ m → Z.heap[j]? = X.heap[j]?) := by
  obtain ⟨h1, h2, h3, h4, h5, h6, es, clock, h7, h8, h9⟩ := henv
  have hgl : g < w0.heap.size := heap_lt hg
  have hgm : g ≠ m := by omega
  have gX : X.heap[g]? = some (.cells cs 25 (0, 0)) := (h1.block g hgl).trans hg
  have eX := mts_at h9 h1
  have Y1 := set_same (o' := .map (es.push ⟨key3 ⟨g, 0, none⟩ b n, .int .i64 0, clock⟩) (clock + 1)) h7
  have bY : Below w0.heap.size w0 (ChangeMaps.setBlock X m (.map (es.push ⟨key3 ⟨g, 0, none⟩ b n, .int .i64 0, clock⟩) (clock + 1))) := ⟨h1.os, h1.tape, h1.output, by simpa [ChangeMaps.setBlock] using h1.size, fun j hj => (set_other (by omega)).trans (h1.block j hj)⟩
  have gY := (bY.block g hgl).trans hg
  have Z1 := set_same (o' := .map (es.push ⟨key3 ⟨g, 0, none⟩ b n, .int .i64 1, clock⟩) (clock + 1)) Y1
  have bZ : Below w0.heap.size w0 (ChangeMaps.setBlock (ChangeMaps.setBlock X m (.map (es.push ⟨key3 ⟨g, 0, none⟩ b n, .int .i64 0, clock⟩) (clock + 1))) m (.map (es.push ⟨key3 ⟨g, 0, none⟩ b n, .int .i64 1, clock⟩) (clock + 1))) := ⟨bY.os, bY.tape, bY.output, by simpa [ChangeMaps.setBlock] using h1.size, fun j hj => (set_other (by omega)).trans (bY.block j hj)⟩
  have gZ := (bZ.block g hgl).trans hg
  refine ⟨clock, _, _, look_none X h7 gX hV eX b n, entry_none X h7 gX hV eX b n, look_last _ Y1 gY hV (mts_at h9 bY), store_last _ Y1 h8 _, look_last _ Z1 gZ hV (mts_at h9 bZ), ?_, fun j hj => (set_other hj).trans (set_other hj)⟩
  refine ⟨bZ, h2, h3, h4, (set_other h3.symm).trans ((set_other h3.symm).trans h5), (set_other h4.symm).trans ((set_other h4.symm).trans h6), _, _, Z1, ?_, ?_⟩
  · intro e he
    rw [Array.toList_push, List.mem_append, List.mem_singleton] at he
    rcases he with he | rfl
    · have := h8 e he; omega
    · exact Nat.lt_succ_self _
  · intro e he
    rw [Array.toList_push, List.mem_append, List.mem_singleton] at he
    rcases he with he | rfl
    · obtain ⟨g', b', n', c, t, a1, a2, a3⟩ := h9 e he
      exact ⟨g', b', n', c, t, a1, .inl a2, a3⟩
    · exact ⟨g, b, n, cs, 25, rfl, .inr rfl, hg⟩
/-- What the inner function tells of two that are alike. -/
def Alike (w0 : World) (p f m n : Nat) : Prop := ∀ (t : Ex n) (x : Nd) (S : List Nat) (v : Value) (V : Nat → Prop) (w : World), Tr w0 n t x S → S.Nodup → (∀ b ∈ S, ¬ V b) → Rx w0 n t v → Env w0 w p f m V →
  Calls Try.prog 31 #[x.val, v, .pointer (some ⟨p, 0, none⟩), .pointer (some ⟨f, 0, none⟩)] w fun e w' => e = .returned (.bool true) ∧ Env w0 w' p f m (fun g => V g ∨ g ∈ S)

theorem flat_take {Ss : List (List Nat)} {i : Nat} {T : List Nat} (h : Ss[i]? = some T) : (Ss.take (i + 1)).flatten = (Ss.take i).flatten ++ T := by
  rw [take_at h, List.flatten_append]; simp
theorem flat_apart {Ss : List (List Nat)} {i : Nat} {T : List Nat} (h : Ss[i]? = some T) (hn : Ss.flatten.Nodup) : T.Nodup ∧ ∀ b ∈ T, b ∉ (Ss.take i).flatten := by
  obtain ⟨hi, e⟩ := List.getElem?_eq_some_iff.1 h
  have e2 : Ss = Ss.take i ++ (T :: Ss.drop (i + 1)) := by
    rw [← e, ← List.drop_eq_getElem_cons hi, List.take_append_drop]
  rw [e2, List.flatten_append, List.flatten_cons] at hn
  obtain ⟨_, h2, h3⟩ := List.nodup_append.1 hn
  exact ⟨(List.nodup_append.1 h2).1, fun b hb q => h3 b q b (by simp [hb]) rfl⟩

set_option maxRecDepth 100000 in
set_option maxHeartbeats 3200000 in
theorem equalFunc_any (w0 : World) (p f m n : Nat) (ih : Alike w0 p f m n) (g len cap : Nat) (cs : Array Value) (ys : List Nd) (Ss : List (List Nat)) (l : List (Ex n)) (a : Option Addr) (cap' : Nat) (V : Nat → Prop) (w : World)
    (hg : w0.heap[g]? = some (.cells cs 25 (0, 0))) (hcs : cs.toList.take (len * 3) = cellsN ys) (hys : ys.length = len) (hSs : Ss.length = len) (hl : l.length = len) (hlm : len ≤ maxLen) (htr : ∀ (i : Nat) (e : Ex n) (y : Nd) (T : List Nat), l[i]? = some e → ys[i]? = some y → Ss[i]? = some T → Tr w0 n e y T)
    (hnd : Ss.flatten.Nodup) (hV : ∀ b ∈ Ss.flatten, ¬ V b) (hkids : Kids w0 n a len l) (henv : Env w0 w p f m V) :
    Calls Try.prog 32 #[.slice (some ⟨g, 0, none⟩) len cap, .slice a len cap', .func (.func 31) #[] #[.pointer (some ⟨p, 0, none⟩), .pointer (some ⟨f, 0, none⟩)]] w fun e w' => e = .returned (.bool true) ∧ Env w0 w' p f m (fun g => V g ∨ g ∈ Ss.flatten) := by
  unfold maxLen at hlm
  have HCELL := hide (show ∀ (i : Nat) (y : Nd), ys[i]? = some y → ∀ W, Below w0.heap.size w0 W → W.cell? ⟨g, i * 3, none⟩ = some (.int .u8 y.k) ∧ W.cell? ⟨g, i * 3 + 1, none⟩ = some (.int .u16 y.s) ∧ W.cell? ⟨g, i * 3 + 2, none⟩ = some (.slice y.a y.l y.c) from fun i y hy W hb => by
    have hi := (List.getElem?_eq_some_iff.1 hy).1
    obtain ⟨q0, q1, q2⟩ := cellsN_at ys i y hy
    have hc : ∀ j u, (cellsN ys)[j]? = some u → W.cell? ⟨g, j, none⟩ = some u := fun j u hj => by
      rw [cell_of_row W g j cs 25 (0, 0) ((hb.block g (heap_lt hg)).trans hg)]
      rw [← hcs] at hj
      have := List.getElem?_take_of_lt (l := cs.toList) (i := j) (j := len * 3) (by have := (List.getElem?_eq_some_iff.1 hj).1; simp at this; omega)
      rw [this] at hj
      simpa using hj
    exact ⟨hc _ _ q0, hc _ _ q1, hc _ _ q2⟩)
  have HTR := hide htr
  have HND := hide hnd
  have HV := hide hV
  have HK := hide hkids
  have HE0 := hide henv
  have HY := hide hys
  have HSS := hide hSs
  have HL := hide hl
  have HI := hide ih
  unfold Alike at HI
  clear htr hnd hV hkids henv hys hSs hl ih hg hcs
  go_enter Try.func32, Try.ntmps32
  go_wp2_with fail
  go_loopw [7, 8, 9, 17] (fun _ _ _ u wr => ∃ i : Nat, i ≤ len ∧ u = .int .i64 i ∧ Env w0 wr p f m (fun g => V g ∨ g ∈ (Ss.take i).flatten)) (fun _ _ _ u _ => len - (intOf u).toNat)
  case atStart => exact ⟨0, Nat.zero_le _, rfl, env_mono HE0.out (fun g hg => .inl hg)⟩
  case round =>
    obtain ⟨i, hi, rfl, henv⟩ := hrel
    by_cases hlt : i < len
    · obtain ⟨x, b, off, c0, c1, c2, rfl, hx, k0, k1, k2, k3⟩ := HK.out wr henv.1 i hlt
      obtain ⟨x', b', off', c0', c1', c2', eb, hx', m0', m1', m2', m3'⟩ := HK.out w0 (Below.refl _ _) i hlt
      obtain rfl : x = x' := Option.some.inj (hx.symm.trans hx')
      cases eb
      have e0 : c0' = c0 := Option.some.inj (((henv.1.cell (p := ⟨b, off + i * 3, none⟩) (cell_lt m0')).trans m0').symm.trans k0)
      have e1 : c1' = c1 := Option.some.inj (((henv.1.cell (p := ⟨b, off + i * 3 + 1, none⟩) (cell_lt m1')).trans m1').symm.trans k1)
      have e2 : c2' = c2 := Option.some.inj (((henv.1.cell (p := ⟨b, off + i * 3 + 2, none⟩) (cell_lt m2')).trans m2').symm.trans k2)
      subst e0; subst e1; subst e2
      obtain ⟨kx, sx, ax, lx, cx, rfl, rfl, rfl⟩ := rx_cells m3'
      have hyi : ys[i]? = some (ys[i]'(by have := HY.out; omega)) := by simp
      have hSi : Ss[i]? = some (Ss[i]'(by have := HSS.out; omega)) := by simp
      generalize ys[i]'(by have := HY.out; omega) = y at *
      generalize Ss[i]'(by have := HSS.out; omega) = T at *
      obtain ⟨q0, q1, q2⟩ := HCELL.out i y hyi wr henv.1
      obtain ⟨hT1, hT2⟩ := flat_apart hSi HND.out
      have HTX := hide (HTR.out i x y T hx hyi hSi)
      have HT1 := hide hT1
      have HT2 := hide (fun b (hb : b ∈ T) => show ¬ (V b ∨ b ∈ (Ss.take i).flatten) from fun q => q.elim (HV.out b (mem_flat hSi hb)) (hT2 b hb))
      have HFT := hide (flat_take hSi)
      have HX3 := hide m3'
      have bA : Below wr.heap.size wr ((wr.alloc (.cells #[.int .u8 y.k, .int .u16 y.s, .slice y.a y.l y.c] 25)).alloc (.cells #[.int .u8 kx, .int .u16 sx, .slice ax lx cx] 25)) := ((Below.refl _ wr).alloc (Nat.le_refl _) _).alloc (by simp) _
      have HEA := hide (env_below henv bA)
      have i3 : (0 : Int) ≤ (i : Int) := by omega
      have i4 : (i : Int) < (len : Int) := by omega
      have kk0 := cell_alloc k0 (.cells #[.int .u8 y.k, .int .u16 y.s, .slice y.a y.l y.c] 25)
      have kk1 := cell_alloc k1 (.cells #[.int .u8 y.k, .int .u16 y.s, .slice y.a y.l y.c] 25)
      have kk2 := cell_alloc k2 (.cells #[.int .u8 y.k, .int .u16 y.s, .slice y.a y.l y.c] 25)
      clear hx hx' m0' m1' m2' m3' k3 hyi hSi hT1 hT2 henv bA k0 k1 k2
      go_wp2_with fail
      refine (HI.out x y T _ _ _ HTX.out HT1.out HT2.out HX3.out HEA.out).mono ?_
      rintro e w2 ⟨rfl, henv2⟩
      have HE2 := hide henv2
      clear henv2
      go_wp2
      go_roundw
      case rel => exact ⟨i + 1, by omega, by go_num, env_mono HE2.out (fun g hg => by rw [HFT.out, List.mem_append]; rcases hg with (hg | hg) | hg; exact .inl hg; exact .inr (.inl hg); exact .inr (.inr hg))⟩
      case measure => simp [intOf]; omega
    · have e : i = len := by omega
      subst e
      have HT := hide (show Ss.take i = Ss from List.take_of_length_le (by have := HSS.out; omega))
      have HE2 := hide henv
      clear henv
      go_wp2
      go_ret
      exact ⟨rfl, by have := HE2.out; rw [HT.out] at this; exact this⟩
end Go.Proofs.Ytacfkdjpdgnohaa.A
