/- Maps keyed by two places and a number. -/
import Derived.Test.YtacfkdjpdgnohaaZa
import Derived.LaidEql
import Derived.Maps.OwnSet
import Derived.WideKeyEntry
import Derived.MapKept
namespace Go.Proofs.Ytacfkdjpdgnohaa.A
open Go.RowKit

/-- The key. -/
def key3 (a b : Addr) (n : Nat) : Value := .agg #[.pointer (some a), .pointer (some b), .int .i64 (n : Int)]
theorem ptr_no (w : World) (d : Nat) {a a' : Addr} {ca cb : Array Value} {ta tb : TypeId} (hne : a ≠ a') (ha : w.heap[a.block]? = some (.cells ca ta (0, 0))) (hb : w.heap[a'.block]? = some (.cells cb tb (0, 0))) :
    (Op.equalIn (d + 1) 44 (.pointer (some a)) (.pointer (some a'))).run Try.prog w = .ok false w := by
  simp [Op.equalIn, run_underlying Try.underlying44, run_sameAddr_other w hne ha hb]
theorem ptr_yes (w : World) (d : Nat) (a : Addr) : (Op.equalIn (d + 1) 44 (.pointer (some a)) (.pointer (some a))).run Try.prog w = .ok true w := by
  simp [Op.equalIn, run_underlying Try.underlying44, run_sameAddr_same]
theorem int_yes (w : World) (d : Nat) (n : Int) : (Op.equalIn (d + 1) 3 (.int .i64 n) (.int .i64 n)).run Try.prog w = .ok true w := by
  simp [Op.equalIn, run_underlying Try.underlying3]
theorem part0 (w : World) (x y z : Value) : (part 44 #[x, y, z] 0).run Try.prog w = .ok x w := by simp [part]
theorem part1 (w : World) (x y z : Value) : (part 44 #[x, y, z] 1).run Try.prog w = .ok y w := by simp [part]
theorem part2 (w : World) (x y z : Value) : (part 3 #[x, y, z] 2).run Try.prog w = .ok z w := by simp [part]
theorem eqIn_no (w : World) (d : Nat) {a b a' b' : Addr} {n n' : Nat} {ca cb : Array Value} {ta tb : TypeId} (hne : a ≠ a') (ha : w.heap[a.block]? = some (.cells ca ta (0, 0))) (hb : w.heap[a'.block]? = some (.cells cb tb (0, 0))) :
    (Op.equalIn (d + 1 + 1) 46 (key3 a b n) (key3 a' b' n')).run Try.prog w = .ok false w := by
  unfold key3
  rw [Op.equalIn]
  simp only [Sem.run_bind, run_underlying Try.underlying46, Result.andThen_ok]
  simp [← Array.forIn_toList, part0, ptr_no w d hne ha hb]
theorem eqIn_yes (w : World) (d : Nat) (a b : Addr) (n : Nat) : (Op.equalIn (d + 1 + 1) 46 (key3 a b n) (key3 a b n)).run Try.prog w = .ok true w := by
  unfold key3
  rw [Op.equalIn]
  simp only [Sem.run_bind, run_underlying Try.underlying46, Result.andThen_ok]
  simp [← Array.forIn_toList, part0, part1, part2, ptr_yes, int_yes]
theorem eq46_no (w : World) {a b a' b' : Addr} {n n' : Nat} {ca cb : Array Value} {ta tb : TypeId} (hne : a ≠ a') (ha : w.heap[a.block]? = some (.cells ca ta (0, 0))) (hb : w.heap[a'.block]? = some (.cells cb tb (0, 0))) :
    (Op.equal 46 (key3 a b n) (key3 a' b' n')).run Try.prog w = .ok false w := eqIn_no w 9998 hne ha hb
theorem eq46_yes (w : World) (a b : Addr) (n : Nat) : (Op.equal 46 (key3 a b n) (key3 a b n)).run Try.prog w = .ok true w := eqIn_yes w 9998 a b n
theorem chk44 (w : World) (em : Bool) (d : Nat) (a : Addr) : (Instr.checkKey em (d + 1) 44 (.pointer (some a))).run Try.prog w = .ok () w := by simp [Instr.checkKey, run_underlying Try.underlying44]
theorem chk3 (w : World) (em : Bool) (d : Nat) (n : Int) : (Instr.checkKey em (d + 1) 3 (.int .i64 n)).run Try.prog w = .ok () w := by simp [Instr.checkKey, run_underlying Try.underlying3]
theorem chk46 (w : World) (em : Bool) (d : Nat) (a b : Addr) (n : Nat) : (Instr.checkKey em (d + 1 + 1) 46 (key3 a b n)).run Try.prog w = .ok () w := by
  unfold key3
  rw [Instr.checkKey]
  simp only [Sem.run_bind, run_underlying Try.underlying46, Result.andThen_ok]
  simp [← Array.forIn_toList, part0, part1, part2, chk44, chk3]
theorem check46 (w : World) (em : Bool) (a b : Addr) (n : Nat) : (Instr.checkKey em 10000 46 (key3 a b n)).run Try.prog w = .ok () w := chk46 w em 9998 a b n

/-- Lists that were met: each in a block, unmarked, of those that are told. -/
def Mts (w : World) (V : Nat → Prop) (es : List MapEntry) : Prop := ∀ e ∈ es, ∃ (g : Nat) (b : Addr) (n : Nat) (c : Array Value) (t : TypeId), e.key = key3 ⟨g, 0, none⟩ b n ∧ V g ∧ w.heap[g]? = some (.cells c t (0, 0))
theorem ask_none (w : World) {V : Nat → Prop} {g : Nat} {c : Array Value} {t : TypeId} (hg : w.heap[g]? = some (.cells c t (0, 0))) (hV : ¬ V g) (b : Addr) (n : Nat) : ∀ (es : List MapEntry) (i : Nat), Mts w V es → (Instr.findAsking 46 (key3 ⟨g, 0, none⟩ b n) es i).run Try.prog w = .ok none w
  | [], i, _ => by simp [Instr.findAsking]
  | e :: es, i, h => by
    obtain ⟨g', b', n', c', t', h1, h2, h3⟩ := h e (by simp)
    have hne : (⟨g, 0, none⟩ : Addr) ≠ ⟨g', 0, none⟩ := fun q => hV (by cases q; exact h2)
    have := eq46_no (b := b) (b' := b') (n := n) (n' := n') w hne hg h3
    rw [← h1] at this
    simp [Instr.findAsking, this, ask_none w hg hV b n es (i + 1) (fun x hx => h x (by simp [hx]))]
theorem ask_last (w : World) {V : Nat → Prop} {g : Nat} {c : Array Value} {t : TypeId} (hg : w.heap[g]? = some (.cells c t (0, 0))) (hV : ¬ V g) (b : Addr) (n : Nat) (v : Value) (bo : Nat) : ∀ (es : List MapEntry) (i : Nat), Mts w V es → (Instr.findAsking 46 (key3 ⟨g, 0, none⟩ b n) (es ++ [⟨key3 ⟨g, 0, none⟩ b n, v, bo⟩]) i).run Try.prog w = .ok (some (i + es.length, v)) w
  | [], i, _ => by simp [Instr.findAsking, eq46_yes]
  | e :: es, i, h => by
    obtain ⟨g', b', n', c', t', h1, h2, h3⟩ := h e (by simp)
    have hne : (⟨g, 0, none⟩ : Addr) ≠ ⟨g', 0, none⟩ := fun q => hV (by cases q; exact h2)
    have := eq46_no (b := b) (b' := b') (n := n) (n' := n') w hne hg h3
    rw [← h1] at this
    simp [Instr.findAsking, this, ask_last w hg hV b n v bo es (i + 1) (fun x hx => h x (by simp [hx]))]
    omega
theorem find_asks (w : World) (k : Value) (es : List MapEntry) : (Instr.findKey 46 k es).run Try.prog w = (Instr.findAsking 46 k es).run Try.prog w := by
  cases es with
  | nil => simp [Instr.findKey, run_underlying Try.underlying46, Instr.findNow, Instr.findAsking]
  | cons e es => simp [Instr.findKey, run_underlying Try.underlying46, Instr.findNow, Instr.sameNow]
/-- A list that was not met. -/
theorem look_none (w : World) {V : Nat → Prop} {g m : Nat} {c : Array Value} {t : TypeId} {es : Array MapEntry} {clock : Nat} (hm : w.heap[m]? = some (.map es clock)) (hg : w.heap[g]? = some (.cells c t (0, 0))) (hV : ¬ V g) (hes : Mts w V es.toList) (b : Addr) (n : Nat) :
    (Instr.lookup 43 (.map (some m)) (key3 ⟨g, 0, none⟩ b n) false).run Try.prog w = .ok (.int .i64 0) w := by
  simp [Instr.lookup, run_underlying Try.underlying43, MapKept.run_getObj_map hm, check46, find_asks, ask_none w hg hV b n es.toList 0 hes]
theorem look_last (w : World) {V : Nat → Prop} {g m : Nat} {c : Array Value} {t : TypeId} {es : Array MapEntry} {clock : Nat} {b : Addr} {n : Nat} {v : Value} {bo : Nat} (hm : w.heap[m]? = some (.map (es.push ⟨key3 ⟨g, 0, none⟩ b n, v, bo⟩) clock)) (hg : w.heap[g]? = some (.cells c t (0, 0))) (hV : ¬ V g) (hes : Mts w V es.toList) :
    (Instr.lookup 43 (.map (some m)) (key3 ⟨g, 0, none⟩ b n) false).run Try.prog w = .ok v w := by
  simp [Instr.lookup, run_underlying Try.underlying43, MapKept.run_getObj_map hm, check46, find_asks, ask_last w hg hV b n v bo es.toList 0 hes]
theorem entry_none (w : World) {V : Nat → Prop} {g m : Nat} {c : Array Value} {t : TypeId} {es : Array MapEntry} {clock : Nat} (hm : w.heap[m]? = some (.map es clock)) (hg : w.heap[g]? = some (.cells c t (0, 0))) (hV : ¬ V g) (hes : Mts w V es.toList) (b : Addr) (n : Nat) :
    (Instr.mapEntry 43 (.map (some m)) (key3 ⟨g, 0, none⟩ b n)).run Try.prog w = .ok (.tuple #[.int .i64 0, .int .i64 clock]) (ChangeMaps.setBlock w m (.map (es.push ⟨key3 ⟨g, 0, none⟩ b n, .int .i64 0, clock⟩) (clock + 1))) := by
  simp [Instr.mapEntry, run_underlying Try.underlying43, MapKept.run_getObj_map hm, check46, find_asks, ask_none w hg hV b n es.toList 0 hes, MapKept.run_setObj_map _ hm, ChangeMaps.setBlock, goInt]
theorem store_last (w : World) {m : Nat} {es : Array MapEntry} {clock : Nat} {k v0 : Value} (hm : w.heap[m]? = some (.map (es.push ⟨k, v0, clock⟩) (clock + 1))) (hb : ∀ e ∈ es.toList, e.born < clock) (v : Value) :
    (Instr.entryStore 43 (.map (some m)) (.int .i64 clock) v).run Try.prog w = .ok () (ChangeMaps.setBlock w m (.map (es.push ⟨k, v, clock⟩) (clock + 1))) := by
  have hidx : (es.push ⟨k, v0, clock⟩).findIdx? (fun e => ((e.born : Nat) : Int) == ((clock : Nat) : Int)) = some es.size := by
    rw [WideElems.findIdx_arr, Array.toList_push, List.findIdx?_append, List.findIdx?_eq_none_iff.2 (fun e he => by have := hb e he; simp; omega)]
    simp
  have hmod : (es.push ⟨k, v0, clock⟩).modify es.size (fun e => { e with val := v }) = es.push ⟨k, v, clock⟩ := by
    apply Array.ext'
    rw [Array.toList_modify, Array.toList_push, Array.toList_push, ← Array.length_toList, WideElems.modify_last]
  simp [Instr.entryStore, MapKept.run_getObj_map hm, asInt, asIntOf, hidx, hmod, MapKept.run_setObj_map _ hm, ChangeMaps.setBlock]
end Go.Proofs.Ytacfkdjpdgnohaa.A
