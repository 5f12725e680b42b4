/- A block as a slice of one, at the operation. -/
import Derived.Test.YtooiomfcemceiaaR
namespace Go.Proofs.Ytooiomfcemceiaa.A
open Go.RowKit Go.Maps

def isBlk : Value → Bool
  | .agg c => decide (c.size = 128)
  | _ => false
theorem isBlk_agg (c : Array Value) : isBlk (.agg c) = decide (c.size = 128) := rfl
theorem cells_agg (c : Array Value) : (Value.agg c).cells = c := rfl

theorem wp_build53 (o : Oper) (d : Tmp) (x : Operand) (hop : o.op = Op.buildSlice 53 1 #[(0, x)]) (hd : o.dst = some d) (a : Act) (w : World) (K : Act → World → Prop) (Q : Exit → Act → World → Prop) (hc : isBlk (a.eval x) = true) :
    Oper.wp Try.prog o a w K Q = K (a.put (some d) (.slice (some ⟨w.heap.size, 0, none⟩) 1 1)) (w.alloc (.cells (a.eval x).cells 62)) := by
  cases hx : a.eval x <;> rw [hx] at hc <;> simp [isBlk] at hc
  unfold Oper.wp execOp
  simp only [hop, hx, List.map_toArray, List.map_cons, List.map_nil, Sem.run_bind, build53 _ hc, Result.andThen_ok, Sem.run_pure, Value.cells]
  rw [Oper.upon_value, hd]
theorem wp_build53s {d : Tmp} {x : Operand} {t : TypeId} {p : String} {af : Array Edge} {g : Option (Nat × Bool)} {a : Act} {w : World} {K : Act → World → Prop} {Q : Exit → Act → World → Prop} (hc : isBlk (a.eval x) = true) :
    Oper.wp Try.prog { dst := some d, op := Op.buildSlice 53 1 #[(0, x)], type := t, pos := p, after := af, guard := g } a w K Q = K (a.put (some d) (.slice (some ⟨w.heap.size, 0, none⟩) 1 1)) (w.alloc (.cells (a.eval x).cells 62)) := wp_build53 _ d x rfl rfl a w K Q hc
/-- The cells at a pointer to an array of its own. -/
def rowV (w : World) : Value → Array Value
  | .pointer (some a) => (match w.heap[a.block]? with | some (.cells c _ _) => c | _ => #[])
  | _ => #[]
def rowOk (w : World) : Value → Bool
  | .pointer (some ⟨b, 0, none⟩) => (match w.heap[b]? with | some (.cells c _ _) => decide (c.size = 128) | _ => false)
  | _ => false
theorem rowV_drew (w : World) (v : Value) : rowV w.drew v = rowV w v := rfl
theorem rowOk_drew (w : World) (v : Value) : rowOk w.drew v = rowOk w v := rfl
theorem rowV_at {w : World} {q : Nat} {c : Array Value} {t : TypeId} {fr : Nat × Nat} (h : w.heap[q]? = some (.cells c t fr)) : rowV w (.pointer (some ⟨q, 0, none⟩)) = c := by simp [rowV, h]
theorem rowOk_at {w : World} {q : Nat} {c : Array Value} {t : TypeId} {fr : Nat × Nat} (h : w.heap[q]? = some (.cells c t fr)) (hc : c.size = 128) : rowOk w (.pointer (some ⟨q, 0, none⟩)) = true := by simp [rowOk, h, hc]
theorem wp_load62s {d : Tmp} {x : Operand} {t : TypeId} {p : String} {af : Array Edge} {g : Option (Nat × Bool)} {a : Act} {w : World} {K : Act → World → Prop} {Q : Exit → Act → World → Prop} (hc : rowOk w (a.eval x) = true) :
    Oper.wp Try.prog { dst := some d, op := Op.load 62 x, type := t, pos := p, after := af, guard := g } a w K Q = K (a.put (some d) (.agg (rowV w (a.eval x)))) w := by
  obtain ⟨_, hi62⟩ := zero_of_info zero62
  unfold rowOk at hc
  split at hc
  · rename_i b hx
    split at hc
    · rename_i c tt fr hb
      have hc' : c.size = 128 := of_decide_eq_true hc
      have hl := run_loadVar_row (P := Try.prog) w b tt 62 c fr _ hb Try.underlying62 rfl (by rw [hc']; exact hi62)
      unfold Oper.wp execOp
      simp only [hx, Instr.loadAt, Instr.sureAddr, Sem.run_bind, Sem.run_pure, Result.andThen_ok, hl]
      rw [Oper.upon_value, rowV_at hb]
    · cases hc
  · cases hc
end Go.Proofs.Ytooiomfcemceiaa.A
