/- What the document's answer puts. -/
import Derived.Test.YtpniapegamobmaaJ
import Derived.Deep.AppendSrc
namespace Go.Proofs.Ytpniapegamobmaa.A
open Go.RowKit

set_option maxHeartbeats 800000 in
theorem rput_big (n s : Int) (w : World) (h : 8 < s) :
    Calls Try.prog 28 #[.int .i64 n, .int .i64 s] w fun e w' => e = .returned (.slice none 0 0) ∧ w' = w := by
  go_enter Try.func28, Try.ntmps28
  go_wp2
  go_ret
  exact ⟨rfl, rfl⟩

set_option maxHeartbeats 800000 in
theorem rput_neg (n s : Int) (w : World) (h : s < 0) :
    Calls Try.prog 28 #[.int .i64 n, .int .i64 s] w fun e w' => e = .returned (.slice none 0 0) ∧ w' = w := by
  go_enter Try.func28, Try.ntmps28
  go_wp2
  go_loop [5, 6] (fun v i => v = .slice none 0 0 ∧ i = .int .i64 0) (fun _ _ => 0)
  case atStart => exact ⟨rfl, rfl⟩
  case round =>
    obtain ⟨rfl, rfl⟩ := hrel
    go_wp2
    go_ret
    exact ⟨rfl, rfl⟩

/-- What is put so far: the k lowest bytes, the highest one first. -/
def lowL (n : Int) : Nat → List Int | 0 => [] | k + 1 => lowB n k :: lowL n k
theorem lowL_len (n : Int) : ∀ k, (lowL n k).length = k
  | 0 => rfl
  | k + 1 => by simp [lowL, lowL_len n k]

theorem app_nil (W : World) (b : Nat) : (Builtin.append_ #[26, 26] 26 #[.slice (some ⟨b, 0, none⟩) 1 1, .slice none 0 0]).run Try.prog W = .ok (.slice (some ⟨b, 0, none⟩) 1 1) W := by
  obtain ⟨i0, hi, hz0, hz1, hz2⟩ := info_parts info5
  exact run_append_room_src (P := Try.prog) W 26 26 26 5 i0 Try.underlying26 hi b 0 1 1 (.slice none 0 0) 0 [] (Src.ofNil W Try.underlying26 0) (by omega) (fun j hj => by simp at hj) (fun j hj => by simp at hj)

theorem wrap_u64 (n : Int) : IntKind.u64.wrap n = n % 18446744073709551616 := by simp [IntKind.wrap, IntKind.bits, IntKind.signed]
theorem lowB_u (n : Int) (k : Nat) (h : k < 8) : IntKind.u64.wrap n / 2 ^ (8 * k) % 256 = lowB n k := by
  rw [wrap_u64]
  unfold lowB
  match k, h with
  | 0, _ => simp
  | 1, _ => simp; omega
  | 2, _ => simp; omega
  | 3, _ => simp; omega
  | 4, _ => simp; omega
  | 5, _ => simp; omega
  | 6, _ => simp; omega
  | 7, _ => simp; omega
theorem own_one (w : World) (B : Nat) (t : TypeId) (v : Value) (hB : B ≤ w.heap.size) : (w.alloc (.cells #[v] t)).ownsRow B t 1 (.slice (some ⟨w.heap.size, 0, none⟩) 1 1) 1 [v] :=
  ⟨rfl, .inr ⟨w.heap.size, 1, #[v], rfl, hB, heap_alloc_new w _, Nat.le_refl _, by decide, rfl, rfl⟩⟩

set_option maxHeartbeats 800000 in
theorem rput_in (n : Int) (s : Nat) (w : World) (h : s ≤ 8) :
    Calls Try.prog 28 #[.int .i64 n, .int .i64 s] w fun e w' => ∃ v, e = .returned v ∧ w'.ownsRow w.heap.size 5 1 v s ((lowL n s).map (Value.int .u8)) ∧ Below w.heap.size w w' := by
  obtain ⟨i0, hi, hz0, hz1, hz2⟩ := info_parts info5
  go_enter Try.func28, Try.ntmps28
  go_wp2
  go_loopw [5, 6] (fun v i wr => ∃ k : Nat, k ≤ s ∧ i = .int .i64 k ∧ wr.ownsRow w.heap.size 5 1 v k ((lowL n k).map (Value.int .u8)) ∧ Below w.heap.size w wr) (fun _ i _ => s - (intOf i).toNat)
  case atStart => exact ⟨0, Nat.zero_le _, rfl, World.ownsRow_nil _ _ _ _, Below.refl _ _⟩
  case round => 
    obtain ⟨k, hk, rfl, hown, hbel⟩ := hrel
    by_cases hlt : k < s
    · rcases hown.2 with ⟨hv, h0⟩ | ⟨g, cap, cur, hv, hg, hcur, hkc, hcm, hcs, htk⟩
      · subst h0
        subst hv
        have hap := fun W => app_nil W wr.heap.size
        have e0 : IntKind.u64.wrap n % 256 = lowB n 0 := by rw [wrap_u64]; unfold lowB; simp
        have E0 := hide e0
        clear e0
        go_wp2
        go_roundw
        case rel =>
          refine ⟨1, by omega, rfl, ?_, hbel.alloc hbel.size _⟩
          rw [E0.out]
          exact own_one wr w.heap.size 5 _ hbel.size
        case measure => simp [intOf]; omega
      · have hcells : ∀ j u, ((lowL n k).map (Value.int .u8))[j]? = some u → wr.cell? ((⟨g, 0, none⟩ : Addr).add j) = some u := hown.cells (g := g) (by rw [hv]; rfl)
        have hgl : g < wr.heap.size := (hown.lt g (by rw [hv]; rfl)).2
        subst hv
        have E0 := hide (lowB_u n k (by omega))
        go_wp2_with (at_builtin; refine wpList_append_own _ rfl _ _ 26 rfl w.heap.size 5 i0 (.int .u8 0) 1 1 Try.underlying26 hi hz0 hz1 hz2 rfl (by decide) (.slice (some ⟨wr.heap.size, 0, none⟩) 1 1) 1 [.int .u8 (IntKind.u64.wrap n / 2 ^ (8 * k) % 256)] rfl (own_one wr w.heap.size 5 _ hbel.size) ⟨g, 0, none⟩ k cap ((lowL n k).map (Value.int .u8)) rfl (by simp [lowL_len]) ?c1 ?c2 ?c3 ?c4 ?c5 ?_)
        case c1 => intro j u hj; exact cell_past _ _ (hcells j u hj)
        case c2 => intro u hu; obtain ⟨_, _, rfl⟩ := List.mem_map.1 hu; rfl
        case c3 => unfold maxLen; omega
        case c4 => omega
        case c5 => have := hbel.size; simp; omega
        · intro v' w1 hown' hgrow _
          have hbel' : Below w.heap.size w w1 := (hbel.alloc hbel.size _).grown hgrow (by have := hbel.size; simp; omega) (fun k' e => by simp [Value.ownBlock] at e; have := hbel.size; omega)
          rw [E0.out, Nat.add_comm] at hown'
          clear hgrow hcells hcur htk hown hbel
          go_wp2
          go_roundw
          case rel => exact ⟨k + 1, by omega, by go_num, hown', hbel'⟩
          case measure => simp [intOf]; omega
    · have e : k = s := by omega
      subst e
      go_wp2
      go_ret
      exact ⟨_, rfl, hown, hbel⟩
end Go.Proofs.Ytpniapegamobmaa.A
