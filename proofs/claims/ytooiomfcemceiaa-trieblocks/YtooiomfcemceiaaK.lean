/- Contracts: New; what the document has. -/
import Derived.Test.YtooiomfcemceiaaZ
import Derived.Test.YtooiomfcemceiaaB
namespace Go.Proofs.Ytooiomfcemceiaa.A
open Go.RowKit Go.Maps

set_option maxHeartbeats 800000 in
theorem new_no (x : Option Addr) (len cap : Nat) (zs : List Rg) (w : World) (hl : len ≤ maxLen) (hs : SegR w x len zs) (hr : rightB 255 zs len = false) :
    Calls Try.prog 8 #[.slice x len cap] w fun e w' => e = .returned (.pointer none) ∧ Below w.heap.size w w' := by
  have hnot : ∀ (x : Bool) (w : World), (Op.unary .not (.bool x)).run Try.prog w = .ok (.bool (!x)) w := fun _ _ => rfl
  go_enter Try.func8, Try.ntmps8
  go_wp2_with fail
  refine (right_any x len cap 255 zs w hl hs).mono ?_
  rintro e w1 ⟨rfl, hb⟩
  rw [hr]
  go_wp2
  go_ret
  exact ⟨rfl, hb⟩

set_option maxHeartbeats 800000 in
theorem new_yes (x : Option Addr) (len cap : Nat) (zs : List Rg) (w : World) (hl : len ≤ 5000) (hs : SegR w x len zs) (hr : rightB 255 zs len = true) :
    Calls Try.prog 8 #[.slice x len cap] w fun e w' => ∃ tb, e = .returned (.pointer (some ⟨tb, 0, none⟩)) ∧ Tr zs len w' tb 0 false ∧ Below w.heap.size w w' ∧ w.heap.size ≤ tb := by
  have hnot : ∀ (x : Bool) (w : World), (Op.unary .not (.bool x)).run Try.prog w = .ok (.bool (!x)) w := fun _ _ => rfl
  go_enter Try.func8, Try.ntmps8
  go_wp2_with fail
  refine (right_any x len cap 255 zs w (by unfold maxLen; omega) hs).mono ?_
  rintro e w1 ⟨rfl, hb⟩
  rw [hr]
  have HS := hide (hs.below hb)
  have HB := hide hb
  clear hs hb hr
  go_wp2_with fail
  refine (clone_any x len cap zs w1 hl HS.out).mono ?_
  rintro e w2 ⟨v, rfl, hown, hb2⟩
  obtain ⟨x2, cap2, rfl⟩ := own_form hown
  have HO := hide (own_mono (hown.alloc (.cells #[.slice x2 len cap2, .int .u32 0, .int .i32 0, .int .u32 0, .slice none 0 0, .slice none 0 0, .int .i64 0] 58)) (Nat.zero_le _))
  have HB2 := hide (hb2)
  clear hown hb2
  go_wp2
  go_ret
  have h3 := HB.out.trans (HB2.out.mono HB.out.size)
  refine ⟨w2.heap.size, rfl, .inr ⟨rfl, x2, cap2, heap_alloc_last _ _, HO.out⟩, h3.alloc h3.size _, h3.size⟩

/-- The document's Get. -/
theorem rget_any (x : Option Addr) (len cap : Nat) (c : Int) (zs : List Rg) (w : World) (hl : len ≤ maxLen) (hs : SegR w x len zs) :
    Calls Try.prog 14 #[.slice x len cap, .int .i32 c] w fun e w' => e = .returned (.int .i64 (hv zs len c)) ∧ w' = w := by
  have hnot : ∀ (x : Bool) (w : World), (Op.unary .not (.bool x)).run Try.prog w = .ok (.bool (!x)) w := fun _ _ => rfl
  have HS := hide hs
  clear hs
  cases hvb : validB c
  · have HV := hide (show hv zs len c = 0 from hv_bad hvb)
    go_enter Try.func14, Try.ntmps14
    go_wp2_with (go_at_call 25; refine (rvalid_any _ _).mono ?_; rintro e w1 ⟨rfl, rfl⟩; rw [hvb])
    go_ret
    exact ⟨by rw [HV.out]; rfl, rfl⟩
  · have HV := hide (show hv zs len c = (fnd zs c len).1 from by unfold hv; rw [hvb]; rfl)
    go_enter Try.func14, Try.ntmps14
    go_wp2_with (first | (go_at_call 25; refine (rvalid_any _ _).mono ?_; rintro e w1 ⟨rfl, rfl⟩; rw [hvb]) | (go_at_call 26; refine (rfind_any x len cap c zs _ hl HS.out).mono ?_; rintro e w1 ⟨rfl, rfl⟩))
    go_ret
    exact ⟨by rw [HV.out]; rfl, rfl⟩
end Go.Proofs.Ytooiomfcemceiaa.A
