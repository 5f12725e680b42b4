/- Contracts of tags. -/
import Derived.Test.YtpniapegamobmaaD
import Derived.Laws.IdiomStrings
import Derived.BigRegion
namespace Go.Proofs.Ytpniapegamobmaa.A
open Go.RowKit

/-- Bytes as they stand in a text. -/
def u8s (l : List Int) : List UInt8 := l.map fun z => UInt8.ofNat z.toNat
def txt (l : List Int) : ByteArray := ⟨(u8s l).toArray⟩
theorem u8s_get (l : List Int) (hb : Byt l) (j : Nat) (hj : j < (u8s l).length) : (((u8s l)[j]).toNat : Int) = l.getD j 0 := by
  have hj' : j < l.length := by simpa [u8s] using hj
  have h := hb j
  have e : l.getD j 0 = l[j] := by simp [List.getD_eq_getElem?_getD, hj']
  rw [e] at h ⊢
  simp only [u8s, List.getElem_map]
  rw [UInt8.toNat_ofNat']
  omega
/-- A slice of bytes becomes a text. -/
theorem run_txt (w : World) (b off cap : Nat) (l : List Int) (hb : Byt l) (hc : ∀ i, i < l.length → w.cell? ⟨b, off + i, none⟩ = some (.int .u8 (l.getD i 0))) :
    (convert 26 9 (.slice (some ⟨b, off, none⟩) l.length cap)).run Try.prog w = .ok (.string (txt l)) w := by
  have h := run_convert_bytes_back (P := Try.prog) w 26 9 5 ⟨b, off, none⟩ cap (u8s l) Try.underlying26 Try.underlying5 Try.underlying9 (fun j hj => by
    rw [u8s_get l hb j hj]
    have := hc j (by simpa [u8s] using hj)
    rw [← this]
    simp only [Addr.add]
    split
    · rename_i h; rw [h, Nat.add_zero]
    · rfl)
  have e : (u8s l).length = l.length := by simp [u8s]
  rw [e] at h
  exact h

/-- What stands at a place as a tag. -/
def tagAt (zs : List Int) (a : Int) : ByteArray := if inB zs.length a 4 then txt ((zs.drop a.toNat).take 4) else ByteArray.empty

set_option maxHeartbeats 800000 in
theorem tag_any (x : Option Addr) (len cap : Nat) (zs : List Int) (a : Int) (w : World) (hs : Seg w x len zs) (hl : len ≤ cap) (hm : cap ≤ maxLen) :
    Calls Try.prog 21 #[.slice x len cap, .int .i64 a] w fun e w' => e = .returned (.tuple #[.string (tagAt zs a), .bool (inB len a 4)]) ∧ w' = w := by
  obtain ⟨hz, hb, hx⟩ := hs
  have hmm := hm
  unfold maxLen at hmm
  cases hi : inB len a 4
  · have HE := hide (show tagAt zs a = ByteArray.empty by unfold tagAt; rw [hz, hi]; rfl)
    have HI := hide hi
    clear hi
    go_enter Try.func21, Try.ntmps21
    go_wp2_with (go_at_call 15; refine (within_any _ _ _ _ _ _ (by omega) (by omega)).mono ?_; rintro e w' ⟨rfl, rfl⟩; rw [HI.out])
    go_ret2
    exact ⟨by rw [HE.out]; rfl, rfl⟩
  · have hi' := hi
    unfold inB at hi'
    have hd := of_decide_eq_true hi'
    clear hi'
    rcases hx with h | ⟨b, off, rfl, hc⟩
    · omega
    obtain ⟨p, rfl⟩ := Int.eq_ofNat_of_zero_le hd.1
    have HE := hide (show tagAt zs (p : Int) = txt ((zs.drop p).take 4) by unfold tagAt; rw [hz, hi]; simp)
    have HI := hide hi
    have hcv := run_txt w b (off + p) (cap - p) ((zs.drop p).take 4) (byt_cut hb p 4) (fun i hi => cells_cut hz hc p 4 (by omega) i (by simp at hi; omega))
    have hyl : ((zs.drop p).take 4).length = 4 := by simp; omega
    rw [hyl] at hcv
    clear hi hc hb hyl
    generalize txt ((zs.drop p).take 4) = tx at *
    go_enter Try.func21, Try.ntmps21
    go_wp2_with (go_at_call 15; refine (within_any _ _ _ _ _ _ (by omega) (by omega)).mono ?_; rintro e w' ⟨rfl, rfl⟩; rw [HI.out])
    go_ret2
    exact ⟨by rw [HE.out]; rfl, rfl⟩

theorem four (l : List Int) (h : l.length = 4) : ∃ a b c d, l = [a, b, c, d] := by
  match l, h with
  | [a, b, c, d], _ => exact ⟨a, b, c, d, rfl⟩

set_option maxHeartbeats 800000 in
theorem rtag_any (x : Option Addr) (len cap : Nat) (zs : List Int) (a : Int) (w : World) (hs : Seg w x len zs) (hl : len ≤ cap) (hm : cap ≤ maxLen) :
    Calls Try.prog 22 #[.slice x len cap, .int .i64 a] w fun e w' => e = .returned (.tuple #[.string (tagAt zs a), .bool (inB len a 4)]) ∧ Below w.heap.size w w' := by
  obtain ⟨hz, hb, hx⟩ := hs
  have hmm := hm
  unfold maxLen at hmm
  cases hi : inB len a 4
  · have HE := hide (show tagAt zs a = ByteArray.empty by unfold tagAt; rw [hz, hi]; rfl)
    have HI := hide hi
    clear hi
    go_enter Try.func22, Try.ntmps22
    go_wp2_with (go_at_call 16; refine (rwithin_any _ _ _ _ (by omega)).mono ?_; rintro e w' ⟨rfl, rfl⟩; rw [HI.out])
    go_ret2
    exact ⟨by rw [HE.out]; rfl, Below.refl _ _⟩
  · have hi' := hi
    unfold inB at hi'
    have hd := of_decide_eq_true hi'
    clear hi'
    rcases hx with h | ⟨b, off, rfl, hc⟩
    · omega
    obtain ⟨p, rfl⟩ := Int.eq_ofNat_of_zero_le hd.1
    have HE := hide (show tagAt zs (p : Int) = txt ((zs.drop p).take 4) by unfold tagAt; rw [hz, hi]; simp)
    have HI := hide hi
    have hyl : ((zs.drop p).take 4).length = 4 := by simp; omega
    have hcc := cells_cut hz hc p 4 (by omega)
    have hyb := byt_cut hb p 4
    clear hi hc hb
    generalize (zs.drop p).take 4 = ys at *
    obtain ⟨y0, y1, y2, y3, rfl⟩ := four ys hyl
    have hcv := run_txt (w.alloc (.cells #[.int .u8 y0, .int .u8 y1, .int .u8 y2, .int .u8 y3] 5)).drew w.heap.size 0 4 [y0, y1, y2, y3] hyb (fun i hi => by
      simp only [List.length_cons, List.length_nil, Nat.zero_add, Nat.reduceAdd] at hi
      match i, hi with
      | 0, _ => simp
      | 1, _ => simp
      | 2, _ => simp
      | 3, _ => simp)
    have h0 := hcc 0 (by omega)
    have h1 := hcc 1 (by omega)
    have h2 := hcc 2 (by omega)
    have h3 := hcc 3 (by omega)
    simp only [Nat.add_assoc, Nat.add_zero] at h0 h1 h2 h3
    have g0 : p < len := by omega
    have g1 : p + 1 < len := by omega
    have g2 : p + 2 < len := by omega
    have g3 : p + 3 < len := by omega
    clear hcc hyb hyl
    simp only [List.getD_cons_zero, List.getD_cons_succ] at h0 h1 h2 h3
    simp only [List.length_cons, List.length_nil, Nat.zero_add, Nat.reduceAdd] at hcv
    generalize txt [y0, y1, y2, y3] = tx at *
    go_enter Try.func22, Try.ntmps22
    go_wp2_with (go_at_call 16; refine (rwithin_any _ _ _ _ (by omega)).mono ?_; rintro e w' ⟨rfl, rfl⟩; rw [HI.out])
    go_region
    go_wp2
    go_ret2
    exact ⟨by rw [HE.out]; rfl, ((Below.refl _ _).alloc (Nat.le_refl _) _).drew⟩
end Go.Proofs.Ytpniapegamobmaa.A
