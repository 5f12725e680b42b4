/- Lists of numbers held against each other; categories come back; the law's frame. -/
import Derived.Test.YtgjjmcgmdlfdaaaDoorUa
namespace Go.Proofs.YtgjjmcgmdlfdaaaDoor.A
open Go.ChangeShapes Go.WideShapes Go.ChangeAt Go.RowKit
set_option linter.unusedVariables false

set_option maxHeartbeats 1600000 in
theorem ints_same (a1 a2 : Option Addr) (len c1 c2 : Nat) (l : List Int) (w : World) (hl : l.length = len) (hlen : len ≤ 1000) (h1 : Wd w a1 l) (h2 : Wd w a2 l) :
    Calls Tryd.prog 16 #[.slice a1 len c1, .slice a2 len c2] w fun e w' => e = .returned (.bool true) ∧ Below w.heap.size w w' := by
  have H1 := hide h1
  have H2 := hide h2
  have HL := hide hl
  clear h1 h2 hl
  go_enter Tryd.func16, Tryd.ntmps16
  go_wp2_with fail
  go_loopw [5] (fun u wr => ∃ i : Nat, i ≤ len ∧ u = .int .i64 i ∧ Below w.heap.size w wr) (fun u _ => len - (intOf u).toNat)
  case atStart => exact ⟨0, Nat.zero_le _, rfl, Below.refl _ _⟩
  case round =>
    obtain ⟨i, hi, rfl, hb⟩ := hrel
    have HB := hide hb
    by_cases hlt : i < len
    · obtain ⟨c, hc⟩ : ∃ c, l[i]? = some c := ⟨l[i]'(by rw [HL.out]; exact hlt), by simp⟩
      obtain ⟨b1, o1, rfl, k1⟩ := wd_below hb H1.out i c hc
      obtain ⟨b2, o2, rfl, k2⟩ := wd_below hb H2.out i c hc
      have i3 : (0 : Int) ≤ (i : Int) := by omega
      have i4 : (i : Int) < (len : Int) := by omega
      clear hc hb
      go_wp2
      go_quiet (fail)
      go_wp2
      go_roundw
      case rel => exact ⟨i + 1, by omega, by go_num, below_drewN HB.out _⟩
      case measure => simp [intOf]; omega
    · have e : i = len := by omega
      subst e
      clear hb
      go_wp2
      go_ret
      exact ⟨rfl, HB.out⟩

/-- A category's letter, as a byte. -/
def lb (c : Int) : UInt8 := (letS c).data.toList.headD 0
theorem wordL_map : ∀ l : List Int, l.all catOk = true → wordL l = l.map lb
  | [], _ => rfl
  | c :: r, h => by
    simp only [List.all_cons, Bool.and_eq_true] at h
    have h1 := (letS_ok h.1).2
    rw [List.map_cons, ← wordL_map r h.2]
    show (letS c).data.toList ++ wordL r = lb c :: wordL r
    unfold lb
    match hx : (letS c).data.toList, h1 with
    | [x], _ => rfl
theorem cat_lb : ∀ k : Nat, k < 16 → catB (lb (k : Int)).toNat = (k : Int) := by decide +kernel
theorem cat_back {c : Int} (h : catOk c = true) : catB (lb c).toNat = c := by
  unfold catOk at h
  simp only [Bool.and_eq_true, decide_eq_true_eq] at h
  obtain ⟨k, rfl⟩ : ∃ k : Nat, c = (k : Int) := ⟨c.toNat, by omega⟩
  exact cat_lb k (by omega)
theorem by8_at (L : ByteArray) (k : Nat) (x : UInt8) (h : L.data.toList[k]? = some x) : by8 L k = x.toNat := by
  have hk : k < L.size := (List.getElem?_eq_some_iff.1 h).1
  unfold by8
  rw [dif_pos hk]
  obtain ⟨_, e⟩ := List.getElem?_eq_some_iff.1 h
  rw [← e]
  rfl
theorem cats_word {l : List Int} (h : l.all catOk = true) : catsL (wordF l) = l ∧ catsOk (wordF l) = true ∧ (wordF l).size = l.length := by
  have hw : wordF l = ⟨(wordL l).toArray⟩ := by unfold wordF; rw [if_pos h]
  have hs : (wordF l).size = l.length := by
    rw [hw]
    show (wordL l).toArray.size = _
    rw [List.size_toArray, wordL_len l h]
  have hc : catsL (wordF l) = l := by
    apply List.ext_getElem?
    intro k
    unfold catsL
    by_cases hk : k < (wordF l).size
    · rw [List.getElem?_map, List.getElem?_range hk]
      have hk2 : k < l.length := by omega
      have hx : (wordF l).data.toList[k]? = some (lb l[k]) := by
        rw [hw]
        show ((wordL l).toArray.toList)[k]? = _
        rw [List.toList_toArray, wordL_map l h, List.getElem?_map, List.getElem?_eq_getElem hk2]
        rfl
      rw [Option.map_some, by8_at _ _ _ hx, List.getElem?_eq_getElem hk2]
      rw [List.all_eq_true] at h
      rw [cat_back (h _ (List.getElem_mem hk2))]
    · rw [List.getElem?_eq_none (by simp; omega), List.getElem?_eq_none (by omega)]
  refine ⟨hc, ?_, hs⟩
  unfold catsOk
  rw [hc]
  rw [List.all_eq_true] at h ⊢
  intro c hcm
  have := h c hcm
  unfold catOk at this
  simp only [Bool.and_eq_true, decide_eq_true_eq] at this
  simpa using this.1

theorem own : ownKnob Tryd.prog.godebug = none := by kernel_rfl
theorem laidOut : laidOutB Tryd.prog = true := by kernel_rfl
/-- The frame of a law whose row lists variables, the world's shape kept. -/
theorem of_laid_shaped {H : Type} {enc : TypeId × Value → H} {C : Checked} {os : Os} {f : FuncId} {fn : Func} {s : ChangeSpec} {X : World → Array Value → Prop}
    (hX : ∀ (w w' : World) (args : Array Value), w.heap = w'.heap → X w args → X w' args)
    (hown : ownKnob C.prog.godebug = none) (started : os.Started) (noInit : C.prog.inits.idxOf? f = none) (hfn : C.prog.funcs[f]? = some fn)
    (witness : ∃ (w : World) (tape : Tape) (i : Input), w.os = os ∧ (w.forCall tape i).Shaped C.prog ∧ i.vars = [] ∧ Input.okWide C.prog (w.forCall tape i) .any w.heap.size f i ∧
      ((s.pre enc C.prog fn [] false (w.forCall tape i).memory i.args ∧ X (w.forCall tape i).memory i.args) ∧ sizedMet enc C.prog fn (OpenSpec.ofChange s) false (w.forCall tape i).memory i.args) ∧ ({} : Assume).holds C.prog (lone (Frame.enter C.prog f i.args .normal) [] (w.forCall tape i)))
    (contract : ∀ (W : World) (base : Nat) (args : Array Value) (ds gs : List (DataW H)) (before : List MemPlace),
      (∀ (j : Nat) t v, fn.params[j]? = some t → args[j]? = some v → Value.okWide C.prog W .any base t v) →
      DataW.Whole enc C.prog fn.params.toList s.vars false W args.toList ds gs before → W.ShapedOpen C.prog →
      Calls C.prog f args W fun e W' => ∃ v, e = .returned v ∧ s.post enc C.prog fn false true false false W args v W') :
    ReturnsInHanded {} C os f .any (fun w args => (s.pre enc C.prog fn [] false w args ∧ X w args) ∧ sizedMet enc C.prog fn (OpenSpec.ofChange s) false w args) (s.post enc C.prog fn false true false false) := by
  refine returnsInHanded_of_calls hown started noInit witness ?_
  intro w tape i _ hsh _ hok hpre _
  obtain ⟨_, _, _, fn', hfn', _, _, _, _, hval⟩ := hok
  have e : fn' = fn := Option.some.inj (hfn'.symm.trans hfn)
  subst e
  obtain ⟨⟨⟨ds, gs, before, hw, _⟩, _⟩, _⟩ := hpre
  have hw' := DataW.Whole.of_heap (w' := w.forCall tape i) (by rfl) hw
  refine (contract (w.forCall tape i) w.heap.size i.args ds gs before hval hw' hsh).mono fun e W' ⟨v, he, hp⟩ => ?_
  subst he
  exact ChangeSpec.post_blind hp
/-- What a library's variable holds is some number. -/
theorem maxLen_some {W : World} (h : W.ShapedOpen Tryd.prog) : ∃ m, W.cell? ⟨0, 0, none⟩ = some (.int .i64 m) :=
  cell_of_shapedOpen_int (t := 3) (zero := #[.int .i64 0]) h (by decide +kernel) (by kernel_rfl) rfl (by kernel_rfl) (by kernel_rfl) Tryd.underlying3
end Go.Proofs.YtgjjmcgmdlfdaaaDoor.A
