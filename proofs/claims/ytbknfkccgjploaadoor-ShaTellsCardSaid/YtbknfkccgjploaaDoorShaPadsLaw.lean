/-
  Proved: for all bytes the law ShaPads answers true, and leaves what came in as it was; the package's two tables are tied to the program's text. Conditions: none beyond the statement's own.
-/
import Derived.Test.YtbknfkccgjploaaDoorShaLaw
import Derived.Test.YtbknfkccgjploaaDoorSame
namespace Go.Proofs.YtbknfkccgjploaaDoor
set_option linter.unusedVariables false
open Go.ChangeShapes Go.WideShapes Go.ChangeAt Go.RowKit

theorem same_len (l : List Nat) (n : Nat) (hn : n = l.length) (A A' : Option Addr) (c c' B : Nat) (w : World) (hA : Rd w B A (U8 l)) (hA' : Rd w B A' (U8 l)) (hl : n ≤ maxLen) :
    Calls Tryd.prog 9 #[.slice A n c, .slice A' n c'] w fun e w' => e = .returned (.bool true) ∧ Below w.heap.size w w' := by
  subst hn; exact same_eq l A A' c c' B w hA hA' hl
theorem pad_rd (l : List Nat) (n : Nat) (hn : n = l.length) (A : Option Addr) (c : Nat) (w : World) (hA : Rd w w.heap.size A (U8 l)) (hnil : A = none → c = 0) (hl : n ≤ 140737488351232) :
    Calls Tryd.prog 10 #[.slice A n c] w fun e w' => ∃ A' cap, e = .returned (.slice A' (padN l).length cap) ∧ Rd w' w'.heap.size A' (U8 (padN l)) ∧ Below w.heap.size w w' := by
  refine (pad_len l n hn A c w hA hnil hl).mono ?_
  rintro e w' ⟨v, rfl, hown, hb⟩
  obtain ⟨A', cap, rfl, hr⟩ := own_shape hown
  exact ⟨A', cap, rfl, hr, hb⟩
theorem refpad_rd (l : List Nat) (n : Nat) (hn : n = l.length) (A : Option Addr) (c : Nat) (w : World) (hA : Rd w w.heap.size A (U8 l)) (hnil : A = none → c = 0) (hl : n ≤ 5000) :
    Calls Tryd.prog 11 #[.slice A n c] w fun e w' => ∃ A' cap, e = .returned (.slice A' (padN l).length cap) ∧ Rd w' w'.heap.size A' (U8 (padN l)) ∧ Below w.heap.size w w' := by
  subst hn
  refine (refpad_ok l A c w hA hnil hl).mono ?_
  rintro e w' ⟨v, rfl, hown, hb⟩
  obtain ⟨A', cap, rfl, hr⟩ := own_shape hown
  exact ⟨A', cap, rfl, hr, hb⟩

set_option maxRecDepth 100000 in
theorem pads_any (l : List Nat) (n : Nat) (hn : n = l.length) (A : Option Addr) (c : Nat) (w : World) (hT : Tabs w) (hA : Rd w w.heap.size A (U8 l)) (hnil : A = none → c = 0) (hl : n ≤ 5000) :
    Calls Tryd.prog 3 #[.slice A n c] w fun e w' => e = .returned (.bool true) ∧ Below w.heap.size w w' := by
  have HN := Lib.hid hn
  have HNIL := Lib.hid hnil
  have HT := Lib.hid hT
  have hpl : (padN l).length ≤ 9223372036854775807 := by rw [length_padN, ← hn]; unfold zerosN; omega
  clear hn hnil hT
  go_enter Tryd.func3, Tryd.ntmps3
  go_wp2_with fail
  refine (summed_any w HT.out).mono ?_
  rintro e w1 ⟨rfl, hb1⟩
  replace hA := hA.next hb1
  go_wp2_with fail
  refine (pad_rd l n HN.out A c _ hA HNIL.out (by omega)).mono ?_
  rintro e w2 ⟨A2, c2, rfl, hr2, hb2⟩
  replace hA := hA.next hb2
  replace hb1 := hb1.trans (hb2.mono hb1.size)
  clear hb2
  go_wp2_with fail
  refine (refpad_rd l n HN.out A c _ hA HNIL.out hl).mono ?_
  rintro e w3 ⟨A3, c3, rfl, hr3, hb3⟩
  replace hr2 := hr2.next hb3
  replace hb1 := hb1.trans (hb3.mono hb1.size)
  clear hb3 hA
  go_wp2_with fail
  refine (same_len (padN l) _ rfl A2 A3 c2 c3 _ _ hr2 hr3 (by unfold maxLen; exact hpl)).mono ?_
  rintro e w4 ⟨rfl, hb4⟩
  go_wp2_with fail
  go_ret
  exact ⟨rfl, hb1.trans (hb4.mono hb1.size)⟩

set_option maxRecDepth 100000 in
theorem pads_long (n : Nat) (A : Option Addr) (c : Nat) (w : World) (h1 : n ≤ 9223372036854775807) (h : 5000 < n) :
    Calls Tryd.prog 3 #[.slice A n c] w fun e w' => e = .returned (.bool true) ∧ Below w.heap.size w w' := by
  go_enter Tryd.func3, Tryd.ntmps3
  go_wp2_with fail
  go_ret
  exact ⟨rfl, Below.refl _ _⟩

section
variable {H : Type} {enc : TypeId × Value → H} {P : Program}
theorem open_nil {W : World} {t e : TypeId} {k : IntKind} {d : DataW H} {ps : List MemPlace} {c n : Nat} (ht : P.underlying t = some (.slice e)) (he : P.underlying e = some (.int k)) (hc : P.cellsOf e = 1)
    (hd : DataW.Trod enc P W 0 (fun _ => true) true t (.slice none n c) d ps) : c = 0 := by
  obtain ⟨fuel, hf⟩ := hd
  rcases open_ints ht he hc hf with ⟨hcs, _⟩ | ⟨a, len', cap', zs, hcs, _⟩
  · simp [Value.cells] at hcs
    exact hcs.2
  · simp [Value.cells] at hcs
end

set_option maxRecDepth 100000 in
theorem pads_lifted (os : Os) (started : os.Started) (H : Type) (enc : TypeId × Value → H) :
    ReturnsInHanded {} Tryd.checked os 3 .any (fun w args => (Rows.shaPadsSpec.pre enc Tryd.prog Tryd.f3 [] false w args ∧ laidMetH Tryd.prog Rows.shaPadsRow.laid w) ∧ sizedMet enc Tryd.prog Tryd.f3 (OpenSpec.ofChange Rows.shaPadsSpec) false w args)
      (Rows.shaPadsSpec.post enc Tryd.prog Tryd.f3 false true false false) := by
  refine returnsInHanded_of_change_and (C := Tryd.checked) (X := fun w _ => laidMetH Tryd.prog Rows.shaPadsRow.laid w) (fun _ _ _ hh h => h.of_heap hh) Tryd.own started (by kernel_rfl) Tryd.func3
    (ChangeSpec.witness_shaped (enc := enc) (C := Tryd.checked) (os := os) (X := fun w _ => laidMetH Tryd.prog Rows.shaPadsRow.laid w) false (World.doorLaid Tryd.prog 400 os) #[.slice none 0 0] 8 rfl (World.shaped_of_RefB (by kernel_rfl) (by kernel_rfl)) (by kernel_rfl) (by kernel_rfl) (by kernel_rfl) (door_met os _)) ?_
  intro W base args ds gs before hval0 hW _ _ hL _
  have hval : ∀ (j : Nat) t v, Tryd.f3.params[j]? = some t → args[j]? = some v → Value.okWide Tryd.prog W .any base t v := hval0
  have hW' := hW
  obtain ⟨p, q, hA0, hV, rfl, _, _⟩ := hW'
  have hA : DataW.TrodAll enc Tryd.prog W 0 (fun _ => true) true Tryd.f3.params.toList args.toList ds p := hA0
  rw [Tryd.params3] at hA hval
  obtain ⟨v0, vs0, d0, ds0, p0, q0, hargs, rfl, rfl, h0, r0⟩ := trodAll_cons hA
  obtain ⟨rfl, rfl, rfl⟩ := trodAll_nil r0
  obtain rfl : args = #[v0] := by cases args; simp_all
  obtain ⟨A, l, c, rfl, hr, hl, hm⟩ := open_nats Tryd.underlying22 Tryd.underlying5 Tryd.cellsU8 wf_u8 (hval 0 22 v0 rfl rfl) h0
  have hnil : A = none → c = 0 := by
    rintro rfl
    exact open_nil Tryd.underlying22 Tryd.underlying5 Tryd.cellsU8 h0
  unfold maxLen at hm
  have hlaw : Calls Tryd.prog 3 #[.slice A l.length c] W fun e w' => e = .returned (.bool true) ∧ Below W.heap.size W w' := by
    by_cases h : 5000 < l.length
    · exact pads_long _ A c W hm h
    · exact pads_any l _ rfl A c W (tabs_of_laid hL) hr hnil (by omega)
  refine hlaw.mono fun e W' ⟨he, hb⟩ => ?_
  subst he
  exact ⟨_, rfl, law_post Tryd.laidOut Tryd.underlying4 hW rfl (by kernel_rfl) (by kernel_rfl) rfl hb⟩

theorem shaPads_holds : Rows.ShaPadsSaid :=
  OpenClaim.holds_of_wide 3 Tryd.f3 rfl rfl rfl rfl rfl rfl rfl ⟨rfl, rfl, rfl, rfl, rfl⟩ rfl rfl rfl rfl rfl (by kernel_rfl) Tryd.func3 (by kernel_rfl)
    (of_decide_eq_true (by kernel_rfl)) (by unfold Func.isWrapper; first | (rw [if_pos (by decide +kernel)]; kernel_rfl) | (rw [if_neg (by decide +kernel)]; exact ⟨rfl, rfl⟩))
    (fun os started H enc _ => pads_lifted os started H enc)
theorem pads_plain (f : FuncId) (fn : Func) (hf : Tryd.pinned.checked.prog.funcNamed "gateline/gatelinelaw02.ShaPads" = some f) (hfn : Tryd.pinned.checked.prog.funcs[f]? = some fn) :
    false = Tryd.pinned.checked.prog.looks [] ∧ ∀ (j : Nat) t, fn.params[j]? = some t → Tryd.pinned.checked.prog.wantsStandIn t = false := by
  obtain rfl : f = 3 := Option.some.inj ((show Tryd.prog.funcNamed "gateline/gatelinelaw02.ShaPads" = some 3 by kernel_rfl).symm.trans hf) |>.symm
  obtain rfl : fn = Tryd.f3 := (Option.some.inj (Tryd.func3.symm.trans hfn)).symm
  refine ⟨by kernel_rfl, fun j t ht => ?_⟩
  rw [Tryd.params3] at ht
  have hm : t ∈ [22] := by simpa using Array.mem_of_getElem? ht
  have hall : ([22].all fun u => !Tryd.prog.wantsStandIn u) = true := by kernel_rfl
  exact (show Tryd.prog.wantsStandIn t = false by simpa using List.all_eq_true.1 hall t hm)
theorem shaPads_card : Rows.ShaPadsCardSaid :=
  Claim7.holds_tied_plain_at .later [] _ _ _ _ shaPads_holds (fun _ h => by cases h) (by kernel_rfl) (fun _ h => by cases h) shaPads_row_tie rfl ⟨rfl, rfl⟩ (by kernel_rfl) rfl pads_plain (by kernel_rfl)
#print axioms shaPads_card
end Go.Proofs.YtbknfkccgjploaaDoor
