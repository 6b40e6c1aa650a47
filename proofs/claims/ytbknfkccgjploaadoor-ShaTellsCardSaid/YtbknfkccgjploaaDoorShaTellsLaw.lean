/-
  Proved: for any two rows of bytes the law ShaTells answers true, and leaves what came in as it was; the package's two tables are tied to the program's text. Conditions: none beyond the statement's own.
-/
import Derived.Test.YtbknfkccgjploaaDoorShaPadsLaw
import Derived.Test.YtbknfkccgjploaaDoorSameAny
namespace Go.Proofs.YtbknfkccgjploaaDoor
set_option linter.unusedVariables false
open Go.ChangeShapes Go.WideShapes Go.ChangeAt Go.RowKit

theorem padN_inj (a b : List Nat) (ha : a.length ≤ 2000) (hb : b.length ≤ 2000) (h : padN a = padN b) : a = b := by
  rw [padN_eq, padN_eq] at h
  obtain ⟨h1, h2⟩ := List.append_inj' h (by rw [length_putB, length_putB])
  have h3 := congrArg valB h2
  rw [valB_putB, valB_putB, show (256 : Nat) ^ 8 = 18446744073709551616 from rfl] at h3
  have hl : a.length = b.length := by omega
  exact (List.append_inj h1 hl).1
theorem padN_beq (a b : List Nat) (ha : a.length ≤ 2000) (hb : b.length ≤ 2000) : (padN a == padN b) = (a == b) := by
  rw [Bool.eq_iff_iff]
  simp only [beq_iff_eq]
  exact ⟨padN_inj a b ha hb, fun e => by rw [e]⟩
theorem same_two (l l' : List Nat) (x : Bool) (hx : Hid ((l == l') = x)) (n n' : Nat) (hn : n = l.length) (hn' : n' = l'.length) (A A' : Option Addr) (c c' B : Nat) (w : World) (hA : Rd w B A (U8 l)) (hA' : Rd w B A' (U8 l')) (hl : n ≤ 9223372036854775807) (hl' : n' ≤ 9223372036854775807) :
    Calls Tryd.prog 9 #[.slice A n c, .slice A' n' c'] w fun e w' => e = .returned (.bool x) ∧ Below w.heap.size w w' := by
  have h := hx.out
  subst h
  exact same_any l l' n n' hn hn' A A' c c' B w hA hA' hl hl'

set_option maxRecDepth 100000 in
theorem tells_any (a b : List Nat) (n m : Nat) (hn : n = a.length) (hm : m = b.length) (A B : Option Addr) (c d : Nat) (w : World) (hT : Tabs w) (hA : Rd w w.heap.size A (U8 a)) (hB : Rd w w.heap.size B (U8 b)) (hnilA : A = none → c = 0) (hnilB : B = none → d = 0) (hna : n ≤ 2000) (hmb : m ≤ 2000) :
    Calls Tryd.prog 7 #[.slice A n c, .slice B m d] w fun e w' => e = .returned (.bool true) ∧ Below w.heap.size w w' := by
  obtain ⟨x, hx⟩ : ∃ x, (a == b) = x := ⟨_, rfl⟩
  have hpx : (padN a == padN b) = x := by rw [padN_beq a b (by omega) (by omega), hx]
  have HX := Lib.hid hx
  have HPX := Lib.hid hpx
  have HN := Lib.hid hn
  have HM := Lib.hid hm
  have HNA := Lib.hid hnilA
  have HNB := Lib.hid hnilB
  have HT := Lib.hid hT
  have hpa : (padN a).length ≤ 9223372036854775807 := by rw [length_padN, ← hn]; unfold zerosN; omega
  have hpb : (padN b).length ≤ 9223372036854775807 := by rw [length_padN, ← hm]; unfold zerosN; omega
  clear hn hm hnilA hnilB hT hx hpx
  go_enter Tryd.func7, Tryd.ntmps7
  go_wp2_with fail
  refine (summed_any w HT.out).mono ?_
  rintro e w1 ⟨rfl, hb1⟩
  replace hA := hA.next hb1
  replace hB := hB.next hb1
  go_wp2_with fail
  refine (pad_rd a n HN.out A c _ hA HNA.out (by omega)).mono ?_
  rintro e w2 ⟨A2, c2, rfl, hr2, hb2⟩
  replace hA := hA.next hb2
  replace hB := hB.next hb2
  replace hb1 := hb1.trans (hb2.mono hb1.size)
  clear hb2
  go_wp2_with fail
  refine (pad_rd b m HM.out B d _ hB HNB.out (by omega)).mono ?_
  rintro e w3 ⟨A3, c3, rfl, hr3, hb3⟩
  replace hA := hA.next hb3
  replace hB := hB.next hb3
  replace hr2 := hr2.next hb3
  replace hb1 := hb1.trans (hb3.mono hb1.size)
  clear hb3
  go_wp2_with fail
  refine (same_two (padN a) (padN b) x HPX _ _ rfl rfl A2 A3 c2 c3 _ _ hr2 hr3 hpa hpb).mono ?_
  rintro e w4 ⟨rfl, hb4⟩
  replace hA := hA.next hb4
  replace hB := hB.next hb4
  replace hb1 := hb1.trans (hb4.mono hb1.size)
  clear hb4 hr2 hr3
  go_wp2_with fail
  refine (same_two a b x HX _ _ HN.out HM.out A B c d _ _ hA hB (by omega) (by omega)).mono ?_
  rintro e w5 ⟨rfl, hb5⟩
  replace hb1 := hb1.trans (hb5.mono hb1.size)
  clear hb5 hA hB
  go_wp2_with fail
  go_ret
  exact ⟨by simp, hb1⟩

set_option maxRecDepth 100000 in
theorem tells_long (n m : Nat) (A B : Option Addr) (c d : Nat) (w : World) (h1 : n ≤ 9223372036854775807) (h2 : m ≤ 9223372036854775807) (h : 2000 < n ∨ 2000 < m) :
    Calls Tryd.prog 7 #[.slice A n c, .slice B m d] w fun e w' => e = .returned (.bool true) ∧ Below w.heap.size w w' := by
  by_cases h3 : 2000 < n
  · clear h
    go_enter Tryd.func7, Tryd.ntmps7
    go_wp2_with fail
    go_ret
    exact ⟨rfl, Below.refl _ _⟩
  · have h3' : n ≤ 2000 := by omega
    have h4 : 2000 < m := by omega
    clear h h3
    go_enter Tryd.func7, Tryd.ntmps7
    go_wp2_with fail
    go_ret
    exact ⟨rfl, Below.refl _ _⟩

set_option maxRecDepth 100000 in
theorem tells_lifted (os : Os) (started : os.Started) (H : Type) (enc : TypeId × Value → H) :
    ReturnsInHanded {} Tryd.checked os 7 .any (fun w args => (Rows.shaTellsSpec.pre enc Tryd.prog Tryd.f7 [] false w args ∧ laidMetH Tryd.prog Rows.shaPadsRow.laid w) ∧ sizedMet enc Tryd.prog Tryd.f7 (OpenSpec.ofChange Rows.shaTellsSpec) false w args)
      (Rows.shaTellsSpec.post enc Tryd.prog Tryd.f7 false true false false) := by
  refine returnsInHanded_of_change_and (C := Tryd.checked) (X := fun w _ => laidMetH Tryd.prog Rows.shaPadsRow.laid w) (fun _ _ _ hh h => h.of_heap hh) Tryd.own started (by kernel_rfl) Tryd.func7
    (ChangeSpec.witness_shaped (enc := enc) (C := Tryd.checked) (os := os) (X := fun w _ => laidMetH Tryd.prog Rows.shaPadsRow.laid w) false (World.doorLaid Tryd.prog 400 os) #[.slice none 0 0, .slice none 0 0] 8 rfl (World.shaped_of_RefB (by kernel_rfl) (by kernel_rfl)) (by kernel_rfl) (by kernel_rfl) (by kernel_rfl) (door_met os _)) ?_
  intro W base args ds gs before hval0 hW _ _ hL _
  have hval : ∀ (j : Nat) t v, Tryd.f7.params[j]? = some t → args[j]? = some v → Value.okWide Tryd.prog W .any base t v := hval0
  have hW' := hW
  obtain ⟨p, q, hA0, hV, rfl, _, _⟩ := hW'
  have hA : DataW.TrodAll enc Tryd.prog W 0 (fun _ => true) true Tryd.f7.params.toList args.toList ds p := hA0
  rw [Tryd.params7] at hA hval
  obtain ⟨v0, vs0, d0, ds0, p0, q0, hargs, rfl, rfl, h0, r0⟩ := trodAll_cons hA
  obtain ⟨v1, vs1, d1, ds1, p1, q1, rfl, rfl, rfl, h1, r1⟩ := trodAll_cons r0
  obtain ⟨rfl, rfl, rfl⟩ := trodAll_nil r1
  obtain rfl : args = #[v0, v1] := by cases args; simp_all
  obtain ⟨A, l, c, rfl, hr, hl, hm⟩ := open_nats Tryd.underlying22 Tryd.underlying5 Tryd.cellsU8 wf_u8 (hval 0 22 v0 rfl rfl) h0
  obtain ⟨A', l', c', rfl, hr', hl', hm'⟩ := open_nats Tryd.underlying22 Tryd.underlying5 Tryd.cellsU8 wf_u8 (hval 1 22 v1 rfl rfl) h1
  have hnil : A = none → c = 0 := by
    rintro rfl
    exact open_nil Tryd.underlying22 Tryd.underlying5 Tryd.cellsU8 h0
  have hnil' : A' = none → c' = 0 := by
    rintro rfl
    exact open_nil Tryd.underlying22 Tryd.underlying5 Tryd.cellsU8 h1
  unfold maxLen at hm hm'
  have hlaw : Calls Tryd.prog 7 #[.slice A l.length c, .slice A' l'.length c'] W fun e w' => e = .returned (.bool true) ∧ Below W.heap.size W w' := by
    by_cases h : 2000 < l.length ∨ 2000 < l'.length
    · exact tells_long _ _ A A' c c' W hm hm' h
    · exact tells_any l l' _ _ rfl rfl A A' c c' W (tabs_of_laid hL) hr hr' hnil hnil' (by omega) (by omega)
  refine hlaw.mono fun e W' ⟨he, hb⟩ => ?_
  subst he
  exact ⟨_, rfl, law_post Tryd.laidOut Tryd.underlying4 hW rfl (by kernel_rfl) (by kernel_rfl) rfl hb⟩

theorem shaTells_holds : Rows.ShaTellsSaid :=
  OpenClaim.holds_of_wide 7 Tryd.f7 rfl rfl rfl rfl rfl rfl rfl ⟨rfl, rfl, rfl, rfl, rfl⟩ rfl rfl rfl rfl rfl (by kernel_rfl) Tryd.func7 (by kernel_rfl)
    (of_decide_eq_true (by kernel_rfl)) (by unfold Func.isWrapper; first | (rw [if_pos (by decide +kernel)]; kernel_rfl) | (rw [if_neg (by decide +kernel)]; exact ⟨rfl, rfl⟩))
    (fun os started H enc _ => tells_lifted os started H enc)
theorem tells_plain (f : FuncId) (fn : Func) (hf : Tryd.pinned.checked.prog.funcNamed "gateline/gatelinelaw02.ShaTells" = some f) (hfn : Tryd.pinned.checked.prog.funcs[f]? = some fn) :
    false = Tryd.pinned.checked.prog.looks [] ∧ ∀ (j : Nat) t, fn.params[j]? = some t → Tryd.pinned.checked.prog.wantsStandIn t = false := by
  obtain rfl : f = 7 := Option.some.inj ((show Tryd.prog.funcNamed "gateline/gatelinelaw02.ShaTells" = some 7 by kernel_rfl).symm.trans hf) |>.symm
  obtain rfl : fn = Tryd.f7 := (Option.some.inj (Tryd.func7.symm.trans hfn)).symm
  refine ⟨by kernel_rfl, fun j t ht => ?_⟩
  rw [Tryd.params7] at ht
  have hm : t ∈ [22] := by simpa using Array.mem_of_getElem? ht
  have hall : ([22].all fun u => !Tryd.prog.wantsStandIn u) = true := by kernel_rfl
  exact (show Tryd.prog.wantsStandIn t = false by simpa using List.all_eq_true.1 hall t hm)
theorem shaTells_card : Rows.ShaTellsCardSaid :=
  Claim7.holds_tied_plain_at .later [] _ _ _ _ shaTells_holds (fun _ h => by cases h) (by kernel_rfl) (fun _ h => by cases h) shaTells_row_tie rfl ⟨rfl, rfl⟩ (by kernel_rfl) rfl tells_plain (by kernel_rfl)
#print axioms shaTells_card
end Go.Proofs.YtbknfkccgjploaaDoor
