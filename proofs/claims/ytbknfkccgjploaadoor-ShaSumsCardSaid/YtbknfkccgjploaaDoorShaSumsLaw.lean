/-
  Proved: for all bytes the law ShaSums answers true, and leaves what came in as it was; the package's two tables are tied to the program's text. Conditions: none beyond the statement's own.
-/
import Derived.Test.YtbknfkccgjploaaDoorShaPadsLaw
import Derived.Test.YtbknfkccgjploaaDoorShaRefSum
namespace Go.Proofs.YtbknfkccgjploaaDoor
set_option linter.unusedVariables false
open Go.ChangeShapes Go.WideShapes Go.ChangeAt Go.RowKit

theorem sum_arr (l : List Nat) (FD : Array Value) (hF : Hid (FD = (U8 (digestN l)).toArray)) (n : Nat) (hn : n = l.length) (A : Option Addr) (c : Nat) (w : World) (hT : Tabs w) (hA : Rd w w.heap.size A (U8 l)) (hnil : A = none → c = 0) (hb : ∀ x ∈ l, x < 256) (hl : n ≤ 5000) :
    Calls Tryd.prog 14 #[.slice A n c] w fun e w' => e = .returned (.agg FD) ∧ Below w.heap.size w w' := by
  rw [hF.out]
  exact sum_len l n hn A c w hT hA hnil hb hl
theorem refsum_arr (l : List Nat) (FD : Array Value) (hF : Hid (FD = (U8 (digestN l)).toArray)) (n : Nat) (hn : n = l.length) (A : Option Addr) (c : Nat) (w : World) (hA : Rd w w.heap.size A (U8 l)) (hnil : A = none → c = 0) (hb : ∀ x ∈ l, x < 256) (hl : n ≤ 5000) :
    Calls Tryd.prog 15 #[.slice A n c] w fun e w' => e = .returned (.agg FD) ∧ Below w.heap.size w w' := by
  rw [hF.out]
  subst hn
  exact refsum_ok l A c w hA hnil hb hl
theorem length_digestN (l : List Nat) : (digestN l).length = 32 := by unfold digestN; rw [length_bytesOf]; rfl
theorem same_digest (l : List Nat) (FD : Array Value) (hF : FD = (U8 (digestN l)).toArray) (w : World) : (Op.equalIn 10000 32 (.agg FD) (.agg FD)).run Tryd.prog w = .ok true w := by
  have h := run_equalIn_same (P := Tryd.prog) w 9998 32 5 32 .u8 .u8 Tryd.underlying32 Tryd.underlying5 sizeRunU8 ((digestN l).map fun x : Nat => (x : Int)) (by rw [List.length_map, length_digestN])
  rw [List.map_map] at h
  rw [hF]
  exact h

set_option maxRecDepth 100000 in
theorem sums_any (l : List Nat) (n : Nat) (hn : n = l.length) (A : Option Addr) (c : Nat) (w : World) (hT : Tabs w) (hA : Rd w w.heap.size A (U8 l)) (hb : ∀ x ∈ l, x < 256) (hnil : A = none → c = 0) (hl : n ≤ 2000) :
    Calls Tryd.prog 5 #[.slice A n c] w fun e w' => e = .returned (.bool true) ∧ Below w.heap.size w w' := by
  obtain ⟨FD, hF⟩ : ∃ FD : Array Value, FD = (U8 (digestN l)).toArray := ⟨_, rfl⟩
  have heq := same_digest l FD hF
  have HF := Lib.hid hF
  have HN := Lib.hid hn
  have HNIL := Lib.hid hnil
  have HT := Lib.hid hT
  have HB := Lib.hid hb
  clear hn hnil hT hb hF
  go_enter Tryd.func5, Tryd.ntmps5
  go_wp2_with fail
  refine (summed_any w HT.out).mono ?_
  rintro e w1 ⟨rfl, hb1⟩
  have HT1 := Lib.hid (HT.out.next hb1)
  replace hA := hA.next hb1
  go_wp2_with fail
  refine (sum_arr l FD HF n HN.out A c _ HT1.out hA HNIL.out HB.out (by omega)).mono ?_
  rintro e w2 ⟨rfl, hb2⟩
  replace hA := hA.next hb2
  replace hb1 := hb1.trans (hb2.mono hb1.size)
  clear hb2
  go_wp2_with fail
  refine (refsum_arr l FD HF n HN.out A c _ hA HNIL.out HB.out (by omega)).mono ?_
  rintro e w3 ⟨rfl, hb3⟩
  replace hb1 := hb1.trans (hb3.mono hb1.size)
  clear hb3 hA
  go_wp2_with fail
  go_ret
  exact ⟨rfl, hb1⟩

set_option maxRecDepth 100000 in
theorem sums_long (n : Nat) (A : Option Addr) (c : Nat) (w : World) (h1 : n ≤ 9223372036854775807) (h : 2000 < n) :
    Calls Tryd.prog 5 #[.slice A n c] w fun e w' => e = .returned (.bool true) ∧ Below w.heap.size w w' := by
  go_enter Tryd.func5, Tryd.ntmps5
  go_wp2_with fail
  go_ret
  exact ⟨rfl, Below.refl _ _⟩

set_option maxRecDepth 100000 in
theorem sums_lifted (os : Os) (started : os.Started) (H : Type) (enc : TypeId × Value → H) :
    ReturnsInHanded {} Tryd.checked os 5 .any (fun w args => (Rows.shaSumsSpec.pre enc Tryd.prog Tryd.f5 [] false w args ∧ laidMetH Tryd.prog Rows.shaPadsRow.laid w) ∧ sizedMet enc Tryd.prog Tryd.f5 (OpenSpec.ofChange Rows.shaSumsSpec) false w args)
      (Rows.shaSumsSpec.post enc Tryd.prog Tryd.f5 false true false false) := by
  refine returnsInHanded_of_change_and (C := Tryd.checked) (X := fun w _ => laidMetH Tryd.prog Rows.shaPadsRow.laid w) (fun _ _ _ hh h => h.of_heap hh) Tryd.own started (by kernel_rfl) Tryd.func5
    (ChangeSpec.witness_shaped (enc := enc) (C := Tryd.checked) (os := os) (X := fun w _ => laidMetH Tryd.prog Rows.shaPadsRow.laid w) false (World.doorLaid Tryd.prog 400 os) #[.slice none 0 0] 8 rfl (World.shaped_of_RefB (by kernel_rfl) (by kernel_rfl)) (by kernel_rfl) (by kernel_rfl) (by kernel_rfl) (door_met os _)) ?_
  intro W base args ds gs before hval0 hW _ _ hL _
  have hval : ∀ (j : Nat) t v, Tryd.f5.params[j]? = some t → args[j]? = some v → Value.okWide Tryd.prog W .any base t v := hval0
  have hW' := hW
  obtain ⟨p, q, hA0, hV, rfl, _, _⟩ := hW'
  have hA : DataW.TrodAll enc Tryd.prog W 0 (fun _ => true) true Tryd.f5.params.toList args.toList ds p := hA0
  rw [Tryd.params5] at hA hval
  obtain ⟨v0, vs0, d0, ds0, p0, q0, hargs, rfl, rfl, h0, r0⟩ := trodAll_cons hA
  obtain ⟨rfl, rfl, rfl⟩ := trodAll_nil r0
  obtain rfl : args = #[v0] := by cases args; simp_all
  obtain ⟨A, l, c, rfl, hr, hl, hm⟩ := open_nats Tryd.underlying22 Tryd.underlying5 Tryd.cellsU8 wf_u8 (hval 0 22 v0 rfl rfl) h0
  have hnil : A = none → c = 0 := by
    rintro rfl
    exact open_nil Tryd.underlying22 Tryd.underlying5 Tryd.cellsU8 h0
  unfold maxLen at hm
  have hlaw : Calls Tryd.prog 5 #[.slice A l.length c] W fun e w' => e = .returned (.bool true) ∧ Below W.heap.size W w' := by
    by_cases h : 2000 < l.length
    · exact sums_long _ A c W hm h
    · exact sums_any l _ rfl A c W (tabs_of_laid hL) hr hl hnil (by omega)
  refine hlaw.mono fun e W' ⟨he, hb⟩ => ?_
  subst he
  exact ⟨_, rfl, law_post Tryd.laidOut Tryd.underlying4 hW rfl (by kernel_rfl) (by kernel_rfl) rfl hb⟩

theorem shaSums_holds : Rows.ShaSumsSaid :=
  OpenClaim.holds_of_wide 5 Tryd.f5 rfl rfl rfl rfl rfl rfl rfl ⟨rfl, rfl, rfl, rfl, rfl⟩ rfl rfl rfl rfl rfl (by kernel_rfl) Tryd.func5 (by kernel_rfl)
    (of_decide_eq_true (by kernel_rfl)) (by unfold Func.isWrapper; first | (rw [if_pos (by decide +kernel)]; kernel_rfl) | (rw [if_neg (by decide +kernel)]; exact ⟨rfl, rfl⟩))
    (fun os started H enc _ => sums_lifted os started H enc)
theorem sums_plain (f : FuncId) (fn : Func) (hf : Tryd.pinned.checked.prog.funcNamed "gateline/gatelinelaw02.ShaSums" = some f) (hfn : Tryd.pinned.checked.prog.funcs[f]? = some fn) :
    false = Tryd.pinned.checked.prog.looks [] ∧ ∀ (j : Nat) t, fn.params[j]? = some t → Tryd.pinned.checked.prog.wantsStandIn t = false := by
  obtain rfl : f = 5 := Option.some.inj ((show Tryd.prog.funcNamed "gateline/gatelinelaw02.ShaSums" = some 5 by kernel_rfl).symm.trans hf) |>.symm
  obtain rfl : fn = Tryd.f5 := (Option.some.inj (Tryd.func5.symm.trans hfn)).symm
  refine ⟨by kernel_rfl, fun j t ht => ?_⟩
  rw [Tryd.params5] at ht
  have hm : t ∈ [22] := by simpa using Array.mem_of_getElem? ht
  have hall : ([22].all fun u => !Tryd.prog.wantsStandIn u) = true := by kernel_rfl
  exact (show Tryd.prog.wantsStandIn t = false by simpa using List.all_eq_true.1 hall t hm)
theorem shaSums_card : Rows.ShaSumsCardSaid :=
  Claim7.holds_tied_plain_at .later [] _ _ _ _ shaSums_holds (fun _ h => by cases h) (by kernel_rfl) (fun _ h => by cases h) shaSums_row_tie rfl ⟨rfl, rfl⟩ (by kernel_rfl) rfl sums_plain (by kernel_rfl)
#print axioms shaSums_card
end Go.Proofs.YtbknfkccgjploaaDoor
