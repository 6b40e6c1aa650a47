/-
  Proved: for any secret and bytes the law MacTags answers true, and leaves what came in as it was; the package's two tables are tied to the program's text. Conditions: none beyond the statement's own.
-/
import Derived.Test.YtdpijlkhcagfaaaDoorMacTagged
import Derived.Test.YtdpijlkhcagfaaaDoorMacRefTag
import Derived.Test.YtdpijlkhcagfaaaDoorOpenArr
namespace Go.Proofs.YtdpijlkhcagfaaaDoor
set_option linter.unusedVariables false
open Go.ChangeShapes Go.WideShapes Go.ChangeAt Go.RowKit

theorem eq_arr32 {F : Array Value} {l : List Nat} (h : F = (U8 l).toArray) (hl : l.length = 32) (w : World) : (Op.equalIn 10000 36 (.agg F) (.agg F)).run Tryd.prog w = .ok true w := by
  have h1 := run_equalIn_same (P := Tryd.prog) w 9998 36 5 32 .u8 .u8 Tryd.underlying36 Tryd.underlying5 sizeRunU8 (l.map fun x : Nat => (x : Int)) (by rw [List.length_map, hl])
  rw [List.map_map] at h1
  rw [h]; exact h1
theorem eq_arr64 {F : Array Value} {l : List Nat} (h : F = (U8 l).toArray) (hl : l.length = 64) (w : World) : (Op.equalIn 10000 41 (.agg F) (.agg F)).run Tryd.prog w = .ok true w := by
  have h1 := run_equalIn_same (P := Tryd.prog) w 9998 41 5 64 .u8 .u8 Tryd.underlying41 Tryd.underlying5 sizeRunU8 (l.map fun x : Nat => (x : Int)) (by rw [List.length_map, hl])
  rw [List.map_map] at h1
  rw [h]; exact h1

set_option maxRecDepth 100000 in
theorem tags_any (s b : List Nat) (n m : Nat) (hn : n = s.length) (hm : m = b.length) (A A' : Option Addr) (c c' : Nat) (w : World) (hT : Tabs w) (hA : Rd w w.heap.size A (U8 s)) (hA' : Rd w w.heap.size A' (U8 b)) (hnil : A = none → c = 0) (hnil' : A' = none → c' = 0)
    (hs : ∀ x ∈ s, x < 256) (hb : ∀ x ∈ b, x < 256) (h5 : n ≤ 1000) (h4 : m ≤ 2000) :
    Calls Tryd.prog 5 #[.slice A n c, .slice A' m c'] w fun e w' => e = .returned (.bool true) ∧ Below w.heap.size w w' := by
  obtain ⟨F, hF⟩ : ∃ F : Array Value, F = (U8 (tagN s b)).toArray := ⟨_, rfl⟩
  obtain ⟨X, hX⟩ : ∃ X : Array Value, X = (U8 (blockM s)).toArray := ⟨_, rfl⟩
  have heq1 := eq_arr32 hF (length_dig _)
  have heq2 := eq_arr64 hX (length_blockM s)
  have HN := Lib.hid hn
  have HM := Lib.hid hm
  have HT := Lib.hid hT
  have HA := Lib.hid hA
  have HA' := Lib.hid hA'
  have HNIL := Lib.hid hnil
  have HNIL' := Lib.hid hnil'
  have HS := Lib.hid hs
  have HB := Lib.hid hb
  have HF := Lib.hid hF
  have HX := Lib.hid hX
  clear hn hm hT hA hA' hnil hnil' hs hb hF hX
  go_enter Tryd.func5, Tryd.ntmps5
  go_wp2_with fail
  refine (tagged_any w HT.out).mono ?_
  rintro e w1 ⟨rfl, hb1⟩
  go_wp2_with fail
  refine (mactag_any s b n m HN.out HM.out A A' c c' w1 (HT.out.next hb1) (HA.out.next hb1) (HA'.out.next hb1) HNIL.out HNIL'.out HS.out HB.out (by omega) (by omega) F HF.out).mono ?_
  rintro e w2 ⟨rfl, hb2⟩
  replace hb1 := hb1.trans (hb2.mono hb1.size)
  clear hb2
  go_wp2_with fail
  refine (reftag_any s b n m HN.out HM.out A A' c c' w2 (HA.out.next hb1) (HA'.out.next hb1) HNIL.out HNIL'.out HS.out HB.out (by omega) (by omega) F HF.out).mono ?_
  rintro e w3 ⟨rfl, hb3⟩
  replace hb1 := hb1.trans (hb3.mono hb1.size)
  clear hb3
  go_wp2_with fail
  refine (macblock_any s n HN.out A c w3 (HT.out.next hb1) (HA.out.next hb1) HS.out HNIL.out (by omega) X HX.out).mono ?_
  rintro e w4 ⟨rfl, hb4⟩
  replace hb1 := hb1.trans (hb4.mono hb1.size)
  clear hb4
  go_wp2_with fail
  refine (refblock03_any s n HN.out A c w4 (HA.out.next hb1) HS.out HNIL.out (by omega) X HX.out).mono ?_
  rintro e w5 ⟨rfl, hb5⟩
  replace hb1 := hb1.trans (hb5.mono hb1.size)
  clear hb5
  go_wp2_with fail
  go_ret
  exact ⟨rfl, hb1⟩

set_option maxRecDepth 100000 in
theorem tags_long1 (n m : Nat) (A A' : Option Addr) (c c' : Nat) (w : World) (h1 : n ≤ 9223372036854775807) (h2 : m ≤ 9223372036854775807) (h : 1000 < n) :
    Calls Tryd.prog 5 #[.slice A n c, .slice A' m c'] w fun e w' => e = .returned (.bool true) ∧ Below w.heap.size w w' := by
  go_enter Tryd.func5, Tryd.ntmps5
  go_wp2_with fail
  go_ret
  exact ⟨rfl, Below.refl _ _⟩
set_option maxRecDepth 100000 in
theorem tags_long2 (n m : Nat) (A A' : Option Addr) (c c' : Nat) (w : World) (h1 : n ≤ 1000) (h2 : m ≤ 9223372036854775807) (h : 2000 < m) :
    Calls Tryd.prog 5 #[.slice A n c, .slice A' m c'] w fun e w' => e = .returned (.bool true) ∧ Below w.heap.size w w' := by
  go_enter Tryd.func5, Tryd.ntmps5
  go_wp2_with fail
  go_ret
  exact ⟨rfl, Below.refl _ _⟩

set_option maxRecDepth 100000 in
theorem tags_lifted (os : Os) (started : os.Started) (H : Type) (enc : TypeId × Value → H) :
    ReturnsInHanded {} Tryd.checked os 5 .any (fun w args => (Rows.macTagsSpec.pre enc Tryd.prog Tryd.f5 [] false w args ∧ laidMetH Tryd.prog laidL w) ∧ sizedMet enc Tryd.prog Tryd.f5 (OpenSpec.ofChange Rows.macTagsSpec) false w args)
      (Rows.macTagsSpec.post enc Tryd.prog Tryd.f5 false true false false) := by
  refine returnsInHanded_of_change_and (C := Tryd.checked) (X := fun w _ => laidMetH Tryd.prog laidL w) (fun _ _ _ hh h => h.of_heap hh) Tryd.own started (by kernel_rfl) Tryd.func5
    (ChangeSpec.witness_shaped (enc := enc) (C := Tryd.checked) (os := os) (X := fun w _ => laidMetH Tryd.prog laidL w) false (World.doorLaid Tryd.prog 400 os) #[.slice none 0 0, .slice none 0 0] 8 rfl (World.shaped_of_RefB (by kernel_rfl) (by kernel_rfl)) (by kernel_rfl) (by kernel_rfl) (by kernel_rfl) (door_met os _)) ?_
  intro W base args ds gs before hval0 hW _ hsz hL _
  have hval : ∀ (j : Nat) t v, Tryd.f5.params[j]? = some t → args[j]? = some v → Value.okWide Tryd.prog W .any base t v := hval0
  have hW' := hW
  obtain ⟨p, q, hA0, hV, rfl, _, _⟩ := hW'
  have hA : DataW.TrodAll enc Tryd.prog W 0 (fun _ => true) true Tryd.f5.params.toList args.toList ds p := hA0
  rw [Tryd.params5] at hA hval
  obtain ⟨v0, vs0, d0, ds0, p0, q0, hargs0, rfl, rfl, h0, r0⟩ := trodAll_cons hA
  obtain ⟨v1, vs1, d1, ds1, p1, q1, hargs1, rfl, rfl, h1, r1⟩ := trodAll_cons r0
  obtain ⟨rfl, rfl, rfl⟩ := trodAll_nil r1
  obtain rfl : args = #[v0, v1] := by cases args; simp_all
  obtain ⟨A0, l0, c0, rfl, hr0, hl0, hc0, hm0, hn0, hw0⟩ := open_nats_full Tryd.underlying28 Tryd.underlying5 Tryd.cellsU8 wf_u8 (hval 0 28 v0 rfl rfl) h0
  obtain ⟨A1, l1, c1, rfl, hr1, hl1, hc1, hm1, hn1, hw1⟩ := open_nats_full Tryd.underlying28 Tryd.underlying5 Tryd.cellsU8 wf_u8 (hval 1 28 v1 rfl rfl) h1
  unfold maxLen at hm0 hm1
  have hlaw : Calls Tryd.prog 5 #[.slice A0 l0.length c0, .slice A1 l1.length c1] W fun e w' => e = .returned (.bool true) ∧ Below W.heap.size W w' := by
    by_cases h : 1000 < l0.length
    · exact tags_long1 _ _ A0 A1 c0 c1 W (by omega) (by omega) h
    · by_cases h' : 2000 < l1.length
      · exact tags_long2 _ _ A0 A1 c0 c1 W (by omega) (by omega) h'
      · exact tags_any l0 l1 _ _ rfl rfl A0 A1 c0 c1 W (tabs_of_laid hL) hr0 hr1 hn0 hn1 hl0 hl1 (by omega) (by omega)
  refine hlaw.mono fun e W' ⟨he, hb⟩ => ?_
  subst he
  exact ⟨_, rfl, law_post Tryd.laidOut Tryd.underlying4 hW rfl (by kernel_rfl) (by kernel_rfl) rfl hb⟩

theorem macTags_holds : Rows.MacTagsSaid :=
  OpenClaim.holds_of_wide 5 Tryd.f5 rfl rfl rfl rfl rfl rfl rfl ⟨rfl, rfl, rfl, rfl, rfl⟩ rfl rfl rfl rfl rfl (by kernel_rfl) Tryd.func5 (by kernel_rfl)
    (of_decide_eq_true (by kernel_rfl)) (by unfold Func.isWrapper; first | (rw [if_pos (by decide +kernel)]; kernel_rfl) | (rw [if_neg (by decide +kernel)]; exact ⟨rfl, rfl⟩))
    (fun os started H enc _ => tags_lifted os started H enc)
theorem tags_plain (f : FuncId) (fn : Func) (hf : Tryd.pinned.checked.prog.funcNamed "gateline/gatelinelaw03.MacTags" = some f) (hfn : Tryd.pinned.checked.prog.funcs[f]? = some fn) :
    false = Tryd.pinned.checked.prog.looks [] ∧ ∀ (j : Nat) t, fn.params[j]? = some t → Tryd.pinned.checked.prog.wantsStandIn t = false := by
  obtain rfl : f = 5 := Option.some.inj ((show Tryd.prog.funcNamed "gateline/gatelinelaw03.MacTags" = some 5 by kernel_rfl).symm.trans hf) |>.symm
  obtain rfl : fn = Tryd.f5 := (Option.some.inj (Tryd.func5.symm.trans hfn)).symm
  refine ⟨by kernel_rfl, fun j t ht => ?_⟩
  rw [Tryd.params5] at ht
  have hm : t ∈ [28, 28] := by simpa using Array.mem_of_getElem? ht
  have hall : ([28, 28].all fun u => !Tryd.prog.wantsStandIn u) = true := by kernel_rfl
  exact (show Tryd.prog.wantsStandIn t = false by simpa using List.all_eq_true.1 hall t hm)
theorem macTags_card : Rows.MacTagsCardSaid :=
  Claim7.holds_tied_plain_at .later [] _ _ _ _ macTags_holds (fun _ h => by cases h) (by kernel_rfl) (fun _ h => by cases h) macTags_row_tie rfl ⟨rfl, rfl⟩ (by kernel_rfl) rfl tags_plain (by kernel_rfl)
#print axioms macTags_card
end Go.Proofs.YtdpijlkhcagfaaaDoor
