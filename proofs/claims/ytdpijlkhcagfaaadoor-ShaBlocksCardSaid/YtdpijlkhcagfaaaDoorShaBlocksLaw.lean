/-
  Proved: for all words the law ShaBlocks answers true, and leaves what came in as it was; the package's two tables are tied to the program's text. Conditions: none beyond the statement's own.
-/
import Derived.Test.YtdpijlkhcagfaaaDoorShaBlocksPre
import Derived.Deep.RegionHeld3
import Derived.Test.YtdpijlkhcagfaaaDoorOpenArr
namespace Go.Proofs.YtdpijlkhcagfaaaDoor
set_option linter.unusedVariables false
open Go.ChangeShapes Go.WideShapes Go.ChangeAt Go.RowKit

theorem box_range {w : World} {g : Nat} {cs : List Value} {t : TypeId} (h : w.heap[g]? = some (.cells cs.toArray t (0, 0))) : w.rangeAt g 0 cs := by
  intro i v hv
  rw [cell_of_row w g _ _ _ (0, 0) h, List.getElem?_toArray]
  simpa using hv
/-- Both boxes lie in a world, as lists. -/
def Lies (w : World) (B : Nat) (H X : List Value) : Prop := w.heap[B]? = some (.cells H.toArray 23 (0, 0)) ∧ w.heap[B + 1]? = some (.cells X.toArray 24 (0, 0)) ∧ B + 1 < w.heap.size
theorem Lies.next {w w' : World} {B : Nat} {H X : List Value} (hb : Lies w B H X) (hbel : Below w.heap.size w w') : Lies w' B H X :=
  ⟨(hbel.block _ (by have := hb.2.2; omega)).trans hb.1, (hbel.block _ hb.2.2).trans hb.2.1, Nat.lt_of_lt_of_le hb.2.2 hbel.size⟩
theorem block_arr (h : St) (W : List Nat) (H X : List Value) (R : Array Value) (hH : H = U32 h.list) (hX : X = U32 W) (hR : R = (U32 (blockN h W).list).toArray) (w : World) (hT : Tabs w) (hh : h.ok) (hx : ∀ x ∈ W, x < 4294967296) (hl : W.length = 16) :
    Calls Tryd.prog 9 #[.agg H.toArray, .agg X.toArray] w fun e w' => e = .returned (.agg R) ∧ Below w.heap.size w w' := by
  subst hH hX hR
  exact block_list h W w hT hh hx hl
theorem refblock_arr (h : St) (W : List Nat) (H X : List Value) (R : Array Value) (hH : H = U32 h.list) (hX : X = U32 W) (hR : R = (U32 (blockN h W).list).toArray) (w : World) (hh : h.ok) (hx : ∀ x ∈ W, x < 4294967296) (hl : W.length = 16) :
    Calls Tryd.prog 10 #[.agg H.toArray, .agg X.toArray] w fun e w' => e = .returned (.agg R) ∧ Below w.heap.size w w' := by
  subst hH hX hR
  exact refblock_list h W w hh hx hl
theorem eq_words8 (v : St) (R : Array Value) (hR : R = (U32 v.list).toArray) (w : World) : (Op.equalIn 10000 23 (.agg R) (.agg R)).run Tryd.prog w = .ok true w := by
  subst hR
  exact run_equalIn_same w 9998 23 22 8 .u32 .u32 Tryd.underlying23 Tryd.underlying22 sizeRunU32 [(v.a : Int), (v.b : Int), (v.c : Int), (v.d : Int), (v.e : Int), (v.f : Int), (v.g : Int), (v.h : Int)] rfl

set_option maxRecDepth 100000 in
set_option maxHeartbeats 800000 in
theorem blocks_any (h : St) (xl : List Nat) (w : World) (hT : Tabs w) (hh : h.ok) (hx : ∀ x ∈ xl, x < 4294967296) (hl : xl.length = 16) :
    Calls Tryd.prog 3 #[.agg (U32 h.list).toArray, .agg (U32 xl).toArray] w fun e w' => e = .returned (.bool true) ∧ Below w.heap.size w w' := by
  obtain ⟨H, hH⟩ : ∃ H : List Value, H = U32 h.list := ⟨_, rfl⟩
  obtain ⟨X, hX⟩ : ∃ X : List Value, X = U32 xl := ⟨_, rfl⟩
  obtain ⟨R, hR⟩ : ∃ R : Array Value, R = (U32 (blockN h xl).list).toArray := ⟨_, rfl⟩
  obtain ⟨w0, hw0⟩ : ∃ w0 : World, w0 = (w.alloc (.cells H.toArray 23)).alloc (.cells X.toArray 24) := ⟨_, rfl⟩
  rw [← hH, ← hX]
  obtain ⟨hs0, hr0, hv0, hb0⟩ := two_made hw0
  have hB0 : Lies w0.drew w.heap.size H X := ⟨hr0, hv0, by show _ < w0.heap.size; omega⟩
  have i28 : (Tryd.prog.info? 23).map (·.size) = some H.length := by rw [hH]; exact info28
  have i29 : (Tryd.prog.info? 24).map (·.size) = some X.length := by rw [hX, U32_length, hl]; exact info29
  have HB0 := Lib.hid hB0
  have HT0 := Lib.hid (hT.next hb0)
  have HX := Lib.hid hx
  have HL := Lib.hid hl
  have HHE := Lib.hid hH
  have HXE := Lib.hid hX
  have HRE := Lib.hid hR
  have HW := Lib.hid hw0
  have I28 := Lib.hid i28
  have I29 := Lib.hid i29
  have heq := eq_words8 _ _ hR
  clear hB0 hr0 hv0 hT hx hl hH hX hR hw0 hs0 i28 i29
  go_enter Tryd.func3, Tryd.ntmps3
  go_wp2_with fail
  rw [← HW.out]
  clear HW
  refine wp_region_held_drew (S := fun w' => Lies w' w.heap.size H X) (by kernel_rfl) HB0.out (fun hHeld => ?_)
  refine wpAnyH_ready (rs := [0]) (by kernel_rfl) (by simp) ?_
  refine AllReadyH.cons (o := ⟨some 5, .call _, _, _, _, _⟩) rfl (fun K hK => ?_) AllReadyH.nil
  go_simp
  go_at_call 8
  refine (summed_any _ (HT0.out.next (Below.refl _ _).drew)).mono ?_
  rintro e w1 ⟨rfl, hb1⟩
  go_wp2_with fail
  have K1 := Lib.hid (HB0.out.next hb1)
  have HT1 := Lib.hid ((HT0.out.next (Below.refl _ _).drew).next hb1)
  refine hK.out _ _ K1.out (fun hHeld => ?_)
  clear hK K
  try simp only [Act.put, List.setIfInBounds_toArray, List.set_cons_zero, List.set_cons_succ]
  refine wpAnyH_take (i := 1) (oi := ⟨some 6, _, _, _, _, _⟩) (v := ?_) rfl (by kernel_rfl) (by kernel_rfl) (by kernel_rfl) (fun _ _ _ h => h) (Or.inl ⟨by rfl, ?_⟩) hHeld ?_
  rotate_left
  · intro w hSw
    go_simp
    first | done | with_reducible rfl
  try simp only [Act.put, List.setIfInBounds_toArray, List.set_cons_zero, List.set_cons_succ]
  refine wpAnyH_take (i := 2) (oi := ⟨some 7, .load 23 (.tmp 2), _, _, _, _⟩) rfl (by kernel_rfl) (by kernel_rfl) (by kernel_rfl) (fun _ _ _ h => h) (yieldsIf_load_mid (by rfl) 23 (.tmp 2) rfl w.heap.size 0 rfl H _ (fun w' hS => box_range hS.1) Tryd.underlying23 rfl I28.out) hHeld ?_
  try simp only [Act.put, List.setIfInBounds_toArray, List.set_cons_zero, List.set_cons_succ]
  refine wpAnyH_take (i := 3) (oi := ⟨some 8, .load 24 (.tmp 3), _, _, _, _⟩) rfl (by kernel_rfl) (by kernel_rfl) (by kernel_rfl) (fun _ _ _ h => h) (yieldsIf_load_mid (by rfl) 24 (.tmp 3) rfl (w.heap.size + 1) 0 rfl X _ (fun w' hS => box_range hS.2.1) Tryd.underlying24 rfl I29.out) hHeld ?_
  try simp only [Act.put, List.setIfInBounds_toArray, List.set_cons_zero, List.set_cons_succ]
  refine wpAnyH_take (i := 5) (oi := ⟨some 10, .load 23 (.tmp 2), _, _, _, _⟩) rfl (by kernel_rfl) (by kernel_rfl) (by kernel_rfl) (fun _ _ _ h => h) (yieldsIf_load_mid (by rfl) 23 (.tmp 2) rfl w.heap.size 0 rfl H _ (fun w' hS => box_range hS.1) Tryd.underlying23 rfl I28.out) hHeld ?_
  try simp only [Act.put, List.setIfInBounds_toArray, List.set_cons_zero, List.set_cons_succ]
  refine wpAnyH_take (i := 6) (oi := ⟨some 11, .load 24 (.tmp 3), _, _, _, _⟩) rfl (by kernel_rfl) (by kernel_rfl) (by kernel_rfl) (fun _ _ _ h => h) (yieldsIf_load_mid (by rfl) 24 (.tmp 3) rfl (w.heap.size + 1) 0 rfl X _ (fun w' hS => box_range hS.2.1) Tryd.underlying24 rfl I29.out) hHeld ?_
  try simp only [Act.put, List.setIfInBounds_toArray, List.set_cons_zero, List.set_cons_succ]
  refine wpAnyH_ready (rs := [4]) (by kernel_rfl) (by simp) ?_
  refine AllReadyH.cons (o := ⟨some 9, .call _, _, _, _, _⟩) rfl (fun K hK => ?_) AllReadyH.nil
  go_simp
  go_at_call 9
  refine (block_arr h xl H X R HHE.out HXE.out HRE.out w1 HT1.out hh HX.out HL.out).mono ?_
  rintro e w2 ⟨rfl, hb2⟩
  go_wp2_with fail
  have K2 := Lib.hid (K1.out.next hb2)
  refine hK.out _ _ K2.out (fun hHeld => ?_)
  clear hK K
  try simp only [Act.put, List.setIfInBounds_toArray, List.set_cons_zero, List.set_cons_succ]
  refine wpAnyH_ready (rs := [7]) (by kernel_rfl) (by simp) ?_
  refine AllReadyH.cons (o := ⟨some 12, .call _, _, _, _, _⟩) rfl (fun K hK => ?_) AllReadyH.nil
  go_simp
  go_at_call 10
  refine (refblock_arr h xl H X R HHE.out HXE.out HRE.out w2 hh HX.out HL.out).mono ?_
  rintro e w3 ⟨rfl, hb3⟩
  go_wp2_with fail
  have K3 := Lib.hid (K2.out.next hb3)
  refine hK.out _ _ K3.out (fun hHeld => ?_)
  clear hK K
  try simp only [Act.put, List.setIfInBounds_toArray, List.set_cons_zero, List.set_cons_succ]
  refine wpAnyH_take (i := 8) (oi := ⟨some 13, _, _, _, _, _⟩) (v := ?_) rfl (by kernel_rfl) (by kernel_rfl) (by kernel_rfl) (fun _ _ _ h => h) (Or.inl ⟨by rfl, ?_⟩) hHeld ?_
  rotate_left
  · intro w hSw
    go_simp
    first | done | with_reducible rfl
  try simp only [Act.put, List.setIfInBounds_toArray, List.set_cons_zero, List.set_cons_succ]
  refine wpAnyH_take (i := 9) (oi := ⟨some 14, _, _, _, _, _⟩) (v := ?_) rfl (by kernel_rfl) (by kernel_rfl) (by kernel_rfl) (fun _ _ _ h => h) (Or.inl ⟨by rfl, ?_⟩) hHeld ?_
  rotate_left
  · intro w hSw
    go_simp
    first | done | with_reducible rfl
  try simp only [Act.put, List.setIfInBounds_toArray, List.set_cons_zero, List.set_cons_succ]
  refine wpAnyH_take (i := 10) (oi := ⟨some 4, _, _, _, _, _⟩) (v := ?_) rfl (by kernel_rfl) (by kernel_rfl) (by kernel_rfl) (fun _ _ _ h => h) (Or.inl ⟨by rfl, ?_⟩) hHeld ?_
  rotate_left
  · intro w hSw
    go_simp
    first | done | with_reducible rfl
  try simp only [Act.put, List.setIfInBounds_toArray, List.set_cons_zero, List.set_cons_succ]
  refine wpAnyH_done (by kernel_rfl) ?_ _
  have hbf : Below w.heap.size w w3 := ((hb0.drew.trans (hb1.mono hb0.size)).trans (hb2.mono (Nat.le_trans hb0.size hb1.size))).trans (hb3.mono (Nat.le_trans (Nat.le_trans hb0.size hb1.size) hb2.size))
  go_wp2
  go_ret
  exact ⟨rfl, hbf⟩

theorem list8 (W : List Nat) (h : W.length = 8) : ∃ v : St, W = v.list := by
  match W, h with
  | [a, b, c, d, e, f, g, i], _ => exact ⟨⟨a, b, c, d, e, f, g, i⟩, rfl⟩
theorem St.ok_of {v : St} (h : ∀ x ∈ v.list, x < 4294967296) : v.ok := by
  simp only [St.list, List.mem_cons, List.not_mem_nil, or_false] at h
  exact ⟨h _ (by simp), h _ (by simp), h _ (by simp), h _ (by simp), h _ (by simp), h _ (by simp), h _ (by simp), h _ (by simp)⟩
theorem cellsOf16 : Tryd.prog.cellsOf 24 = 16 := by kernel_rfl

set_option maxRecDepth 100000 in
theorem blocks_lifted (os : Os) (started : os.Started) (H : Type) (enc : TypeId × Value → H) :
    ReturnsInHanded {} Tryd.checked os 3 .any (fun w args => (Rows.shaBlocksSpec.pre enc Tryd.prog Tryd.f3 [] false w args ∧ laidMetH Tryd.prog laidL w) ∧ sizedMet enc Tryd.prog Tryd.f3 (OpenSpec.ofChange Rows.shaBlocksSpec) false w args)
      (Rows.shaBlocksSpec.post enc Tryd.prog Tryd.f3 false true false false) := by
  refine returnsInHanded_of_change_and (C := Tryd.checked) (X := fun w _ => laidMetH Tryd.prog laidL w) (fun _ _ _ hh h => h.of_heap hh) Tryd.own started (by kernel_rfl) Tryd.func3
    (ChangeSpec.witness_shaped (enc := enc) (C := Tryd.checked) (os := os) (X := fun w _ => laidMetH Tryd.prog laidL w) false (World.doorLaid Tryd.prog 400 os) #[.agg z8, .agg z16] 8 rfl (World.shaped_of_RefB (by kernel_rfl) (by kernel_rfl)) (by kernel_rfl) (by kernel_rfl) (by kernel_rfl) (door_met os _)) ?_
  intro W base args ds gs before hval0 hW _ _ hL _
  have hval : ∀ (j : Nat) t v, Tryd.f3.params[j]? = some t → args[j]? = some v → Value.okWide Tryd.prog W .any base t v := hval0
  have hW' := hW
  obtain ⟨p, q, hA0, hV, rfl, _, _⟩ := hW'
  have hA : DataW.TrodAll enc Tryd.prog W 0 (fun _ => true) true Tryd.f3.params.toList args.toList ds p := hA0
  rw [Tryd.params3] at hA hval
  obtain ⟨v0, vs0, d0, ds0, p0, q0, hargs, rfl, rfl, h0, r0⟩ := trodAll_cons hA
  obtain ⟨v1, vs1, d1, ds1, p1, q1, hargs1, rfl, rfl, h1, r1⟩ := trodAll_cons r0
  obtain ⟨rfl, rfl, rfl⟩ := trodAll_nil r1
  obtain rfl : args = #[v0, v1] := by cases args; simp_all
  obtain ⟨l0, rfl, hl0, hb0⟩ := open_nat_array Tryd.underlying23 Tryd.underlying22 Tryd.cellsU32 cellsOf8 wf_u32 (hval 0 23 v0 rfl rfl) h0
  obtain ⟨l1, rfl, hl1, hb1⟩ := open_nat_array Tryd.underlying24 Tryd.underlying22 Tryd.cellsU32 cellsOf16 wf_u32 (hval 1 24 v1 rfl rfl) h1
  obtain ⟨h, rfl⟩ := list8 l0 hl0
  refine (blocks_any h l1 W (tabs_of_laid hL) (St.ok_of hb0) hb1 hl1).mono fun e W' ⟨he, hb⟩ => ?_
  subst he
  exact ⟨_, rfl, law_post Tryd.laidOut Tryd.underlying4 hW rfl (by kernel_rfl) (by kernel_rfl) rfl hb⟩

theorem shaBlocks_holds : Rows.ShaBlocksSaid :=
  OpenClaim.holds_of_wide 3 Tryd.f3 rfl rfl rfl rfl rfl rfl rfl ⟨rfl, rfl, rfl, rfl, rfl⟩ rfl rfl rfl rfl rfl (by kernel_rfl) Tryd.func3 (by kernel_rfl)
    (of_decide_eq_true (by kernel_rfl)) (by unfold Func.isWrapper; first | (rw [if_pos (by decide +kernel)]; kernel_rfl) | (rw [if_neg (by decide +kernel)]; exact ⟨rfl, rfl⟩))
    (fun os started H enc _ => blocks_lifted os started H enc)
theorem blocks_plain (f : FuncId) (fn : Func) (hf : Tryd.pinned.checked.prog.funcNamed "gateline/gatelinelaw02.ShaBlocks" = some f) (hfn : Tryd.pinned.checked.prog.funcs[f]? = some fn) :
    false = Tryd.pinned.checked.prog.looks [] ∧ ∀ (j : Nat) t, fn.params[j]? = some t → Tryd.pinned.checked.prog.wantsStandIn t = false := by
  obtain rfl : f = 3 := Option.some.inj ((show Tryd.prog.funcNamed "gateline/gatelinelaw02.ShaBlocks" = some 3 by kernel_rfl).symm.trans hf) |>.symm
  obtain rfl : fn = Tryd.f3 := (Option.some.inj (Tryd.func3.symm.trans hfn)).symm
  refine ⟨by kernel_rfl, fun j t ht => ?_⟩
  rw [Tryd.params3] at ht
  have hm : t ∈ [23, 24] := by simpa using Array.mem_of_getElem? ht
  have hall : ([23, 24].all fun u => !Tryd.prog.wantsStandIn u) = true := by kernel_rfl
  exact (show Tryd.prog.wantsStandIn t = false by simpa using List.all_eq_true.1 hall t hm)
theorem shaBlocks_card : Rows.ShaBlocksCardSaid :=
  Claim7.holds_tied_plain_at .later [] _ _ _ _ shaBlocks_holds (fun _ h => by cases h) (by kernel_rfl) (fun _ h => by cases h) shaBlocks_row_tie rfl ⟨rfl, rfl⟩ (by kernel_rfl) rfl blocks_plain (by kernel_rfl)
#print axioms shaBlocks_card
end Go.Proofs.YtdpijlkhcagfaaaDoor
