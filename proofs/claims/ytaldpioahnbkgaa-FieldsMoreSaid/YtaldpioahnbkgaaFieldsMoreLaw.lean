/-
  Law FieldsMore walked: it answers true. Conditions: none.
-/
import Derived.Test.YtaldpioahnbkgaaFieldsOK
import Derived.Test.YtaldpioahnbkgaaFieldsPPut
import Derived.Test.YtaldpioahnbkgaaTlvSameAny
import Derived.Test.YtaldpioahnbkgaaFieldsApart
import Derived.RegionTactic
import Derived.BigRegion
import Derived.Deep.RegionWith
namespace Go.Proofs.Ytaldpioahnbkgaa
set_option linter.unusedVariables false
open Go.ChangeShapes Go.WideShapes Go.ChangeAt Go.RowKit

theorem put_two {r : Rg} {l : List Tf} (h : fdPut r = (0, l)) : 2 ≤ l.length := by
  obtain ⟨h1, h2, h3⟩ := fdPut_zero h
  obtain ⟨a1, a2, a3, a4, a5, a6, a7⟩ := (argF_iff r).1 h1
  have hn := (numsB_iff r.t).1 ((okT_iff r.t).1 a1).1
  have k1 : 1 ∈ tagsF 1 (numL (cutU r)) := mem_tagsF (numL (cutU r)) 1 0 (by rw [numL_len]; omega) (by show (cutU r).ver ≠ 0; rw [cut_ver]; omega)
  have k3 : 3 ∈ tagsF 1 (numL (cutU r)) := mem_tagsF (numL (cutU r)) 1 2 (by rw [numL_len]; omega) (by show (cutU r).t.kind ≠ 0; rw [cut_kind]; omega)
  rw [h3, fldF_len]
  generalize tagsF 1 (numL (cutU r)) = ts at k1 k3
  match ts, k1, k3 with
  | [], k1, _ => simp at k1
  | [x], k1, k3 =>
    simp at k1 k3
    omega
  | _ :: _ :: _, _, _ => simp
set_option maxRecDepth 100000 in
set_option maxHeartbeats 1600000 in
theorem fieldsMore_bad (C : ToldOK) (r : Rg) (w : World) (E : Nat) (hp : fdPut r = (E, [])) (h0E : E ≠ 0) : Calls Try.prog 6 #[.agg #[.int .i64 r.t.ser, .int .i64 r.t.kind, .int .i64 r.t.frm, .int .i64 r.t.till, .int .i64 r.t.cls, .int .i64 r.t.card, .int .i64 r.t.seat, .int .i64 r.t.day, .int .i64 r.t.days, .int .i64 r.t.uses, .int .i64 r.t.epoch, .int .i64 r.key, .int .i64 r.left, .int .i64 r.inn, .int .i64 r.ver]] w fun e w' => e = .returned (.bool true) ∧ Below w.heap.size w w' := by
  have HBL := Lib.hid (Below.refl w.heap.size w)
  have HP := Lib.hid hp
  have s1E : ((E : Int) == 0) = false := by rw [beq_eq_false_iff_ne]; omega
  have s2E : ((E : Int) != 0) = true := by rw [bne_iff_ne]; omega
  have s3E : (E == 0) = false := by rw [beq_eq_false_iff_ne]; exact h0E
  have s4E : (E != 0) = true := by rw [bne_iff_ne]; exact h0E
  obtain ⟨v, hv⟩ : ∃ v, IntKind.i64.wrap (r.ver + 1) = v := ⟨_, rfl⟩
  obtain ⟨F, p, hp2⟩ : ∃ F p, fdPut { r with ver := v } = (F, p) := ⟨_, _, rfl⟩
  have HP2 := Lib.hid hp2
  clear hp hp2 h0E
  go_enter Try.func6, Try.ntmps6
  have hs1 := HBL.out.size
  go_wp2_with fail
  obtain ⟨w1, hw⟩ : ∃ w1, w1 = w.alloc (.cells #[.int .i64 r.t.ser, .int .i64 r.t.kind, .int .i64 r.t.frm, .int .i64 r.t.till, .int .i64 r.t.cls, .int .i64 r.t.card, .int .i64 r.t.seat, .int .i64 r.t.day, .int .i64 r.t.days, .int .i64 r.t.uses, .int .i64 r.t.epoch, .int .i64 r.key, .int .i64 r.left, .int .i64 r.inn, .int .i64 r.ver] 27) := ⟨_, rfl⟩
  rw [← hw]
  have hx : RBox w1 w.heap.size r := by rw [hw]; exact RBox.new w r
  have hb : Below w.heap.size w w1 := by rw [hw]; exact below_lit w _ _
  replace HBL := Lib.hid (HBL.out.trans (hb.mono HBL.out.size))
  have X1 := Lib.hid hx
  clear hx hb hw
  obtain ⟨B1, hB⟩ : ∃ B, B = w.heap.size := ⟨_, rfl⟩
  have hB1 : B1 < w1.heap.size := by rw [hB]; exact X1.out.lt
  have hwB1 : w.heap.size ≤ B1 := by rw [hB]; exact hs1
  rw [← hB] at X1 ⊢
  clear hB
  obtain ⟨c0, c1, c2, c3, c4, c5, c6, c7, c8, c9, c10, c11, c12, c13, c14⟩ := X1.out.cells
  go_wp2_with fail
  refine (fput_any r E [] HP.out w1).mono ?_
  rintro e w2 ⟨AP1, cP1, rfl, hs, hb⟩
  clear c0 c1 c2 c3 c4 c5 c6 c7 c8 c9 c10 c11 c12 c13 c14
  replace X1 := Lib.hid (X1.out.next hb)
  replace HBL := Lib.hid (HBL.out.trans (hb.mono HBL.out.size))
  have P1 := Lib.hid hs
  clear hb hs
  have hff := X1.out.frozen 14
  obtain ⟨c0, c1, c2, c3, c4, c5, c6, c7, c8, c9, c10, c11, c12, c13, c14⟩ := X1.out.cells
  go_wp2_with fail
  clear hff c0 c1 c2 c3 c4 c5 c6 c7 c8 c9 c10 c11 c12 c13 c14
  obtain ⟨w3, hw⟩ : ∃ w3, w3 = w2.setCell ⟨B1, 14, none⟩ (.int .i64 v) := ⟨_, rfl⟩
  rw [← hw]
  replace X1 : Hid (RBox w3 B1 { r with ver := v }) := Lib.hid (by rw [hw]; exact heap_setCell_same w2 B1 14 _ _ _ X1.out)
  replace HBL : Hid (Below w.heap.size w w3) := Lib.hid (by rw [hw]; exact HBL.out.setCell (p := ⟨B1, 14, none⟩) hwB1 _)
  clear hw
  refine (fput_any { r with ver := v } F p HP2.out w3).mono ?_
  rintro e w4 ⟨AP2, cP2, rfl, hs, hb⟩
  replace X1 := Lib.hid (X1.out.next hb)
  replace HBL := Lib.hid (HBL.out.trans (hb.mono HBL.out.size))
  have P2 := Lib.hid hs
  clear hb hs
  have hcv := X1.out.cells.2.2.2.2.2.2.2.2.2.2.2.2.2.2
  go_wp2_with fail
  refine (C w4).mono ?_
  rintro e w5 ⟨rfl, hb⟩
  clear hcv
  replace X1 := Lib.hid (X1.out.next hb)
  replace P2 := Lib.hid (P2.out.next hb)
  replace HBL := Lib.hid (HBL.out.trans (hb.mono HBL.out.size))
  clear hb
  go_wp2
  go_ret
  exact ⟨rfl, HBL.out⟩
set_option maxRecDepth 100000 in
set_option maxHeartbeats 1600000 in
theorem fieldsMore_last (C : ToldOK) (r : Rg) (w : World) (p : List Tf) (hp : fdPut r = (0, p)) (hv : 3 < r.ver + 1) : Calls Try.prog 6 #[.agg #[.int .i64 r.t.ser, .int .i64 r.t.kind, .int .i64 r.t.frm, .int .i64 r.t.till, .int .i64 r.t.cls, .int .i64 r.t.card, .int .i64 r.t.seat, .int .i64 r.t.day, .int .i64 r.t.days, .int .i64 r.t.uses, .int .i64 r.t.epoch, .int .i64 r.key, .int .i64 r.left, .int .i64 r.inn, .int .i64 r.ver]] w fun e w' => e = .returned (.bool true) ∧ Below w.heap.size w w' := by
  have HBL := Lib.hid (Below.refl w.heap.size w)
  have HP := Lib.hid hp
  obtain ⟨a1, a2, a3, a4, a5, a6, a7⟩ := (argF_iff r).1 (fdPut_zero hp).1
  have hkw : IntKind.i64.wrap (r.ver + 1) = r.ver + 1 := IntWalk.i64_in _ (by omega)
  obtain ⟨F, q, hp2⟩ : ∃ F q, fdPut { r with ver := r.ver + 1 } = (F, q) := ⟨_, _, rfl⟩
  have HP2 := Lib.hid hp2
  clear hp hp2 a1 a2 a3 a4 a5
  go_enter Try.func6, Try.ntmps6
  have hs1 := HBL.out.size
  go_wp2_with fail
  obtain ⟨w1, hw⟩ : ∃ w1, w1 = w.alloc (.cells #[.int .i64 r.t.ser, .int .i64 r.t.kind, .int .i64 r.t.frm, .int .i64 r.t.till, .int .i64 r.t.cls, .int .i64 r.t.card, .int .i64 r.t.seat, .int .i64 r.t.day, .int .i64 r.t.days, .int .i64 r.t.uses, .int .i64 r.t.epoch, .int .i64 r.key, .int .i64 r.left, .int .i64 r.inn, .int .i64 r.ver] 27) := ⟨_, rfl⟩
  rw [← hw]
  have hx : RBox w1 w.heap.size r := by rw [hw]; exact RBox.new w r
  have hb : Below w.heap.size w w1 := by rw [hw]; exact below_lit w _ _
  replace HBL := Lib.hid (HBL.out.trans (hb.mono HBL.out.size))
  have X1 := Lib.hid hx
  clear hx hb hw
  obtain ⟨B1, hB⟩ : ∃ B, B = w.heap.size := ⟨_, rfl⟩
  have hB1 : B1 < w1.heap.size := by rw [hB]; exact X1.out.lt
  have hwB1 : w.heap.size ≤ B1 := by rw [hB]; exact hs1
  rw [← hB] at X1 ⊢
  clear hB
  obtain ⟨c0, c1, c2, c3, c4, c5, c6, c7, c8, c9, c10, c11, c12, c13, c14⟩ := X1.out.cells
  go_wp2_with fail
  refine (fput_any r 0 p HP.out w1).mono ?_
  rintro e w2 ⟨AP1, cP1, rfl, hs, hb⟩
  clear c0 c1 c2 c3 c4 c5 c6 c7 c8 c9 c10 c11 c12 c13 c14
  replace X1 := Lib.hid (X1.out.next hb)
  replace HBL := Lib.hid (HBL.out.trans (hb.mono HBL.out.size))
  have P1 := Lib.hid hs
  clear hb hs
  have hff := X1.out.frozen 14
  obtain ⟨c0, c1, c2, c3, c4, c5, c6, c7, c8, c9, c10, c11, c12, c13, c14⟩ := X1.out.cells
  go_wp2_with fail
  clear hff c0 c1 c2 c3 c4 c5 c6 c7 c8 c9 c10 c11 c12 c13 c14
  obtain ⟨w3, hw⟩ : ∃ w3, w3 = w2.setCell ⟨B1, 14, none⟩ (.int .i64 (r.ver + 1)) := ⟨_, rfl⟩
  rw [← hw]
  replace X1 : Hid (RBox w3 B1 { r with ver := (r.ver + 1) }) := Lib.hid (by rw [hw]; exact heap_setCell_same w2 B1 14 _ _ _ X1.out)
  replace HBL : Hid (Below w.heap.size w w3) := Lib.hid (by rw [hw]; exact HBL.out.setCell (p := ⟨B1, 14, none⟩) hwB1 _)
  clear hw
  refine (fput_any { r with ver := r.ver + 1 } F q HP2.out w3).mono ?_
  rintro e w4 ⟨AP2, cP2, rfl, hs, hb⟩
  replace X1 := Lib.hid (X1.out.next hb)
  replace HBL := Lib.hid (HBL.out.trans (hb.mono HBL.out.size))
  have P2 := Lib.hid hs
  clear hb hs
  have hcv := X1.out.cells.2.2.2.2.2.2.2.2.2.2.2.2.2.2
  go_wp2_with fail
  refine (C w4).mono ?_
  rintro e w5 ⟨rfl, hb⟩
  clear hcv
  replace X1 := Lib.hid (X1.out.next hb)
  replace P2 := Lib.hid (P2.out.next hb)
  replace HBL := Lib.hid (HBL.out.trans (hb.mono HBL.out.size))
  clear hb
  go_wp2
  go_ret
  exact ⟨rfl, HBL.out⟩
set_option maxRecDepth 100000 in
set_option maxHeartbeats 1600000 in
theorem fieldsMore_ok (C : ToldOK) (r : Rg) (w : World) (f g : Tf) (t : List Tf) (hp : fdPut r = (0, f :: t)) (hv : r.ver + 1 ≤ 3) (hp2 : fdPut { r with ver := r.ver + 1 } = (0, g :: t)) : Calls Try.prog 6 #[.agg #[.int .i64 r.t.ser, .int .i64 r.t.kind, .int .i64 r.t.frm, .int .i64 r.t.till, .int .i64 r.t.cls, .int .i64 r.t.card, .int .i64 r.t.seat, .int .i64 r.t.day, .int .i64 r.t.days, .int .i64 r.t.uses, .int .i64 r.t.epoch, .int .i64 r.key, .int .i64 r.left, .int .i64 r.inn, .int .i64 r.ver]] w fun e w' => e = .returned (.bool true) ∧ Below w.heap.size w w' := by
  have HBL := Lib.hid (Below.refl w.heap.size w)
  have HP := Lib.hid hp
  have h2l := put_two hp
  obtain ⟨a1, a2, a3, a4, a5, a6, a7⟩ := (argF_iff r).1 (fdPut_zero hp).1
  have hkw : IntKind.i64.wrap (r.ver + 1) = r.ver + 1 := IntWalk.i64_in _ (by omega)
  have HP2 := Lib.hid hp2
  obtain ⟨n, hn⟩ : ∃ n, t.length = n := ⟨_, rfl⟩
  rw [List.length_cons, hn] at h2l
  have HN := Lib.hid hn
  have HF := Lib.hid (show (f :: t).length = n + 1 by rw [List.length_cons, hn])
  have HG := Lib.hid (show (g :: t).length = n + 1 by rw [List.length_cons, hn])
  clear hp hp2 a1 a2 a3 a4 a5 hn
  go_enter Try.func6, Try.ntmps6
  have hs1 := HBL.out.size
  go_wp2_with fail
  obtain ⟨w1, hw⟩ : ∃ w1, w1 = w.alloc (.cells #[.int .i64 r.t.ser, .int .i64 r.t.kind, .int .i64 r.t.frm, .int .i64 r.t.till, .int .i64 r.t.cls, .int .i64 r.t.card, .int .i64 r.t.seat, .int .i64 r.t.day, .int .i64 r.t.days, .int .i64 r.t.uses, .int .i64 r.t.epoch, .int .i64 r.key, .int .i64 r.left, .int .i64 r.inn, .int .i64 r.ver] 27) := ⟨_, rfl⟩
  rw [← hw]
  have hx : RBox w1 w.heap.size r := by rw [hw]; exact RBox.new w r
  have hb : Below w.heap.size w w1 := by rw [hw]; exact below_lit w _ _
  replace HBL := Lib.hid (HBL.out.trans (hb.mono HBL.out.size))
  have X1 := Lib.hid hx
  clear hx hb hw
  obtain ⟨B1, hB⟩ : ∃ B, B = w.heap.size := ⟨_, rfl⟩
  have hB1 : B1 < w1.heap.size := by rw [hB]; exact X1.out.lt
  have hwB1 : w.heap.size ≤ B1 := by rw [hB]; exact hs1
  rw [← hB] at X1 ⊢
  clear hB
  obtain ⟨c0, c1, c2, c3, c4, c5, c6, c7, c8, c9, c10, c11, c12, c13, c14⟩ := X1.out.cells
  go_wp2_with fail
  refine (fput_any r 0 (f :: t) HP.out w1).mono ?_
  rintro e w2 ⟨AP1, cP1, rfl, hs, hb⟩
  clear c0 c1 c2 c3 c4 c5 c6 c7 c8 c9 c10 c11 c12 c13 c14
  replace X1 := Lib.hid (X1.out.next hb)
  replace HBL := Lib.hid (HBL.out.trans (hb.mono HBL.out.size))
  have P1 := Lib.hid hs
  clear hb hs
  rw [HF.out]
  have hff := X1.out.frozen 14
  obtain ⟨c0, c1, c2, c3, c4, c5, c6, c7, c8, c9, c10, c11, c12, c13, c14⟩ := X1.out.cells
  go_wp2_with fail
  clear hff c0 c1 c2 c3 c4 c5 c6 c7 c8 c9 c10 c11 c12 c13 c14
  obtain ⟨w3, hw⟩ : ∃ w3, w3 = w2.setCell ⟨B1, 14, none⟩ (.int .i64 (r.ver + 1)) := ⟨_, rfl⟩
  rw [← hw]
  replace P1 : Hid (Ts w3 w3.heap.size (f :: t) AP1 cP1) := Lib.hid (by rw [hw]; have := ts_apart (o := 14) (x := (r.ver + 1)) P1.out X1.out; simpa using this)
  replace X1 : Hid (RBox w3 B1 { r with ver := (r.ver + 1) }) := Lib.hid (by rw [hw]; exact heap_setCell_same w2 B1 14 _ _ _ X1.out)
  replace HBL : Hid (Below w.heap.size w w3) := Lib.hid (by rw [hw]; exact HBL.out.setCell (p := ⟨B1, 14, none⟩) hwB1 _)
  clear hw
  refine (fput_any { r with ver := r.ver + 1 } 0 (g :: t) HP2.out w3).mono ?_
  rintro e w4 ⟨AP2, cP2, rfl, hs, hb⟩
  replace X1 := Lib.hid (X1.out.next hb)
  replace P1 := Lib.hid (P1.out.next hb)
  replace HBL := Lib.hid (HBL.out.trans (hb.mono HBL.out.size))
  have P2 := Lib.hid hs
  clear hb hs
  rw [HG.out]
  obtain ⟨ad1, _, _, rfl, _, _⟩ := P1.out.rd 0 (by simp)
  obtain ⟨ad2, _, _, rfl, _, _⟩ := P2.out.rd 0 (by simp)
  have l1 := P1.out.len
  have l2 := P2.out.len
  have l3 := P1.out.cap
  have l4 := P2.out.cap
  rw [HF.out] at l1
  rw [HG.out] at l2
  have hcv := X1.out.cells.2.2.2.2.2.2.2.2.2.2.2.2.2.2
  have m1 : (1 : Int) ≤ (cP1 : Int) := by omega
  have m2 : (1 : Int) ≤ (cP2 : Int) := by omega
  have m3 : ¬ cP1 = 1 := by omega
  have m4 : ¬ cP2 = 1 := by omega
  have m5 : (n : Int) + 1 ≤ (cP1 : Int) := by omega
  have m6 : (n : Int) + 1 ≤ (cP2 : Int) := by omega
  go_wp2_with fail
  have hbd : Below w4.heap.size w4 w4.drew := below_drewN (Below.refl _ _) 1
  have PD1 := P1.out.next hbd
  have PD2 := P2.out.next hbd
  have HBD := HBL.out.trans (hbd.mono HBL.out.size)
  go_region_with (first | (go_at_call 12; refine (C _).mono ?_; rintro e w8 ⟨rfl, hb8⟩; have PE1 := PD1.next hb8; have PE2 := PD2.next hb8; have HBE := HBD.trans (hb8.mono HBD.size)) | (go_at_call 13; refine (refsame_tlv t n n HN.out.symm HN.out.symm (some (ad1.add 2)) (some (ad2.add 2)) (cP1 - 1) (cP2 - 1) _ PE1.tail PE2.tail).mono ?_; rintro e w9 ⟨rfl, hb9⟩; have HBF := HBE.trans (hb9.mono HBE.size)))
  all_goals (go_wp2; go_ret; exact ⟨rfl, HBF⟩)
set_option maxRecDepth 100000 in
set_option maxHeartbeats 1600000 in
theorem fieldsMore_any (C : ToldOK) (r : Rg) (w : World) : Calls Try.prog 6 #[.agg #[.int .i64 r.t.ser, .int .i64 r.t.kind, .int .i64 r.t.frm, .int .i64 r.t.till, .int .i64 r.t.cls, .int .i64 r.t.card, .int .i64 r.t.seat, .int .i64 r.t.day, .int .i64 r.t.days, .int .i64 r.t.uses, .int .i64 r.t.epoch, .int .i64 r.key, .int .i64 r.left, .int .i64 r.inn, .int .i64 r.ver]] w fun e w' => e = .returned (.bool true) ∧ Below w.heap.size w w' := by
  obtain ⟨E, p, hp⟩ : ∃ E p, fdPut r = (E, p) := ⟨_, _, rfl⟩
  by_cases h0E : E = 0
  · subst h0E
    by_cases hv : r.ver + 1 ≤ 3
    · obtain ⟨f, g, t, rfl, h2⟩ := put_more hp hv
      exact fieldsMore_ok C r w f g t hp hv h2
    · exact fieldsMore_last C r w p hp (by omega)
  · obtain ⟨rfl, _⟩ := fdPut_bad hp h0E
    exact fieldsMore_bad C r w E hp h0E
end Go.Proofs.Ytaldpioahnbkgaa
