/-
  Law FieldsUnlike walked: it answers true. Conditions: none.
-/
import Derived.Test.YtaldpioahnbkgaaFieldsOK
import Derived.Test.YtaldpioahnbkgaaFieldsPPut
import Derived.Test.YtaldpioahnbkgaaTlvSameAny
import Derived.Test.YtaldpioahnbkgaaLayEq
import Derived.RegionTactic
import Derived.BigRegion
import Derived.Deep.RegionWith
namespace Go.Proofs.Ytaldpioahnbkgaa
set_option linter.unusedVariables false
open Go.ChangeShapes Go.WideShapes Go.ChangeAt Go.RowKit

set_option maxRecDepth 100000 in
set_option maxHeartbeats 1600000 in
theorem fieldsUnlike_a (C : ToldOK) (r s : Rg) (w : World) (E : Nat) (hp : fdPut r = (E, [])) (h0E : E ≠ 0) (F : Nat) (q : List Tf) (hq : fdPut s = (F, q)) : Calls Try.prog 7 #[.agg #[.int .i64 r.t.ser, .int .i64 r.t.kind, .int .i64 r.t.frm, .int .i64 r.t.till, .int .i64 r.t.cls, .int .i64 r.t.card, .int .i64 r.t.seat, .int .i64 r.t.day, .int .i64 r.t.days, .int .i64 r.t.uses, .int .i64 r.t.epoch, .int .i64 r.key, .int .i64 r.left, .int .i64 r.inn, .int .i64 r.ver], .agg #[.int .i64 s.t.ser, .int .i64 s.t.kind, .int .i64 s.t.frm, .int .i64 s.t.till, .int .i64 s.t.cls, .int .i64 s.t.card, .int .i64 s.t.seat, .int .i64 s.t.day, .int .i64 s.t.days, .int .i64 s.t.uses, .int .i64 s.t.epoch, .int .i64 s.key, .int .i64 s.left, .int .i64 s.inn, .int .i64 s.ver]] w fun e w' => e = .returned (.bool true) ∧ Below w.heap.size w w' := by
  have HBL := Lib.hid (Below.refl w.heap.size w)
  have HP := Lib.hid hp
  have HQ := Lib.hid hq
  have s1E : ((E : Int) == 0) = false := by rw [beq_eq_false_iff_ne]; omega
  have s2E : ((E : Int) != 0) = true := by rw [bne_iff_ne]; omega
  have s3E : (E == 0) = false := by rw [beq_eq_false_iff_ne]; exact h0E
  have s4E : (E != 0) = true := by rw [bne_iff_ne]; exact h0E
  clear h0E
  clear hp hq
  go_enter Try.func7, Try.ntmps7
  go_wp2_with fail
  obtain ⟨w1, hw1⟩ : ∃ w1, w1 = w.alloc (.cells #[.int .i64 r.t.ser, .int .i64 r.t.kind, .int .i64 r.t.frm, .int .i64 r.t.till, .int .i64 r.t.cls, .int .i64 r.t.card, .int .i64 r.t.seat, .int .i64 r.t.day, .int .i64 r.t.days, .int .i64 r.t.uses, .int .i64 r.t.epoch, .int .i64 r.key, .int .i64 r.left, .int .i64 r.inn, .int .i64 r.ver] 27) := ⟨_, rfl⟩
  obtain ⟨w2, hw2⟩ : ∃ w2, w2 = w1.alloc (.cells #[.int .i64 s.t.ser, .int .i64 s.t.kind, .int .i64 s.t.frm, .int .i64 s.t.till, .int .i64 s.t.cls, .int .i64 s.t.card, .int .i64 s.t.seat, .int .i64 s.t.day, .int .i64 s.t.days, .int .i64 s.t.uses, .int .i64 s.t.epoch, .int .i64 s.key, .int .i64 s.left, .int .i64 s.inn, .int .i64 s.ver] 27) := ⟨_, rfl⟩
  have hz : w1.heap.size = w.heap.size + 1 := by rw [hw1, World.size_alloc]
  have X1 := Lib.hid (show RBox w2 w.heap.size r by rw [hw2, hw1]; exact (RBox.new w r).alloc _)
  have X2 := Lib.hid (show RBox w2 (w.heap.size + 1) s by rw [← hz, hw2]; exact RBox.new w1 s)
  replace HBL := Lib.hid (show Below w.heap.size w w2 by rw [hw2, hw1]; exact ((Below.refl _ _).alloc (Nat.le_refl _) _).alloc (by simp) _)
  rw [← hw1, ← hw2]
  clear hw1 hw2 hz
  obtain ⟨c0, c1, c2, c3, c4, c5, c6, c7, c8, c9, c10, c11, c12, c13, c14⟩ := X1.out.cells
  go_wp2_with fail
  refine (fput_any r E [] HP.out w2).mono ?_
  rintro e w3 ⟨AP1, cP1, rfl, hs, hb⟩
  clear c0 c1 c2 c3 c4 c5 c6 c7 c8 c9 c10 c11 c12 c13 c14
  replace X1 := Lib.hid (X1.out.next hb)
  replace X2 := Lib.hid (X2.out.next hb)
  replace HBL := Lib.hid (HBL.out.trans (hb.mono HBL.out.size))
  have P1 := Lib.hid hs
  clear hb hs
  obtain ⟨c0, c1, c2, c3, c4, c5, c6, c7, c8, c9, c10, c11, c12, c13, c14⟩ := X2.out.cells
  go_wp2_with fail
  refine (fput_any s F q HQ.out w3).mono ?_
  rintro e w4 ⟨AP2, cP2, rfl, hs, hb⟩
  clear c0 c1 c2 c3 c4 c5 c6 c7 c8 c9 c10 c11 c12 c13 c14
  replace X1 := Lib.hid (X1.out.next hb)
  replace X2 := Lib.hid (X2.out.next hb)
  replace P1 := Lib.hid (P1.out.next hb)
  replace HBL := Lib.hid (HBL.out.trans (hb.mono HBL.out.size))
  have P2 := Lib.hid hs
  clear hb hs
  go_wp2_with fail
  refine (C w4).mono ?_
  rintro e w5 ⟨rfl, hb⟩
  replace X1 := Lib.hid (X1.out.next hb)
  replace X2 := Lib.hid (X2.out.next hb)
  replace P1 := Lib.hid (P1.out.next hb)
  replace P2 := Lib.hid (P2.out.next hb)
  replace HBL := Lib.hid (HBL.out.trans (hb.mono HBL.out.size))
  clear hb
  go_wp2
  go_ret
  exact ⟨rfl, HBL.out⟩
set_option maxRecDepth 100000 in
set_option maxHeartbeats 1600000 in
theorem fieldsUnlike_b (C : ToldOK) (r s : Rg) (w : World) (p : List Tf) (hp : fdPut r = (0, p)) (F : Nat) (hq : fdPut s = (F, [])) (h0F : F ≠ 0) : Calls Try.prog 7 #[.agg #[.int .i64 r.t.ser, .int .i64 r.t.kind, .int .i64 r.t.frm, .int .i64 r.t.till, .int .i64 r.t.cls, .int .i64 r.t.card, .int .i64 r.t.seat, .int .i64 r.t.day, .int .i64 r.t.days, .int .i64 r.t.uses, .int .i64 r.t.epoch, .int .i64 r.key, .int .i64 r.left, .int .i64 r.inn, .int .i64 r.ver], .agg #[.int .i64 s.t.ser, .int .i64 s.t.kind, .int .i64 s.t.frm, .int .i64 s.t.till, .int .i64 s.t.cls, .int .i64 s.t.card, .int .i64 s.t.seat, .int .i64 s.t.day, .int .i64 s.t.days, .int .i64 s.t.uses, .int .i64 s.t.epoch, .int .i64 s.key, .int .i64 s.left, .int .i64 s.inn, .int .i64 s.ver]] w fun e w' => e = .returned (.bool true) ∧ Below w.heap.size w w' := by
  have HBL := Lib.hid (Below.refl w.heap.size w)
  have HP := Lib.hid hp
  have HQ := Lib.hid hq
  have s1F : ((F : Int) == 0) = false := by rw [beq_eq_false_iff_ne]; omega
  have s2F : ((F : Int) != 0) = true := by rw [bne_iff_ne]; omega
  have s3F : (F == 0) = false := by rw [beq_eq_false_iff_ne]; exact h0F
  have s4F : (F != 0) = true := by rw [bne_iff_ne]; exact h0F
  clear h0F
  clear hp hq
  go_enter Try.func7, Try.ntmps7
  go_wp2_with fail
  obtain ⟨w1, hw1⟩ : ∃ w1, w1 = w.alloc (.cells #[.int .i64 r.t.ser, .int .i64 r.t.kind, .int .i64 r.t.frm, .int .i64 r.t.till, .int .i64 r.t.cls, .int .i64 r.t.card, .int .i64 r.t.seat, .int .i64 r.t.day, .int .i64 r.t.days, .int .i64 r.t.uses, .int .i64 r.t.epoch, .int .i64 r.key, .int .i64 r.left, .int .i64 r.inn, .int .i64 r.ver] 27) := ⟨_, rfl⟩
  obtain ⟨w2, hw2⟩ : ∃ w2, w2 = w1.alloc (.cells #[.int .i64 s.t.ser, .int .i64 s.t.kind, .int .i64 s.t.frm, .int .i64 s.t.till, .int .i64 s.t.cls, .int .i64 s.t.card, .int .i64 s.t.seat, .int .i64 s.t.day, .int .i64 s.t.days, .int .i64 s.t.uses, .int .i64 s.t.epoch, .int .i64 s.key, .int .i64 s.left, .int .i64 s.inn, .int .i64 s.ver] 27) := ⟨_, rfl⟩
  have hz : w1.heap.size = w.heap.size + 1 := by rw [hw1, World.size_alloc]
  have X1 := Lib.hid (show RBox w2 w.heap.size r by rw [hw2, hw1]; exact (RBox.new w r).alloc _)
  have X2 := Lib.hid (show RBox w2 (w.heap.size + 1) s by rw [← hz, hw2]; exact RBox.new w1 s)
  replace HBL := Lib.hid (show Below w.heap.size w w2 by rw [hw2, hw1]; exact ((Below.refl _ _).alloc (Nat.le_refl _) _).alloc (by simp) _)
  rw [← hw1, ← hw2]
  clear hw1 hw2 hz
  obtain ⟨c0, c1, c2, c3, c4, c5, c6, c7, c8, c9, c10, c11, c12, c13, c14⟩ := X1.out.cells
  go_wp2_with fail
  refine (fput_any r 0 p HP.out w2).mono ?_
  rintro e w3 ⟨AP1, cP1, rfl, hs, hb⟩
  clear c0 c1 c2 c3 c4 c5 c6 c7 c8 c9 c10 c11 c12 c13 c14
  replace X1 := Lib.hid (X1.out.next hb)
  replace X2 := Lib.hid (X2.out.next hb)
  replace HBL := Lib.hid (HBL.out.trans (hb.mono HBL.out.size))
  have P1 := Lib.hid hs
  clear hb hs
  obtain ⟨c0, c1, c2, c3, c4, c5, c6, c7, c8, c9, c10, c11, c12, c13, c14⟩ := X2.out.cells
  go_wp2_with fail
  refine (fput_any s F [] HQ.out w3).mono ?_
  rintro e w4 ⟨AP2, cP2, rfl, hs, hb⟩
  clear c0 c1 c2 c3 c4 c5 c6 c7 c8 c9 c10 c11 c12 c13 c14
  replace X1 := Lib.hid (X1.out.next hb)
  replace X2 := Lib.hid (X2.out.next hb)
  replace P1 := Lib.hid (P1.out.next hb)
  replace HBL := Lib.hid (HBL.out.trans (hb.mono HBL.out.size))
  have P2 := Lib.hid hs
  clear hb hs
  go_wp2_with fail
  refine (C w4).mono ?_
  rintro e w5 ⟨rfl, hb⟩
  replace X1 := Lib.hid (X1.out.next hb)
  replace X2 := Lib.hid (X2.out.next hb)
  replace P1 := Lib.hid (P1.out.next hb)
  replace P2 := Lib.hid (P2.out.next hb)
  replace HBL := Lib.hid (HBL.out.trans (hb.mono HBL.out.size))
  clear hb
  go_wp2
  go_ret
  exact ⟨rfl, HBL.out⟩
set_option maxRecDepth 100000 in
set_option maxHeartbeats 1600000 in
theorem fieldsUnlike_same (C : ToldOK) (r s : Rg) (w : World) (p : List Tf) (hp : fdPut r = (0, p)) (hq : fdPut s = (0, p)) (hrs : rgB r s = true) : Calls Try.prog 7 #[.agg #[.int .i64 r.t.ser, .int .i64 r.t.kind, .int .i64 r.t.frm, .int .i64 r.t.till, .int .i64 r.t.cls, .int .i64 r.t.card, .int .i64 r.t.seat, .int .i64 r.t.day, .int .i64 r.t.days, .int .i64 r.t.uses, .int .i64 r.t.epoch, .int .i64 r.key, .int .i64 r.left, .int .i64 r.inn, .int .i64 r.ver], .agg #[.int .i64 s.t.ser, .int .i64 s.t.kind, .int .i64 s.t.frm, .int .i64 s.t.till, .int .i64 s.t.cls, .int .i64 s.t.card, .int .i64 s.t.seat, .int .i64 s.t.day, .int .i64 s.t.days, .int .i64 s.t.uses, .int .i64 s.t.epoch, .int .i64 s.key, .int .i64 s.left, .int .i64 s.inn, .int .i64 s.ver]] w fun e w' => e = .returned (.bool true) ∧ Below w.heap.size w w' := by
  have HBL := Lib.hid (Below.refl w.heap.size w)
  have HP := Lib.hid hp
  have HQ := Lib.hid hq
  have heq := read_eq r s
  rw [hrs] at heq
  clear hp hq hrs
  go_enter Try.func7, Try.ntmps7
  go_wp2_with fail
  obtain ⟨w1, hw1⟩ : ∃ w1, w1 = w.alloc (.cells #[.int .i64 r.t.ser, .int .i64 r.t.kind, .int .i64 r.t.frm, .int .i64 r.t.till, .int .i64 r.t.cls, .int .i64 r.t.card, .int .i64 r.t.seat, .int .i64 r.t.day, .int .i64 r.t.days, .int .i64 r.t.uses, .int .i64 r.t.epoch, .int .i64 r.key, .int .i64 r.left, .int .i64 r.inn, .int .i64 r.ver] 27) := ⟨_, rfl⟩
  obtain ⟨w2, hw2⟩ : ∃ w2, w2 = w1.alloc (.cells #[.int .i64 s.t.ser, .int .i64 s.t.kind, .int .i64 s.t.frm, .int .i64 s.t.till, .int .i64 s.t.cls, .int .i64 s.t.card, .int .i64 s.t.seat, .int .i64 s.t.day, .int .i64 s.t.days, .int .i64 s.t.uses, .int .i64 s.t.epoch, .int .i64 s.key, .int .i64 s.left, .int .i64 s.inn, .int .i64 s.ver] 27) := ⟨_, rfl⟩
  have hz : w1.heap.size = w.heap.size + 1 := by rw [hw1, World.size_alloc]
  have X1 := Lib.hid (show RBox w2 w.heap.size r by rw [hw2, hw1]; exact (RBox.new w r).alloc _)
  have X2 := Lib.hid (show RBox w2 (w.heap.size + 1) s by rw [← hz, hw2]; exact RBox.new w1 s)
  replace HBL := Lib.hid (show Below w.heap.size w w2 by rw [hw2, hw1]; exact ((Below.refl _ _).alloc (Nat.le_refl _) _).alloc (by simp) _)
  rw [← hw1, ← hw2]
  clear hw1 hw2 hz
  obtain ⟨c0, c1, c2, c3, c4, c5, c6, c7, c8, c9, c10, c11, c12, c13, c14⟩ := X1.out.cells
  go_wp2_with fail
  refine (fput_any r 0 p HP.out w2).mono ?_
  rintro e w3 ⟨AP1, cP1, rfl, hs, hb⟩
  clear c0 c1 c2 c3 c4 c5 c6 c7 c8 c9 c10 c11 c12 c13 c14
  replace X1 := Lib.hid (X1.out.next hb)
  replace X2 := Lib.hid (X2.out.next hb)
  replace HBL := Lib.hid (HBL.out.trans (hb.mono HBL.out.size))
  have P1 := Lib.hid hs
  clear hb hs
  obtain ⟨c0, c1, c2, c3, c4, c5, c6, c7, c8, c9, c10, c11, c12, c13, c14⟩ := X2.out.cells
  go_wp2_with fail
  refine (fput_any s 0 p HQ.out w3).mono ?_
  rintro e w4 ⟨AP2, cP2, rfl, hs, hb⟩
  clear c0 c1 c2 c3 c4 c5 c6 c7 c8 c9 c10 c11 c12 c13 c14
  replace X1 := Lib.hid (X1.out.next hb)
  replace X2 := Lib.hid (X2.out.next hb)
  replace P1 := Lib.hid (P1.out.next hb)
  replace HBL := Lib.hid (HBL.out.trans (hb.mono HBL.out.size))
  have P2 := Lib.hid hs
  clear hb hs
  go_wp2_with fail
  refine wp_region_held_drew (S := fun w' => RBox w' w.heap.size r ∧ RBox w' (w.heap.size + 1) s) (by as_aux_lemma => kernel_rfl) (show RBox w4.drew w.heap.size r ∧ RBox w4.drew (w.heap.size + 1) s from ⟨X1.out, X2.out⟩) (fun hHeld => ?_)
  obtain ⟨wd, hwd⟩ : ∃ wd, wd = w4.drew := ⟨_, rfl⟩
  rw [← hwd] at hHeld ⊢
  have hb : Below w4.heap.size w4 wd := by rw [hwd]; exact below_drewN (Below.refl _ _) 1
  replace X1 := Lib.hid (X1.out.next hb)
  replace X2 := Lib.hid (X2.out.next hb)
  replace P1 := Lib.hid (P1.out.next hb)
  replace P2 := Lib.hid (P2.out.next hb)
  replace HBL := Lib.hid (HBL.out.trans (hb.mono HBL.out.size))
  clear hb
  clear hwd
  refine wpAnyH_ready (rs := [0]) (by as_aux_lemma => kernel_rfl) (by simp) ?_
  refine AllReadyH.cons (o := ⟨some 26, .call _, _, _, _, _⟩) rfl (fun K hK => ?_) AllReadyH.nil
  go_simp
  go_at_call 12
  refine (C _).mono ?_
  rintro e v ⟨rfl, hb⟩
  go_wp2_with fail
  replace X1 := Lib.hid (X1.out.next hb)
  replace X2 := Lib.hid (X2.out.next hb)
  replace P1 := Lib.hid (P1.out.next hb)
  replace P2 := Lib.hid (P2.out.next hb)
  replace HBL := Lib.hid (HBL.out.trans (hb.mono HBL.out.size))
  clear hb
  refine hK.out _ _ ⟨X1.out, X2.out⟩ (fun hHeld => ?_)
  clear hK K
  try simp only [Act.put, List.setIfInBounds_toArray, List.set_cons_zero, List.set_cons_succ]
  refine wpAnyH_take (i := 1) (oi := ⟨some 27, _, _, _, _, _⟩) (v := ?_) rfl (by as_aux_lemma => kernel_rfl) (by as_aux_lemma => kernel_rfl) (by as_aux_lemma => kernel_rfl) (fun _ _ _ h => h) (Or.inl ⟨by rfl, ?_⟩) hHeld ?_
  rotate_left
  · intro w hSw
    go_simp
    first | done | with_reducible rfl
  try simp only [Act.put, List.setIfInBounds_toArray, List.set_cons_zero, List.set_cons_succ]
  refine wpAnyH_take (i := 2) (oi := ⟨some 28, _, _, _, _, _⟩) (v := ?_) rfl (by as_aux_lemma => kernel_rfl) (by as_aux_lemma => kernel_rfl) (by as_aux_lemma => kernel_rfl) (fun _ _ _ h => h) (Or.inl ⟨by rfl, ?_⟩) hHeld ?_
  rotate_left
  · intro w hSw
    go_simp
    first | done | with_reducible rfl
  try simp only [Act.put, List.setIfInBounds_toArray, List.set_cons_zero, List.set_cons_succ]
  refine wpAnyH_take (i := 3) (oi := ⟨some 29, _, _, _, _, _⟩) (v := ?_) rfl (by as_aux_lemma => kernel_rfl) (by as_aux_lemma => kernel_rfl) (by as_aux_lemma => kernel_rfl) (fun _ _ _ h => h) (Or.inl ⟨by rfl, ?_⟩) hHeld ?_
  rotate_left
  · intro w hSw
    go_simp
    first | done | with_reducible rfl
  try simp only [Act.put, List.setIfInBounds_toArray, List.set_cons_zero, List.set_cons_succ]
  refine wpAnyH_take (i := 5) (oi := ⟨some 31, _, _, _, _, _⟩) (v := ?_) rfl (by as_aux_lemma => kernel_rfl) (by as_aux_lemma => kernel_rfl) (by as_aux_lemma => kernel_rfl) (fun _ _ _ h => h) (Or.inl ⟨by rfl, ?_⟩) hHeld ?_
  rotate_left
  · intro w hSw
    obtain ⟨c0, c1, c2, c3, c4, c5, c6, c7, c8, c9, c10, c11, c12, c13, c14⟩ := RBox.cells hSw.1
    go_simp
    first | done | with_reducible rfl
  try simp only [Act.put, List.setIfInBounds_toArray, List.set_cons_zero, List.set_cons_succ]
  refine wpAnyH_take (i := 6) (oi := ⟨some 32, _, _, _, _, _⟩) (v := ?_) rfl (by as_aux_lemma => kernel_rfl) (by as_aux_lemma => kernel_rfl) (by as_aux_lemma => kernel_rfl) (fun _ _ _ h => h) (Or.inl ⟨by rfl, ?_⟩) hHeld ?_
  rotate_left
  · intro w hSw
    obtain ⟨c0, c1, c2, c3, c4, c5, c6, c7, c8, c9, c10, c11, c12, c13, c14⟩ := RBox.cells hSw.2
    go_simp
    first | done | with_reducible rfl
  try simp only [Act.put, List.setIfInBounds_toArray, List.set_cons_zero, List.set_cons_succ]
  refine wpAnyH_take (i := 7) (oi := ⟨some 33, _, _, _, _, _⟩) (v := .bool true) rfl (by as_aux_lemma => kernel_rfl) (by as_aux_lemma => kernel_rfl) (by as_aux_lemma => kernel_rfl) (fun _ _ _ h => h) (Or.inl ⟨by rfl, ?_⟩) hHeld ?_
  · intro w hSw
    go_simp
    first | done | omega | (simp [heq]; done) | (simp; omega)
  try simp only [Act.put, List.setIfInBounds_toArray, List.set_cons_zero, List.set_cons_succ]
  refine wpAnyH_ready (rs := [4]) (by as_aux_lemma => kernel_rfl) (by simp) ?_
  refine AllReadyH.cons (o := ⟨some 30, .call _, _, _, _, _⟩) rfl (fun K hK => ?_) AllReadyH.nil
  go_simp
  go_at_call 13
  refine (refsame_tlv p p.length p.length rfl rfl AP1 AP2 cP1 cP2 _ P1.out P2.out).mono ?_
  rintro e v ⟨rfl, hb⟩
  go_wp2_with fail
  replace X1 := Lib.hid (X1.out.next hb)
  replace X2 := Lib.hid (X2.out.next hb)
  replace P1 := Lib.hid (P1.out.next hb)
  replace P2 := Lib.hid (P2.out.next hb)
  replace HBL := Lib.hid (HBL.out.trans (hb.mono HBL.out.size))
  clear hb
  refine hK.out _ _ ⟨X1.out, X2.out⟩ (fun hHeld => ?_)
  clear hK K
  try simp only [Act.put, List.setIfInBounds_toArray, List.set_cons_zero, List.set_cons_succ]
  refine wpAnyH_take (i := 8) (oi := ⟨some 34, _, _, _, _, _⟩) (v := ?_) rfl (by as_aux_lemma => kernel_rfl) (by as_aux_lemma => kernel_rfl) (by as_aux_lemma => kernel_rfl) (fun _ _ _ h => h) (Or.inl ⟨by rfl, ?_⟩) hHeld ?_
  rotate_left
  · intro w hSw
    go_simp
    first | done | with_reducible rfl
  try simp only [Act.put, List.setIfInBounds_toArray, List.set_cons_zero, List.set_cons_succ]
  refine wpAnyH_take (i := 9) (oi := ⟨some 35, _, _, _, _, _⟩) (v := ?_) rfl (by as_aux_lemma => kernel_rfl) (by as_aux_lemma => kernel_rfl) (by as_aux_lemma => kernel_rfl) (fun _ _ _ h => h) (Or.inl ⟨by rfl, ?_⟩) hHeld ?_
  rotate_left
  · intro w hSw
    go_simp
    first | done | with_reducible rfl
  try simp only [Act.put, List.setIfInBounds_toArray, List.set_cons_zero, List.set_cons_succ]
  refine wpAnyH_take (i := 10) (oi := ⟨some 4, _, _, _, _, _⟩) (v := ?_) rfl (by as_aux_lemma => kernel_rfl) (by as_aux_lemma => kernel_rfl) (by as_aux_lemma => kernel_rfl) (fun _ _ _ h => h) (Or.inl ⟨by rfl, ?_⟩) hHeld ?_
  rotate_left
  · intro w hSw
    go_simp
    first | done | with_reducible rfl
  try simp only [Act.put, List.setIfInBounds_toArray]
  refine wpAnyH_done (by as_aux_lemma => kernel_rfl) ?_ _
  go_wp2
  go_ret
  exact ⟨rfl, HBL.out⟩
set_option maxRecDepth 100000 in
set_option maxHeartbeats 1600000 in
theorem fieldsUnlike_no (C : ToldOK) (r s : Rg) (w : World) (p q : List Tf) (hp : fdPut r = (0, p)) (hq : fdPut s = (0, q)) (hne : p ≠ q) (hrs : rgB r s = false) : Calls Try.prog 7 #[.agg #[.int .i64 r.t.ser, .int .i64 r.t.kind, .int .i64 r.t.frm, .int .i64 r.t.till, .int .i64 r.t.cls, .int .i64 r.t.card, .int .i64 r.t.seat, .int .i64 r.t.day, .int .i64 r.t.days, .int .i64 r.t.uses, .int .i64 r.t.epoch, .int .i64 r.key, .int .i64 r.left, .int .i64 r.inn, .int .i64 r.ver], .agg #[.int .i64 s.t.ser, .int .i64 s.t.kind, .int .i64 s.t.frm, .int .i64 s.t.till, .int .i64 s.t.cls, .int .i64 s.t.card, .int .i64 s.t.seat, .int .i64 s.t.day, .int .i64 s.t.days, .int .i64 s.t.uses, .int .i64 s.t.epoch, .int .i64 s.key, .int .i64 s.left, .int .i64 s.inn, .int .i64 s.ver]] w fun e w' => e = .returned (.bool true) ∧ Below w.heap.size w w' := by
  have HBL := Lib.hid (Below.refl w.heap.size w)
  have HP := Lib.hid hp
  have HQ := Lib.hid hq
  have heq := read_eq r s
  rw [hrs] at heq
  have HNE := Lib.hid hne
  clear hne
  clear hp hq hrs
  go_enter Try.func7, Try.ntmps7
  go_wp2_with fail
  obtain ⟨w1, hw1⟩ : ∃ w1, w1 = w.alloc (.cells #[.int .i64 r.t.ser, .int .i64 r.t.kind, .int .i64 r.t.frm, .int .i64 r.t.till, .int .i64 r.t.cls, .int .i64 r.t.card, .int .i64 r.t.seat, .int .i64 r.t.day, .int .i64 r.t.days, .int .i64 r.t.uses, .int .i64 r.t.epoch, .int .i64 r.key, .int .i64 r.left, .int .i64 r.inn, .int .i64 r.ver] 27) := ⟨_, rfl⟩
  obtain ⟨w2, hw2⟩ : ∃ w2, w2 = w1.alloc (.cells #[.int .i64 s.t.ser, .int .i64 s.t.kind, .int .i64 s.t.frm, .int .i64 s.t.till, .int .i64 s.t.cls, .int .i64 s.t.card, .int .i64 s.t.seat, .int .i64 s.t.day, .int .i64 s.t.days, .int .i64 s.t.uses, .int .i64 s.t.epoch, .int .i64 s.key, .int .i64 s.left, .int .i64 s.inn, .int .i64 s.ver] 27) := ⟨_, rfl⟩
  have hz : w1.heap.size = w.heap.size + 1 := by rw [hw1, World.size_alloc]
  have X1 := Lib.hid (show RBox w2 w.heap.size r by rw [hw2, hw1]; exact (RBox.new w r).alloc _)
  have X2 := Lib.hid (show RBox w2 (w.heap.size + 1) s by rw [← hz, hw2]; exact RBox.new w1 s)
  replace HBL := Lib.hid (show Below w.heap.size w w2 by rw [hw2, hw1]; exact ((Below.refl _ _).alloc (Nat.le_refl _) _).alloc (by simp) _)
  rw [← hw1, ← hw2]
  clear hw1 hw2 hz
  obtain ⟨c0, c1, c2, c3, c4, c5, c6, c7, c8, c9, c10, c11, c12, c13, c14⟩ := X1.out.cells
  go_wp2_with fail
  refine (fput_any r 0 p HP.out w2).mono ?_
  rintro e w3 ⟨AP1, cP1, rfl, hs, hb⟩
  clear c0 c1 c2 c3 c4 c5 c6 c7 c8 c9 c10 c11 c12 c13 c14
  replace X1 := Lib.hid (X1.out.next hb)
  replace X2 := Lib.hid (X2.out.next hb)
  replace HBL := Lib.hid (HBL.out.trans (hb.mono HBL.out.size))
  have P1 := Lib.hid hs
  clear hb hs
  obtain ⟨c0, c1, c2, c3, c4, c5, c6, c7, c8, c9, c10, c11, c12, c13, c14⟩ := X2.out.cells
  go_wp2_with fail
  refine (fput_any s 0 q HQ.out w3).mono ?_
  rintro e w4 ⟨AP2, cP2, rfl, hs, hb⟩
  clear c0 c1 c2 c3 c4 c5 c6 c7 c8 c9 c10 c11 c12 c13 c14
  replace X1 := Lib.hid (X1.out.next hb)
  replace X2 := Lib.hid (X2.out.next hb)
  replace P1 := Lib.hid (P1.out.next hb)
  replace HBL := Lib.hid (HBL.out.trans (hb.mono HBL.out.size))
  have P2 := Lib.hid hs
  clear hb hs
  go_wp2_with fail
  refine wp_region_held_drew (S := fun w' => RBox w' w.heap.size r ∧ RBox w' (w.heap.size + 1) s) (by as_aux_lemma => kernel_rfl) (show RBox w4.drew w.heap.size r ∧ RBox w4.drew (w.heap.size + 1) s from ⟨X1.out, X2.out⟩) (fun hHeld => ?_)
  obtain ⟨wd, hwd⟩ : ∃ wd, wd = w4.drew := ⟨_, rfl⟩
  rw [← hwd] at hHeld ⊢
  have hb : Below w4.heap.size w4 wd := by rw [hwd]; exact below_drewN (Below.refl _ _) 1
  replace X1 := Lib.hid (X1.out.next hb)
  replace X2 := Lib.hid (X2.out.next hb)
  replace P1 := Lib.hid (P1.out.next hb)
  replace P2 := Lib.hid (P2.out.next hb)
  replace HBL := Lib.hid (HBL.out.trans (hb.mono HBL.out.size))
  clear hb
  clear hwd
  refine wpAnyH_ready (rs := [0]) (by as_aux_lemma => kernel_rfl) (by simp) ?_
  refine AllReadyH.cons (o := ⟨some 26, .call _, _, _, _, _⟩) rfl (fun K hK => ?_) AllReadyH.nil
  go_simp
  go_at_call 12
  refine (C _).mono ?_
  rintro e v ⟨rfl, hb⟩
  go_wp2_with fail
  replace X1 := Lib.hid (X1.out.next hb)
  replace X2 := Lib.hid (X2.out.next hb)
  replace P1 := Lib.hid (P1.out.next hb)
  replace P2 := Lib.hid (P2.out.next hb)
  replace HBL := Lib.hid (HBL.out.trans (hb.mono HBL.out.size))
  clear hb
  refine hK.out _ _ ⟨X1.out, X2.out⟩ (fun hHeld => ?_)
  clear hK K
  try simp only [Act.put, List.setIfInBounds_toArray, List.set_cons_zero, List.set_cons_succ]
  refine wpAnyH_take (i := 1) (oi := ⟨some 27, _, _, _, _, _⟩) (v := ?_) rfl (by as_aux_lemma => kernel_rfl) (by as_aux_lemma => kernel_rfl) (by as_aux_lemma => kernel_rfl) (fun _ _ _ h => h) (Or.inl ⟨by rfl, ?_⟩) hHeld ?_
  rotate_left
  · intro w hSw
    go_simp
    first | done | with_reducible rfl
  try simp only [Act.put, List.setIfInBounds_toArray, List.set_cons_zero, List.set_cons_succ]
  refine wpAnyH_take (i := 2) (oi := ⟨some 28, _, _, _, _, _⟩) (v := ?_) rfl (by as_aux_lemma => kernel_rfl) (by as_aux_lemma => kernel_rfl) (by as_aux_lemma => kernel_rfl) (fun _ _ _ h => h) (Or.inl ⟨by rfl, ?_⟩) hHeld ?_
  rotate_left
  · intro w hSw
    go_simp
    first | done | with_reducible rfl
  try simp only [Act.put, List.setIfInBounds_toArray, List.set_cons_zero, List.set_cons_succ]
  refine wpAnyH_take (i := 3) (oi := ⟨some 29, _, _, _, _, _⟩) (v := ?_) rfl (by as_aux_lemma => kernel_rfl) (by as_aux_lemma => kernel_rfl) (by as_aux_lemma => kernel_rfl) (fun _ _ _ h => h) (Or.inl ⟨by rfl, ?_⟩) hHeld ?_
  rotate_left
  · intro w hSw
    go_simp
    first | done | with_reducible rfl
  try simp only [Act.put, List.setIfInBounds_toArray, List.set_cons_zero, List.set_cons_succ]
  refine wpAnyH_take (i := 5) (oi := ⟨some 31, _, _, _, _, _⟩) (v := ?_) rfl (by as_aux_lemma => kernel_rfl) (by as_aux_lemma => kernel_rfl) (by as_aux_lemma => kernel_rfl) (fun _ _ _ h => h) (Or.inl ⟨by rfl, ?_⟩) hHeld ?_
  rotate_left
  · intro w hSw
    obtain ⟨c0, c1, c2, c3, c4, c5, c6, c7, c8, c9, c10, c11, c12, c13, c14⟩ := RBox.cells hSw.1
    go_simp
    first | done | with_reducible rfl
  try simp only [Act.put, List.setIfInBounds_toArray, List.set_cons_zero, List.set_cons_succ]
  refine wpAnyH_take (i := 6) (oi := ⟨some 32, _, _, _, _, _⟩) (v := ?_) rfl (by as_aux_lemma => kernel_rfl) (by as_aux_lemma => kernel_rfl) (by as_aux_lemma => kernel_rfl) (fun _ _ _ h => h) (Or.inl ⟨by rfl, ?_⟩) hHeld ?_
  rotate_left
  · intro w hSw
    obtain ⟨c0, c1, c2, c3, c4, c5, c6, c7, c8, c9, c10, c11, c12, c13, c14⟩ := RBox.cells hSw.2
    go_simp
    first | done | with_reducible rfl
  try simp only [Act.put, List.setIfInBounds_toArray, List.set_cons_zero, List.set_cons_succ]
  refine wpAnyH_take (i := 7) (oi := ⟨some 33, _, _, _, _, _⟩) (v := .bool false) rfl (by as_aux_lemma => kernel_rfl) (by as_aux_lemma => kernel_rfl) (by as_aux_lemma => kernel_rfl) (fun _ _ _ h => h) (Or.inl ⟨by rfl, ?_⟩) hHeld ?_
  · intro w hSw
    go_simp
    first | done | omega | (simp [heq]; done) | (simp; omega)
  try simp only [Act.put, List.setIfInBounds_toArray, List.set_cons_zero, List.set_cons_succ]
  refine wpAnyH_ready (rs := [4]) (by as_aux_lemma => kernel_rfl) (by simp) ?_
  refine AllReadyH.cons (o := ⟨some 30, .call _, _, _, _, _⟩) rfl (fun K hK => ?_) AllReadyH.nil
  go_simp
  go_at_call 13
  refine (refsame_no p q HNE.out p.length q.length rfl rfl AP1 AP2 cP1 cP2 _ P1.out P2.out).mono ?_
  rintro e v ⟨rfl, hb⟩
  go_wp2_with fail
  replace X1 := Lib.hid (X1.out.next hb)
  replace X2 := Lib.hid (X2.out.next hb)
  replace P1 := Lib.hid (P1.out.next hb)
  replace P2 := Lib.hid (P2.out.next hb)
  replace HBL := Lib.hid (HBL.out.trans (hb.mono HBL.out.size))
  clear hb
  refine hK.out _ _ ⟨X1.out, X2.out⟩ (fun hHeld => ?_)
  clear hK K
  try simp only [Act.put, List.setIfInBounds_toArray, List.set_cons_zero, List.set_cons_succ]
  refine wpAnyH_take (i := 8) (oi := ⟨some 34, _, _, _, _, _⟩) (v := ?_) rfl (by as_aux_lemma => kernel_rfl) (by as_aux_lemma => kernel_rfl) (by as_aux_lemma => kernel_rfl) (fun _ _ _ h => h) (Or.inl ⟨by rfl, ?_⟩) hHeld ?_
  rotate_left
  · intro w hSw
    go_simp
    first | done | with_reducible rfl
  try simp only [Act.put, List.setIfInBounds_toArray, List.set_cons_zero, List.set_cons_succ]
  refine wpAnyH_take (i := 9) (oi := ⟨some 35, _, _, _, _, _⟩) (v := ?_) rfl (by as_aux_lemma => kernel_rfl) (by as_aux_lemma => kernel_rfl) (by as_aux_lemma => kernel_rfl) (fun _ _ _ h => h) (Or.inl ⟨by rfl, ?_⟩) hHeld ?_
  rotate_left
  · intro w hSw
    go_simp
    first | done | with_reducible rfl
  try simp only [Act.put, List.setIfInBounds_toArray, List.set_cons_zero, List.set_cons_succ]
  refine wpAnyH_take (i := 10) (oi := ⟨some 4, _, _, _, _, _⟩) (v := ?_) rfl (by as_aux_lemma => kernel_rfl) (by as_aux_lemma => kernel_rfl) (by as_aux_lemma => kernel_rfl) (fun _ _ _ h => h) (Or.inl ⟨by rfl, ?_⟩) hHeld ?_
  rotate_left
  · intro w hSw
    go_simp
    first | done | with_reducible rfl
  try simp only [Act.put, List.setIfInBounds_toArray]
  refine wpAnyH_done (by as_aux_lemma => kernel_rfl) ?_ _
  go_wp2
  go_ret
  exact ⟨rfl, HBL.out⟩
set_option maxRecDepth 100000 in
set_option maxHeartbeats 1600000 in
theorem fieldsUnlike_any (C : ToldOK) (r s : Rg) (w : World) : Calls Try.prog 7 #[.agg #[.int .i64 r.t.ser, .int .i64 r.t.kind, .int .i64 r.t.frm, .int .i64 r.t.till, .int .i64 r.t.cls, .int .i64 r.t.card, .int .i64 r.t.seat, .int .i64 r.t.day, .int .i64 r.t.days, .int .i64 r.t.uses, .int .i64 r.t.epoch, .int .i64 r.key, .int .i64 r.left, .int .i64 r.inn, .int .i64 r.ver], .agg #[.int .i64 s.t.ser, .int .i64 s.t.kind, .int .i64 s.t.frm, .int .i64 s.t.till, .int .i64 s.t.cls, .int .i64 s.t.card, .int .i64 s.t.seat, .int .i64 s.t.day, .int .i64 s.t.days, .int .i64 s.t.uses, .int .i64 s.t.epoch, .int .i64 s.key, .int .i64 s.left, .int .i64 s.inn, .int .i64 s.ver]] w fun e w' => e = .returned (.bool true) ∧ Below w.heap.size w w' := by
  obtain ⟨E, p, hp⟩ : ∃ E p, fdPut r = (E, p) := ⟨_, _, rfl⟩
  obtain ⟨F, q, hq⟩ : ∃ F q, fdPut s = (F, q) := ⟨_, _, rfl⟩
  by_cases h0E : E = 0
  · subst h0E
    by_cases h0F : F = 0
    · subst h0F
      have hu := put_unlike hp hq
      cases hrs : rgB r s with
      | true =>
        have e := (rgB_iff r s).1 hrs
        have e2 := hu.2 e
        subst e2
        exact fieldsUnlike_same C r s w p hp hq hrs
      | false => exact fieldsUnlike_no C r s w p q hp hq (fun e => by have := (rgB_iff r s).2 (hu.1 e); rw [hrs] at this; cases this) hrs
    · obtain ⟨rfl, _⟩ := fdPut_bad hq h0F
      exact fieldsUnlike_b C r s w p hp F hq h0F
  · obtain ⟨rfl, _⟩ := fdPut_bad hp h0E
    exact fieldsUnlike_a C r s w E hp h0E F q hq
end Go.Proofs.Ytaldpioahnbkgaa
