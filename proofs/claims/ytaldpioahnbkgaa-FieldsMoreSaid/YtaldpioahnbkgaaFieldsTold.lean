/-
  The laws' constant check of layer 18. Conditions: none.
-/
import Derived.Test.YtaldpioahnbkgaaFieldsTold0
import Derived.Test.YtaldpioahnbkgaaFieldsOK
namespace Go.Proofs.Ytaldpioahnbkgaa
set_option linter.unusedVariables false
open Go.ChangeShapes Go.WideShapes Go.ChangeAt Go.RowKit

theorem reg_of {P : Program} {ops ops' : Array Oper} {Q : Exit → Act → World → Prop} {a : Act} {w : World} (h : ops = ops') (H : Code.wp P (.region 15 ops' true) Q a w) : Code.wp P (.region 15 ops true) Q a w := h ▸ H
set_option maxRecDepth 100000 in
set_option maxHeartbeats 1600000 in
theorem told_any (w : World) : Calls Try.prog 12 #[] w fun e w' => e = .returned (.bool true) ∧ Below w.heap.size w w' := by
  have HBL := Lib.hid (Below.refl w.heap.size w)
  obtain ⟨q0, hq0⟩ : ∃ q, q = pr18 2 := ⟨_, rfl⟩
  have HQ0 := Lib.hid hq0
  have K0 := Lib.hid (show fdPut q0 = (0, [⟨1, [2]⟩, ⟨2, [5]⟩, ⟨3, [1]⟩, ⟨4, [1, 44]⟩, ⟨6, [20]⟩, ⟨7, [2]⟩, ⟨8, [1]⟩, ⟨10, [10]⟩, ⟨11, [1]⟩]) by rw [hq0]; exact told_c0)
  have K1 := Lib.hid (show fdGet [⟨1, [2]⟩, ⟨2, [5]⟩, ⟨3, [1]⟩, ⟨4, [1, 44]⟩, ⟨6, [20]⟩, ⟨7, [2]⟩, ⟨8, [1]⟩, ⟨10, [10]⟩, ⟨11, [1]⟩] = (0, q0) by rw [hq0]; exact told_c1)
  have K2 := Lib.hid (show fdPut { q0 with ver := 1 } = (18, []) by rw [hq0]; exact told_c2)
  have K3 := Lib.hid (show fdPut { q0 with ver := 4 } = (1, []) by rw [hq0]; exact told_c3)
  clear hq0
  go_enter Try.func12, Try.ntmps12
  go_wp2_with fail
  refine (plain18_any q0 HQ0.out w).mono ?_
  rintro e w1 ⟨rfl, hb⟩
  replace HBL := Lib.hid (HBL.out.trans (hb.mono HBL.out.size))
  clear hb
  have hs1 := HBL.out.size
  go_wp2_with fail
  obtain ⟨w2, hw⟩ : ∃ w2, w2 = w1.alloc (.cells #[.int .i64 q0.t.ser, .int .i64 q0.t.kind, .int .i64 q0.t.frm, .int .i64 q0.t.till, .int .i64 q0.t.cls, .int .i64 q0.t.card, .int .i64 q0.t.seat, .int .i64 q0.t.day, .int .i64 q0.t.days, .int .i64 q0.t.uses, .int .i64 q0.t.epoch, .int .i64 q0.key, .int .i64 q0.left, .int .i64 q0.inn, .int .i64 q0.ver] 27) := ⟨_, rfl⟩
  rw [← hw]
  have hx : RBox w2 w1.heap.size q0 := by rw [hw]; exact RBox.new w1 q0
  have hb : Below w1.heap.size w1 w2 := by rw [hw]; exact below_lit w1 _ _
  replace HBL := Lib.hid (HBL.out.trans (hb.mono HBL.out.size))
  have X1 := Lib.hid hx
  clear hx hb hw
  obtain ⟨B1, hB⟩ : ∃ B, B = w1.heap.size := ⟨_, rfl⟩
  have hB1 : B1 < w2.heap.size := by rw [hB]; exact X1.out.lt
  have hwB1 : w.heap.size ≤ B1 := by rw [hB]; exact hs1
  rw [← hB] at X1 ⊢
  clear hB
  obtain ⟨c0, c1, c2, c3, c4, c5, c6, c7, c8, c9, c10, c11, c12, c13, c14⟩ := X1.out.cells
  go_wp2_with fail
  refine (fput_any q0 0 [⟨1, [2]⟩, ⟨2, [5]⟩, ⟨3, [1]⟩, ⟨4, [1, 44]⟩, ⟨6, [20]⟩, ⟨7, [2]⟩, ⟨8, [1]⟩, ⟨10, [10]⟩, ⟨11, [1]⟩] K0.out w2).mono ?_
  rintro e w3 ⟨AP1, cP1, rfl, hs, hb⟩
  clear c0 c1 c2 c3 c4 c5 c6 c7 c8 c9 c10 c11 c12 c13 c14
  replace X1 := Lib.hid (X1.out.next hb)
  replace HBL := Lib.hid (HBL.out.trans (hb.mono HBL.out.size))
  have P1 := Lib.hid hs
  clear hb hs
  go_wp2_with fail
  refine (fget_any [⟨1, [2]⟩, ⟨2, [5]⟩, ⟨3, [1]⟩, ⟨4, [1, 44]⟩, ⟨6, [20]⟩, ⟨7, [2]⟩, ⟨8, [1]⟩, ⟨10, [10]⟩, ⟨11, [1]⟩] 9 rfl 0 q0 K1.out AP1 cP1 w3 P1.out).mono ?_
  rintro e w4 ⟨rfl, hb⟩
  replace X1 := Lib.hid (X1.out.next hb)
  replace P1 := Lib.hid (P1.out.next hb)
  replace HBL := Lib.hid (HBL.out.trans (hb.mono HBL.out.size))
  clear hb
  have hlt1 : B1 < w4.heap.size := X1.out.lt
  have XA := X1.out.alloc (.cells #[.int .i64 q0.t.ser, .int .i64 q0.t.kind, .int .i64 q0.t.frm, .int .i64 q0.t.till, .int .i64 q0.t.cls, .int .i64 q0.t.card, .int .i64 q0.t.seat, .int .i64 q0.t.day, .int .i64 q0.t.days, .int .i64 q0.t.uses, .int .i64 q0.t.epoch, .int .i64 q0.key, .int .i64 q0.left, .int .i64 q0.inn, .int .i64 q0.ver] 27)
  have hff := XA.frozen 14
  have hfg := X1.out.frozen 14
  obtain ⟨c0, c1, c2, c3, c4, c5, c6, c7, c8, c9, c10, c11, c12, c13, c14⟩ := XA.cells
  obtain ⟨d0, d1, d2, d3, d4, d5, d6, d7, d8, d9, d10, d11, d12, d13, d14⟩ := X1.out.cells
  go_wp2_with fail
  clear hff hfg XA c0 c1 c2 c3 c4 c5 c6 c7 c8 c9 c10 c11 c12 c13 c14 d0 d1 d2 d3 d4 d5 d6 d7 d8 d9 d10 d11 d12 d13 d14
  obtain ⟨w5, hw⟩ : ∃ w5, w5 = w4.setCell ⟨B1, 14, none⟩ (.int .i64 1) := ⟨_, rfl⟩
  rw [← hw]
  replace P1 : Hid (Ts w5 w5.heap.size [⟨1, [2]⟩, ⟨2, [5]⟩, ⟨3, [1]⟩, ⟨4, [1, 44]⟩, ⟨6, [20]⟩, ⟨7, [2]⟩, ⟨8, [1]⟩, ⟨10, [10]⟩, ⟨11, [1]⟩] AP1 cP1) := Lib.hid (by rw [hw]; have := ts_apart (o := 14) (x := 1) P1.out X1.out; simpa using this)
  have hsz : w5.heap.size = w4.heap.size := by rw [hw]; simp
  replace X1 : Hid (RBox w5 B1 { q0 with ver := 1 }) := Lib.hid (by rw [hw]; exact heap_setCell_same w4 B1 14 _ _ _ X1.out)
  replace HBL : Hid (Below w.heap.size w w5) := Lib.hid (by rw [hw]; exact HBL.out.setCell (p := ⟨B1, 14, none⟩) hwB1 _)
  clear hw
  obtain ⟨w6, hw⟩ : ∃ w6, w6 = w5.alloc (.cells #[.int .i64 q0.t.ser, .int .i64 q0.t.kind, .int .i64 q0.t.frm, .int .i64 q0.t.till, .int .i64 q0.t.cls, .int .i64 q0.t.card, .int .i64 q0.t.seat, .int .i64 q0.t.day, .int .i64 q0.t.days, .int .i64 q0.t.uses, .int .i64 q0.t.epoch, .int .i64 q0.key, .int .i64 q0.left, .int .i64 q0.inn, .int .i64 q0.ver] 27) := ⟨_, rfl⟩
  rw [← hw]
  have hx : RBox w6 w4.heap.size q0 := by rw [hw, ← hsz]; exact RBox.new w5 q0
  have hb : Below w5.heap.size w5 w6 := by rw [hw]; exact below_lit w5 _ _
  replace X1 := Lib.hid (X1.out.next hb)
  replace P1 := Lib.hid (P1.out.next hb)
  replace HBL := Lib.hid (HBL.out.trans (hb.mono HBL.out.size))
  have X2 := Lib.hid hx
  clear hx hb hw hsz
  obtain ⟨B2, hB⟩ : ∃ B, B = w4.heap.size := ⟨_, rfl⟩
  rw [← hB] at X2 hlt1 ⊢
  clear hB
  refine (fput_any { q0 with ver := 1 } 18 [] K2.out w6).mono ?_
  rintro e w7 ⟨AP2, cP2, rfl, hs, hb⟩
  replace X1 := Lib.hid (X1.out.next hb)
  replace P1 := Lib.hid (P1.out.next hb)
  replace X2 := Lib.hid (X2.out.next hb)
  replace HBL := Lib.hid (HBL.out.trans (hb.mono HBL.out.size))
  have P2 := Lib.hid hs
  clear hb hs
  have hff := X1.out.frozen 14
  obtain ⟨c0, c1, c2, c3, c4, c5, c6, c7, c8, c9, c10, c11, c12, c13, c14⟩ := X1.out.cells
  go_wp2_with fail
  clear hff c0 c1 c2 c3 c4 c5 c6 c7 c8 c9 c10 c11 c12 c13 c14
  obtain ⟨w8, hw⟩ : ∃ w8, w8 = w7.setCell ⟨B1, 14, none⟩ (.int .i64 4) := ⟨_, rfl⟩
  rw [← hw]
  replace P1 : Hid (Ts w8 w8.heap.size [⟨1, [2]⟩, ⟨2, [5]⟩, ⟨3, [1]⟩, ⟨4, [1, 44]⟩, ⟨6, [20]⟩, ⟨7, [2]⟩, ⟨8, [1]⟩, ⟨10, [10]⟩, ⟨11, [1]⟩] AP1 cP1) := Lib.hid (by rw [hw]; have := ts_apart (o := 14) (x := 4) P1.out X1.out; simpa using this)
  replace X2 : Hid (RBox w8 B2 q0) := Lib.hid (by rw [hw]; exact (heap_setCell_other w7 _ _ _ (by simp; omega)).trans X2.out)
  replace X1 : Hid (RBox w8 B1 { q0 with ver := 4 }) := Lib.hid (by rw [hw]; exact heap_setCell_same w7 B1 14 _ _ _ X1.out)
  replace HBL : Hid (Below w.heap.size w w8) := Lib.hid (by rw [hw]; exact HBL.out.setCell (p := ⟨B1, 14, none⟩) hwB1 _)
  clear hw
  refine (fput_any { q0 with ver := 4 } 1 [] K3.out w8).mono ?_
  rintro e w9 ⟨AP3, cP3, rfl, hs, hb⟩
  replace X1 := Lib.hid (X1.out.next hb)
  replace P1 := Lib.hid (P1.out.next hb)
  replace X2 := Lib.hid (X2.out.next hb)
  replace HBL := Lib.hid (HBL.out.trans (hb.mono HBL.out.size))
  have P3 := Lib.hid hs
  clear hb hs
  clear P2 P3 X1 K0 K1 K2 K3 hlt1
  go_wp2_with fail
  obtain ⟨w10, hw, hx, hb⟩ := lit18_a w9 (w9.heap.size) rfl
  rw [← hw]
  replace P1 := Lib.hid (P1.out.next hb)
  replace X2 := Lib.hid (X2.out.next hb)
  replace HBL := Lib.hid (HBL.out.trans (hb.mono HBL.out.size))
  have LL := Lib.hid hx
  clear hx hb hw
  refine (fget_any [⟨1, [1]⟩, ⟨130, []⟩] 2 rfl 16 zeroR told_c4 _ 2 w10 LL.out).mono ?_
  rintro e w11 ⟨rfl, hb⟩
  replace P1 := Lib.hid (P1.out.next hb)
  replace X2 := Lib.hid (X2.out.next hb)
  replace HBL := Lib.hid (HBL.out.trans (hb.mono HBL.out.size))
  clear hb
  clear LL
  go_wp2_with fail
  obtain ⟨w12, hw⟩ : ∃ w12, w12 = w11.alloc (.cells #[.int .i64 zeroR.t.ser, .int .i64 zeroR.t.kind, .int .i64 zeroR.t.frm, .int .i64 zeroR.t.till, .int .i64 zeroR.t.cls, .int .i64 zeroR.t.card, .int .i64 zeroR.t.seat, .int .i64 zeroR.t.day, .int .i64 zeroR.t.days, .int .i64 zeroR.t.uses, .int .i64 zeroR.t.epoch, .int .i64 zeroR.key, .int .i64 zeroR.left, .int .i64 zeroR.inn, .int .i64 zeroR.ver] 27) := ⟨_, rfl⟩
  rw [← hw]
  have hb : Below w11.heap.size w11 w12 := by rw [hw]; exact below_lit w11 _ _
  have hzw12 : w12.heap.size = w11.heap.size + 1 := by rw [hw, World.size_alloc]
  replace P1 := Lib.hid (P1.out.next hb)
  replace X2 := Lib.hid (X2.out.next hb)
  replace HBL := Lib.hid (HBL.out.trans (hb.mono HBL.out.size))
  clear hb hw
  go_wp2_with fail
  obtain ⟨w13, hw, hx, hb⟩ := lit18_b w12 (w11.heap.size + 1) hzw12
  rw [← hw]
  replace P1 := Lib.hid (P1.out.next hb)
  replace X2 := Lib.hid (X2.out.next hb)
  replace HBL := Lib.hid (HBL.out.trans (hb.mono HBL.out.size))
  have LL := Lib.hid hx
  clear hx hb hw
  refine (fget_any [⟨1, [1]⟩, ⟨14, []⟩] 2 rfl 15 zeroR told_c5 _ 2 w13 LL.out).mono ?_
  rintro e w14 ⟨rfl, hb⟩
  replace P1 := Lib.hid (P1.out.next hb)
  replace X2 := Lib.hid (X2.out.next hb)
  replace HBL := Lib.hid (HBL.out.trans (hb.mono HBL.out.size))
  clear hb
  clear LL
  go_wp2_with fail
  obtain ⟨w15, hw⟩ : ∃ w15, w15 = w14.alloc (.cells #[.int .i64 zeroR.t.ser, .int .i64 zeroR.t.kind, .int .i64 zeroR.t.frm, .int .i64 zeroR.t.till, .int .i64 zeroR.t.cls, .int .i64 zeroR.t.card, .int .i64 zeroR.t.seat, .int .i64 zeroR.t.day, .int .i64 zeroR.t.days, .int .i64 zeroR.t.uses, .int .i64 zeroR.t.epoch, .int .i64 zeroR.key, .int .i64 zeroR.left, .int .i64 zeroR.inn, .int .i64 zeroR.ver] 27) := ⟨_, rfl⟩
  rw [← hw]
  have hb : Below w14.heap.size w14 w15 := by rw [hw]; exact below_lit w14 _ _
  have hzw15 : w15.heap.size = w14.heap.size + 1 := by rw [hw, World.size_alloc]
  replace P1 := Lib.hid (P1.out.next hb)
  replace X2 := Lib.hid (X2.out.next hb)
  replace HBL := Lib.hid (HBL.out.trans (hb.mono HBL.out.size))
  clear hb hw
  go_wp2_with fail
  obtain ⟨w16, hw, hx, hb⟩ := lit18_c w15 (w14.heap.size + 1) hzw15
  rw [← hw]
  replace P1 := Lib.hid (P1.out.next hb)
  replace X2 := Lib.hid (X2.out.next hb)
  replace HBL := Lib.hid (HBL.out.trans (hb.mono HBL.out.size))
  have LL := Lib.hid hx
  clear hx hb hw
  refine (fget_any [⟨1, [0]⟩] 1 rfl 14 zeroR told_c6 _ 1 w16 LL.out).mono ?_
  rintro e w17 ⟨rfl, hb⟩
  replace P1 := Lib.hid (P1.out.next hb)
  replace X2 := Lib.hid (X2.out.next hb)
  replace HBL := Lib.hid (HBL.out.trans (hb.mono HBL.out.size))
  clear hb
  clear LL
  go_wp2_with fail
  obtain ⟨w18, hw⟩ : ∃ w18, w18 = w17.alloc (.cells #[.int .i64 zeroR.t.ser, .int .i64 zeroR.t.kind, .int .i64 zeroR.t.frm, .int .i64 zeroR.t.till, .int .i64 zeroR.t.cls, .int .i64 zeroR.t.card, .int .i64 zeroR.t.seat, .int .i64 zeroR.t.day, .int .i64 zeroR.t.days, .int .i64 zeroR.t.uses, .int .i64 zeroR.t.epoch, .int .i64 zeroR.key, .int .i64 zeroR.left, .int .i64 zeroR.inn, .int .i64 zeroR.ver] 27) := ⟨_, rfl⟩
  rw [← hw]
  have hb : Below w17.heap.size w17 w18 := by rw [hw]; exact below_lit w17 _ _
  have hzw18 : w18.heap.size = w17.heap.size + 1 := by rw [hw, World.size_alloc]
  replace P1 := Lib.hid (P1.out.next hb)
  replace X2 := Lib.hid (X2.out.next hb)
  replace HBL := Lib.hid (HBL.out.trans (hb.mono HBL.out.size))
  clear hb hw
  go_wp2_with fail
  refine (fget_any [] 0 rfl 12 zeroR told_c7 none 0 w18 (Ts.empty _ _)).mono ?_
  rintro e w19 ⟨rfl, hb⟩
  replace P1 := Lib.hid (P1.out.next hb)
  replace X2 := Lib.hid (X2.out.next hb)
  replace HBL := Lib.hid (HBL.out.trans (hb.mono HBL.out.size))
  clear hb
  go_wp2_with fail
  obtain ⟨w20, hw⟩ : ∃ w20, w20 = w19.alloc (.cells #[.int .i64 zeroR.t.ser, .int .i64 zeroR.t.kind, .int .i64 zeroR.t.frm, .int .i64 zeroR.t.till, .int .i64 zeroR.t.cls, .int .i64 zeroR.t.card, .int .i64 zeroR.t.seat, .int .i64 zeroR.t.day, .int .i64 zeroR.t.days, .int .i64 zeroR.t.uses, .int .i64 zeroR.t.epoch, .int .i64 zeroR.key, .int .i64 zeroR.left, .int .i64 zeroR.inn, .int .i64 zeroR.ver] 27) := ⟨_, rfl⟩
  rw [← hw]
  have hb : Below w19.heap.size w19 w20 := by rw [hw]; exact below_lit w19 _ _
  have hzw20 : w20.heap.size = w19.heap.size + 1 := by rw [hw, World.size_alloc]
  replace P1 := Lib.hid (P1.out.next hb)
  replace X2 := Lib.hid (X2.out.next hb)
  replace HBL := Lib.hid (HBL.out.trans (hb.mono HBL.out.size))
  clear hb hw
  go_wp2_with fail
  obtain ⟨w21, hw, hx, hb⟩ := lit18_d w20 (w19.heap.size + 1) hzw20
  rw [← hw]
  replace P1 := Lib.hid (P1.out.next hb)
  replace X2 := Lib.hid (X2.out.next hb)
  replace HBL := Lib.hid (HBL.out.trans (hb.mono HBL.out.size))
  have LL := Lib.hid hx
  clear hx hb hw
  refine (fget_any [⟨1, [1]⟩] 1 rfl 9 zeroR told_c8 _ 1 w21 LL.out).mono ?_
  rintro e w22 ⟨rfl, hb⟩
  replace P1 := Lib.hid (P1.out.next hb)
  replace X2 := Lib.hid (X2.out.next hb)
  replace HBL := Lib.hid (HBL.out.trans (hb.mono HBL.out.size))
  clear hb
  clear LL
  go_wp2_with fail
  obtain ⟨w23, hw⟩ : ∃ w23, w23 = w22.alloc (.cells #[.int .i64 zeroR.t.ser, .int .i64 zeroR.t.kind, .int .i64 zeroR.t.frm, .int .i64 zeroR.t.till, .int .i64 zeroR.t.cls, .int .i64 zeroR.t.card, .int .i64 zeroR.t.seat, .int .i64 zeroR.t.day, .int .i64 zeroR.t.days, .int .i64 zeroR.t.uses, .int .i64 zeroR.t.epoch, .int .i64 zeroR.key, .int .i64 zeroR.left, .int .i64 zeroR.inn, .int .i64 zeroR.ver] 27) := ⟨_, rfl⟩
  rw [← hw]
  have hb : Below w22.heap.size w22 w23 := by rw [hw]; exact below_lit w22 _ _
  have hzw23 : w23.heap.size = w22.heap.size + 1 := by rw [hw, World.size_alloc]
  replace P1 := Lib.hid (P1.out.next hb)
  replace X2 := Lib.hid (X2.out.next hb)
  replace HBL := Lib.hid (HBL.out.trans (hb.mono HBL.out.size))
  clear hb hw
  go_wp2_with fail
  refine (pname_any 9 3 true told_c9 told_c10 w23).mono ?_
  rintro e _ ⟨rfl, rfl⟩
  go_wp2_with fail
  refine (pname_any 14 0 false told_c11 told_c12 _).mono ?_
  rintro e _ ⟨rfl, rfl⟩
  go_wp2_with fail
  refine reg_of (ops' := (Try.f12.body.bind (opsAt18 15)).getD #[]) (by kernel_rfl) ?_
  refine told_reg _ (fun _ _ _ _ _ h => h) _ _ _ _ _ _ _ _ _ _ _ _ _ _ _ _ _ _ _ _ _ _ _ _ _ _ _ _ _ _ _ _ _ _ _ _ _ _ _ _ _ _ _ _ _ _ _ _ _ _ _ _ _ _ _ _ _ _ _ _ _ _ _ _ _ _ _ _ _ _ _ _ _ AP1 cP1 B2 q0 HQ0.out _ P1.out X2.out (fun y89 y90 y91 y92 y93 y94 y95 y96 y97 y98 y99 y100 y101 y102 y103 y104 y105 y106 y107 y108 y109 y110 y111 y112 y113 y114 y115 y116 y117 y118 y119 y120 y121 y122 y123 y124 y125 y126 y127 y128 y129 y130 y131 y132 y133 y134 y135 y136 y137 y138 y139 y140 y141 y142 y143 y144 y145 y146 y147 y148 y149 y150 y151 y152 y153 y154 y155 y156 y157 y158 W hW => ?_)
  go_wp2
  go_ret
  exact ⟨rfl, HBL.out.trans (hW.mono HBL.out.size)⟩
theorem told_ok : ToldOK := told_any
end Go.Proofs.Ytaldpioahnbkgaa
