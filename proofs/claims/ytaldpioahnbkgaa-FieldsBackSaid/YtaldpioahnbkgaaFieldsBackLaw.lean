/-
  Law FieldsBack walked: it answers true. Conditions: the slice reads as fields.
-/
import Derived.Test.YtaldpioahnbkgaaFieldsOK
import Derived.Test.YtaldpioahnbkgaaFieldsPPut
import Derived.Test.YtaldpioahnbkgaaFieldsPGet
import Derived.Test.YtaldpioahnbkgaaTlvBig
import Derived.Test.YtaldpioahnbkgaaTlvSame
import Derived.Test.YtaldpioahnbkgaaLayEq
namespace Go.Proofs.Ytaldpioahnbkgaa
set_option linter.unusedVariables false
open Go.ChangeShapes Go.WideShapes Go.ChangeAt Go.RowKit

theorem fget_zero (l : List Tf) (n : Nat) (hn : n = l.length) (E : Nat) (hE : fdGet l = (E, zeroR)) (A : Option Addr) (c : Nat) (w : World) (hA : Ts w w.heap.size l A c) : Calls Try.prog 15 #[.slice A n c] w fun e w' => e = .returned (.tuple #[.agg #[.int .i64 0, .int .i64 0, .int .i64 0, .int .i64 0, .int .i64 0, .int .i64 0, .int .i64 0, .int .i64 0, .int .i64 0, .int .i64 0, .int .i64 0, .int .i64 0, .int .i64 0, .int .i64 0, .int .i64 0], .int .i64 (E : Int)]) ∧ Below w.heap.size w w' := fget_any l n hn E zeroR hE A c w hA
set_option maxRecDepth 100000 in
set_option maxHeartbeats 1600000 in
theorem fieldsBack_ok_big (C : ToldOK) (r : Rg) (l : List Tf) (n : Nat) (hn : n = l.length) (A : Option Addr) (c : Nat) (w : World) (p : List Tf) (hp : fdPut r = (0, p)) (hb : bigT l = true) (hA : Ts w w.heap.size l A c) : Calls Try.prog 5 #[.agg #[.int .i64 r.t.ser, .int .i64 r.t.kind, .int .i64 r.t.frm, .int .i64 r.t.till, .int .i64 r.t.cls, .int .i64 r.t.card, .int .i64 r.t.seat, .int .i64 r.t.day, .int .i64 r.t.days, .int .i64 r.t.uses, .int .i64 r.t.epoch, .int .i64 r.key, .int .i64 r.left, .int .i64 r.inn, .int .i64 r.ver], .slice A n c] w fun e w' => e = .returned (.bool true) ∧ Below w.heap.size w w' := by
  have h1 := hA.len
  have h2 := hA.cap
  have hn3 : n ≤ 9223372036854775807 := by omega
  have HN := Lib.hid hn
  have LA := Lib.hid hA
  have HBL := Lib.hid (Below.refl w.heap.size w)
  clear h1 h2 hn hA
  have HP := Lib.hid hp
  have HB := Lib.hid hb
  obtain ⟨i1, i2, i3⟩ := get_put hp
  have HI := Lib.hid i1
  have HG := Lib.hid i2
  obtain ⟨m, hm⟩ : ∃ m, p.length = m := ⟨_, rfl⟩
  have HM := Lib.hid hm
  have heq := read_eq r r
  rw [rgB_self] at heq
  clear i1 i2 i3 hm
  clear hp hb
  go_enter Try.func5, Try.ntmps5
  go_wp2_with fail
  obtain ⟨w1, hw⟩ : ∃ w1, w1 = w.alloc (.cells #[.int .i64 r.t.ser, .int .i64 r.t.kind, .int .i64 r.t.frm, .int .i64 r.t.till, .int .i64 r.t.cls, .int .i64 r.t.card, .int .i64 r.t.seat, .int .i64 r.t.day, .int .i64 r.t.days, .int .i64 r.t.uses, .int .i64 r.t.epoch, .int .i64 r.key, .int .i64 r.left, .int .i64 r.inn, .int .i64 r.ver] 27) := ⟨_, rfl⟩
  rw [← hw]
  have hx : RBox w1 w.heap.size r := by rw [hw]; exact RBox.new w r
  have hb : Below w.heap.size w w1 := by rw [hw]; exact below_lit w _ _
  replace LA := Lib.hid (LA.out.next hb)
  replace HBL := Lib.hid (HBL.out.trans (hb.mono HBL.out.size))
  have X1 := Lib.hid hx
  clear hx hb hw
  obtain ⟨B1, hB⟩ : ∃ B, B = w.heap.size := ⟨_, rfl⟩
  have hB1 : B1 < w1.heap.size := by rw [hB]; exact X1.out.lt
  rw [← hB] at X1 ⊢
  clear hB
  obtain ⟨c0, c1, c2, c3, c4, c5, c6, c7, c8, c9, c10, c11, c12, c13, c14⟩ := X1.out.cells
  go_wp2_with fail
  refine (fput_any r 0 p HP.out w1).mono ?_
  rintro e w2 ⟨AP1, cP1, rfl, hs, hb⟩
  clear c0 c1 c2 c3 c4 c5 c6 c7 c8 c9 c10 c11 c12 c13 c14
  replace LA := Lib.hid (LA.out.next hb)
  replace X1 := Lib.hid (X1.out.next hb)
  replace HBL := Lib.hid (HBL.out.trans (hb.mono HBL.out.size))
  have P1 := Lib.hid hs
  clear hb hs
  rw [HM.out]
  go_wp2_with fail
  refine (fget_any p m HM.out.symm 0 r HG.out AP1 cP1 w2 P1.out).mono ?_
  rintro e w3 ⟨rfl, hb⟩
  replace LA := Lib.hid (LA.out.next hb)
  replace X1 := Lib.hid (X1.out.next hb)
  replace P1 := Lib.hid (P1.out.next hb)
  replace HBL := Lib.hid (HBL.out.trans (hb.mono HBL.out.size))
  clear hb
  have hlt : B1 < w3.heap.size := X1.out.lt
  have X9 := RBox.new w3 r
  obtain ⟨d0, d1, d2, d3, d4, d5, d6, d7, d8, d9, d10, d11, d12, d13, d14⟩ := X9.cells
  obtain ⟨c0, c1, c2, c3, c4, c5, c6, c7, c8, c9, c10, c11, c12, c13, c14⟩ := X1.out.cells
  go_wp2_with fail
  obtain ⟨w4, hw⟩ : ∃ w4, w4 = w3.alloc (.cells #[.int .i64 r.t.ser, .int .i64 r.t.kind, .int .i64 r.t.frm, .int .i64 r.t.till, .int .i64 r.t.cls, .int .i64 r.t.card, .int .i64 r.t.seat, .int .i64 r.t.day, .int .i64 r.t.days, .int .i64 r.t.uses, .int .i64 r.t.epoch, .int .i64 r.key, .int .i64 r.left, .int .i64 r.inn, .int .i64 r.ver] 27) := ⟨_, rfl⟩
  rw [← hw]
  have hx : RBox w4 w3.heap.size r := by rw [hw]; exact RBox.new w3 r
  have hb : Below w3.heap.size w3 w4 := by rw [hw]; exact below_lit w3 _ _
  replace LA := Lib.hid (LA.out.next hb)
  replace X1 := Lib.hid (X1.out.next hb)
  replace P1 := Lib.hid (P1.out.next hb)
  replace HBL := Lib.hid (HBL.out.trans (hb.mono HBL.out.size))
  have X2 := Lib.hid hx
  clear hx hb hw
  obtain ⟨B2, hB⟩ : ∃ B, B = w3.heap.size := ⟨_, rfl⟩
  have hB2 : B2 < w4.heap.size := by rw [hB]; exact X2.out.lt
  rw [← hB] at X2 ⊢
  clear hB
  clear X9 hlt d0 d1 d2 d3 d4 d5 d6 d7 d8 d9 d10 d11 d12 d13 d14 c0 c1 c2 c3 c4 c5 c6 c7 c8 c9 c10 c11 c12 c13 c14
  refine (pis_tlv p m HM.out.symm true HI.out AP1 cP1 w4 P1.out).mono ?_
  rintro e w5 ⟨rfl, hb⟩
  replace LA := Lib.hid (LA.out.next hb)
  replace X1 := Lib.hid (X1.out.next hb)
  replace P1 := Lib.hid (P1.out.next hb)
  replace X2 := Lib.hid (X2.out.next hb)
  replace HBL := Lib.hid (HBL.out.trans (hb.mono HBL.out.size))
  clear hb
  go_wp2_with fail
  refine (refbig_tlv l n HN.out true HB.out A c w5 LA.out).mono ?_
  rintro e _ ⟨rfl, rfl⟩
  go_wp2
  go_ret
  exact ⟨rfl, HBL.out⟩
set_option maxRecDepth 100000 in
set_option maxHeartbeats 1600000 in
theorem fieldsBack_ok_ok (C : ToldOK) (r : Rg) (l : List Tf) (n : Nat) (hn : n = l.length) (A : Option Addr) (c : Nat) (w : World) (p : List Tf) (hp : fdPut r = (0, p)) (hb : bigT l = false) (q : Rg) (hg : fdGet l = (0, q)) (hA : Ts w w.heap.size l A c) : Calls Try.prog 5 #[.agg #[.int .i64 r.t.ser, .int .i64 r.t.kind, .int .i64 r.t.frm, .int .i64 r.t.till, .int .i64 r.t.cls, .int .i64 r.t.card, .int .i64 r.t.seat, .int .i64 r.t.day, .int .i64 r.t.days, .int .i64 r.t.uses, .int .i64 r.t.epoch, .int .i64 r.key, .int .i64 r.left, .int .i64 r.inn, .int .i64 r.ver], .slice A n c] w fun e w' => e = .returned (.bool true) ∧ Below w.heap.size w w' := by
  have h1 := hA.len
  have h2 := hA.cap
  have hn3 : n ≤ 9223372036854775807 := by omega
  have HN := Lib.hid hn
  have LA := Lib.hid hA
  have HBL := Lib.hid (Below.refl w.heap.size w)
  clear h1 h2 hn hA
  have HP := Lib.hid hp
  have HB := Lib.hid hb
  obtain ⟨i1, i2, i3⟩ := get_put hp
  have HI := Lib.hid i1
  have HG := Lib.hid i2
  obtain ⟨m, hm⟩ : ∃ m, p.length = m := ⟨_, rfl⟩
  have HM := Lib.hid hm
  have heq := read_eq r r
  rw [rgB_self] at heq
  clear i1 i2 i3 hm
  obtain ⟨j1, j2⟩ := put_get LA.out.vals hg
  have HJ := Lib.hid j1
  have HO := Lib.hid j2
  have HH := Lib.hid hg
  clear j1 j2 hg
  clear hp hb
  go_enter Try.func5, Try.ntmps5
  go_wp2_with fail
  obtain ⟨w1, hw⟩ : ∃ w1, w1 = w.alloc (.cells #[.int .i64 r.t.ser, .int .i64 r.t.kind, .int .i64 r.t.frm, .int .i64 r.t.till, .int .i64 r.t.cls, .int .i64 r.t.card, .int .i64 r.t.seat, .int .i64 r.t.day, .int .i64 r.t.days, .int .i64 r.t.uses, .int .i64 r.t.epoch, .int .i64 r.key, .int .i64 r.left, .int .i64 r.inn, .int .i64 r.ver] 27) := ⟨_, rfl⟩
  rw [← hw]
  have hx : RBox w1 w.heap.size r := by rw [hw]; exact RBox.new w r
  have hb : Below w.heap.size w w1 := by rw [hw]; exact below_lit w _ _
  replace LA := Lib.hid (LA.out.next hb)
  replace HBL := Lib.hid (HBL.out.trans (hb.mono HBL.out.size))
  have X1 := Lib.hid hx
  clear hx hb hw
  obtain ⟨B1, hB⟩ : ∃ B, B = w.heap.size := ⟨_, rfl⟩
  have hB1 : B1 < w1.heap.size := by rw [hB]; exact X1.out.lt
  rw [← hB] at X1 ⊢
  clear hB
  obtain ⟨c0, c1, c2, c3, c4, c5, c6, c7, c8, c9, c10, c11, c12, c13, c14⟩ := X1.out.cells
  go_wp2_with fail
  refine (fput_any r 0 p HP.out w1).mono ?_
  rintro e w2 ⟨AP1, cP1, rfl, hs, hb⟩
  clear c0 c1 c2 c3 c4 c5 c6 c7 c8 c9 c10 c11 c12 c13 c14
  replace LA := Lib.hid (LA.out.next hb)
  replace X1 := Lib.hid (X1.out.next hb)
  replace HBL := Lib.hid (HBL.out.trans (hb.mono HBL.out.size))
  have P1 := Lib.hid hs
  clear hb hs
  rw [HM.out]
  go_wp2_with fail
  refine (fget_any p m HM.out.symm 0 r HG.out AP1 cP1 w2 P1.out).mono ?_
  rintro e w3 ⟨rfl, hb⟩
  replace LA := Lib.hid (LA.out.next hb)
  replace X1 := Lib.hid (X1.out.next hb)
  replace P1 := Lib.hid (P1.out.next hb)
  replace HBL := Lib.hid (HBL.out.trans (hb.mono HBL.out.size))
  clear hb
  have hlt : B1 < w3.heap.size := X1.out.lt
  have X9 := RBox.new w3 r
  obtain ⟨d0, d1, d2, d3, d4, d5, d6, d7, d8, d9, d10, d11, d12, d13, d14⟩ := X9.cells
  obtain ⟨c0, c1, c2, c3, c4, c5, c6, c7, c8, c9, c10, c11, c12, c13, c14⟩ := X1.out.cells
  go_wp2_with fail
  obtain ⟨w4, hw⟩ : ∃ w4, w4 = w3.alloc (.cells #[.int .i64 r.t.ser, .int .i64 r.t.kind, .int .i64 r.t.frm, .int .i64 r.t.till, .int .i64 r.t.cls, .int .i64 r.t.card, .int .i64 r.t.seat, .int .i64 r.t.day, .int .i64 r.t.days, .int .i64 r.t.uses, .int .i64 r.t.epoch, .int .i64 r.key, .int .i64 r.left, .int .i64 r.inn, .int .i64 r.ver] 27) := ⟨_, rfl⟩
  rw [← hw]
  have hx : RBox w4 w3.heap.size r := by rw [hw]; exact RBox.new w3 r
  have hb : Below w3.heap.size w3 w4 := by rw [hw]; exact below_lit w3 _ _
  replace LA := Lib.hid (LA.out.next hb)
  replace X1 := Lib.hid (X1.out.next hb)
  replace P1 := Lib.hid (P1.out.next hb)
  replace HBL := Lib.hid (HBL.out.trans (hb.mono HBL.out.size))
  have X2 := Lib.hid hx
  clear hx hb hw
  obtain ⟨B2, hB⟩ : ∃ B, B = w3.heap.size := ⟨_, rfl⟩
  have hB2 : B2 < w4.heap.size := by rw [hB]; exact X2.out.lt
  rw [← hB] at X2 ⊢
  clear hB
  clear X9 hlt d0 d1 d2 d3 d4 d5 d6 d7 d8 d9 d10 d11 d12 d13 d14 c0 c1 c2 c3 c4 c5 c6 c7 c8 c9 c10 c11 c12 c13 c14
  refine (pis_tlv p m HM.out.symm true HI.out AP1 cP1 w4 P1.out).mono ?_
  rintro e w5 ⟨rfl, hb⟩
  replace LA := Lib.hid (LA.out.next hb)
  replace X1 := Lib.hid (X1.out.next hb)
  replace P1 := Lib.hid (P1.out.next hb)
  replace X2 := Lib.hid (X2.out.next hb)
  replace HBL := Lib.hid (HBL.out.trans (hb.mono HBL.out.size))
  clear hb
  go_wp2_with fail
  refine (refbig_tlv l n HN.out false HB.out A c w5 LA.out).mono ?_
  rintro e _ ⟨rfl, rfl⟩
  go_wp2_with fail
  refine (fget_any l n HN.out 0 q HH.out A c w5 LA.out).mono ?_
  rintro e w6 ⟨rfl, hb⟩
  replace LA := Lib.hid (LA.out.next hb)
  replace X1 := Lib.hid (X1.out.next hb)
  replace P1 := Lib.hid (P1.out.next hb)
  replace X2 := Lib.hid (X2.out.next hb)
  replace HBL := Lib.hid (HBL.out.trans (hb.mono HBL.out.size))
  clear hb
  go_wp2_with fail
  obtain ⟨w7, hw⟩ : ∃ w7, w7 = w6.alloc (.cells #[.int .i64 q.t.ser, .int .i64 q.t.kind, .int .i64 q.t.frm, .int .i64 q.t.till, .int .i64 q.t.cls, .int .i64 q.t.card, .int .i64 q.t.seat, .int .i64 q.t.day, .int .i64 q.t.days, .int .i64 q.t.uses, .int .i64 q.t.epoch, .int .i64 q.key, .int .i64 q.left, .int .i64 q.inn, .int .i64 q.ver] 27) := ⟨_, rfl⟩
  rw [← hw]
  have hx : RBox w7 w6.heap.size q := by rw [hw]; exact RBox.new w6 q
  have hb : Below w6.heap.size w6 w7 := by rw [hw]; exact below_lit w6 _ _
  replace LA := Lib.hid (LA.out.next hb)
  replace X1 := Lib.hid (X1.out.next hb)
  replace P1 := Lib.hid (P1.out.next hb)
  replace X2 := Lib.hid (X2.out.next hb)
  replace HBL := Lib.hid (HBL.out.trans (hb.mono HBL.out.size))
  have X3 := Lib.hid hx
  clear hx hb hw
  obtain ⟨B3, hB⟩ : ∃ B, B = w6.heap.size := ⟨_, rfl⟩
  have hB3 : B3 < w7.heap.size := by rw [hB]; exact X3.out.lt
  rw [← hB] at X3 ⊢
  clear hB
  refine (fput_any q 0 l HJ.out w7).mono ?_
  rintro e w8 ⟨AP3, cP3, rfl, hs, hb⟩
  replace LA := Lib.hid (LA.out.next hb)
  replace X1 := Lib.hid (X1.out.next hb)
  replace P1 := Lib.hid (P1.out.next hb)
  replace X2 := Lib.hid (X2.out.next hb)
  replace X3 := Lib.hid (X3.out.next hb)
  replace HBL := Lib.hid (HBL.out.trans (hb.mono HBL.out.size))
  have P3 := Lib.hid hs
  clear hb hs
  go_wp2_with fail
  refine (C w8).mono ?_
  rintro e w9 ⟨rfl, hb⟩
  replace LA := Lib.hid (LA.out.next hb)
  replace X1 := Lib.hid (X1.out.next hb)
  replace P1 := Lib.hid (P1.out.next hb)
  replace X2 := Lib.hid (X2.out.next hb)
  replace X3 := Lib.hid (X3.out.next hb)
  replace P3 := Lib.hid (P3.out.next hb)
  replace HBL := Lib.hid (HBL.out.trans (hb.mono HBL.out.size))
  clear hb
  go_wp2_with fail
  refine (refsame_tlv l l.length n rfl HN.out AP3 A cP3 c w9 P3.out LA.out).mono ?_
  rintro e w10 ⟨rfl, hb⟩
  replace LA := Lib.hid (LA.out.next hb)
  replace X1 := Lib.hid (X1.out.next hb)
  replace P1 := Lib.hid (P1.out.next hb)
  replace X2 := Lib.hid (X2.out.next hb)
  replace X3 := Lib.hid (X3.out.next hb)
  replace P3 := Lib.hid (P3.out.next hb)
  replace HBL := Lib.hid (HBL.out.trans (hb.mono HBL.out.size))
  clear hb
  obtain ⟨c0, c1, c2, c3, c4, c5, c6, c7, c8, c9, c10, c11, c12, c13, c14⟩ := X3.out.cells
  go_wp2_with fail
  refine (pis9_any q.t true HO.out w10).mono ?_
  rintro e w11 ⟨rfl, hb⟩
  clear c0 c1 c2 c3 c4 c5 c6 c7 c8 c9 c10 c11 c12 c13 c14
  replace LA := Lib.hid (LA.out.next hb)
  replace X1 := Lib.hid (X1.out.next hb)
  replace P1 := Lib.hid (P1.out.next hb)
  replace X2 := Lib.hid (X2.out.next hb)
  replace X3 := Lib.hid (X3.out.next hb)
  replace P3 := Lib.hid (P3.out.next hb)
  replace HBL := Lib.hid (HBL.out.trans (hb.mono HBL.out.size))
  clear hb
  go_wp2
  go_ret
  exact ⟨rfl, HBL.out⟩
set_option maxRecDepth 100000 in
set_option maxHeartbeats 1600000 in
theorem fieldsBack_ok_bad (C : ToldOK) (r : Rg) (l : List Tf) (n : Nat) (hn : n = l.length) (A : Option Addr) (c : Nat) (w : World) (p : List Tf) (hp : fdPut r = (0, p)) (hb : bigT l = false) (G : Nat) (hg : fdGet l = (G, zeroR)) (h0G : G ≠ 0) (hA : Ts w w.heap.size l A c) : Calls Try.prog 5 #[.agg #[.int .i64 r.t.ser, .int .i64 r.t.kind, .int .i64 r.t.frm, .int .i64 r.t.till, .int .i64 r.t.cls, .int .i64 r.t.card, .int .i64 r.t.seat, .int .i64 r.t.day, .int .i64 r.t.days, .int .i64 r.t.uses, .int .i64 r.t.epoch, .int .i64 r.key, .int .i64 r.left, .int .i64 r.inn, .int .i64 r.ver], .slice A n c] w fun e w' => e = .returned (.bool true) ∧ Below w.heap.size w w' := by
  have h1 := hA.len
  have h2 := hA.cap
  have hn3 : n ≤ 9223372036854775807 := by omega
  have HN := Lib.hid hn
  have LA := Lib.hid hA
  have HBL := Lib.hid (Below.refl w.heap.size w)
  clear h1 h2 hn hA
  have HP := Lib.hid hp
  have HB := Lib.hid hb
  obtain ⟨i1, i2, i3⟩ := get_put hp
  have HI := Lib.hid i1
  have HG := Lib.hid i2
  obtain ⟨m, hm⟩ : ∃ m, p.length = m := ⟨_, rfl⟩
  have HM := Lib.hid hm
  have heq := read_eq r r
  rw [rgB_self] at heq
  clear i1 i2 i3 hm
  have s1G : ((G : Int) == 0) = false := by rw [beq_eq_false_iff_ne]; omega
  have s2G : ((G : Int) != 0) = true := by rw [bne_iff_ne]; omega
  have s3G : (G == 0) = false := by rw [beq_eq_false_iff_ne]; exact h0G
  have s4G : (G != 0) = true := by rw [bne_iff_ne]; exact h0G
  have HH := Lib.hid hg
  clear h0G hg
  clear hp hb
  go_enter Try.func5, Try.ntmps5
  go_wp2_with fail
  obtain ⟨w1, hw⟩ : ∃ w1, w1 = w.alloc (.cells #[.int .i64 r.t.ser, .int .i64 r.t.kind, .int .i64 r.t.frm, .int .i64 r.t.till, .int .i64 r.t.cls, .int .i64 r.t.card, .int .i64 r.t.seat, .int .i64 r.t.day, .int .i64 r.t.days, .int .i64 r.t.uses, .int .i64 r.t.epoch, .int .i64 r.key, .int .i64 r.left, .int .i64 r.inn, .int .i64 r.ver] 27) := ⟨_, rfl⟩
  rw [← hw]
  have hx : RBox w1 w.heap.size r := by rw [hw]; exact RBox.new w r
  have hb : Below w.heap.size w w1 := by rw [hw]; exact below_lit w _ _
  replace LA := Lib.hid (LA.out.next hb)
  replace HBL := Lib.hid (HBL.out.trans (hb.mono HBL.out.size))
  have X1 := Lib.hid hx
  clear hx hb hw
  obtain ⟨B1, hB⟩ : ∃ B, B = w.heap.size := ⟨_, rfl⟩
  have hB1 : B1 < w1.heap.size := by rw [hB]; exact X1.out.lt
  rw [← hB] at X1 ⊢
  clear hB
  obtain ⟨c0, c1, c2, c3, c4, c5, c6, c7, c8, c9, c10, c11, c12, c13, c14⟩ := X1.out.cells
  go_wp2_with fail
  refine (fput_any r 0 p HP.out w1).mono ?_
  rintro e w2 ⟨AP1, cP1, rfl, hs, hb⟩
  clear c0 c1 c2 c3 c4 c5 c6 c7 c8 c9 c10 c11 c12 c13 c14
  replace LA := Lib.hid (LA.out.next hb)
  replace X1 := Lib.hid (X1.out.next hb)
  replace HBL := Lib.hid (HBL.out.trans (hb.mono HBL.out.size))
  have P1 := Lib.hid hs
  clear hb hs
  rw [HM.out]
  go_wp2_with fail
  refine (fget_any p m HM.out.symm 0 r HG.out AP1 cP1 w2 P1.out).mono ?_
  rintro e w3 ⟨rfl, hb⟩
  replace LA := Lib.hid (LA.out.next hb)
  replace X1 := Lib.hid (X1.out.next hb)
  replace P1 := Lib.hid (P1.out.next hb)
  replace HBL := Lib.hid (HBL.out.trans (hb.mono HBL.out.size))
  clear hb
  have hlt : B1 < w3.heap.size := X1.out.lt
  have X9 := RBox.new w3 r
  obtain ⟨d0, d1, d2, d3, d4, d5, d6, d7, d8, d9, d10, d11, d12, d13, d14⟩ := X9.cells
  obtain ⟨c0, c1, c2, c3, c4, c5, c6, c7, c8, c9, c10, c11, c12, c13, c14⟩ := X1.out.cells
  go_wp2_with fail
  obtain ⟨w4, hw⟩ : ∃ w4, w4 = w3.alloc (.cells #[.int .i64 r.t.ser, .int .i64 r.t.kind, .int .i64 r.t.frm, .int .i64 r.t.till, .int .i64 r.t.cls, .int .i64 r.t.card, .int .i64 r.t.seat, .int .i64 r.t.day, .int .i64 r.t.days, .int .i64 r.t.uses, .int .i64 r.t.epoch, .int .i64 r.key, .int .i64 r.left, .int .i64 r.inn, .int .i64 r.ver] 27) := ⟨_, rfl⟩
  rw [← hw]
  have hx : RBox w4 w3.heap.size r := by rw [hw]; exact RBox.new w3 r
  have hb : Below w3.heap.size w3 w4 := by rw [hw]; exact below_lit w3 _ _
  replace LA := Lib.hid (LA.out.next hb)
  replace X1 := Lib.hid (X1.out.next hb)
  replace P1 := Lib.hid (P1.out.next hb)
  replace HBL := Lib.hid (HBL.out.trans (hb.mono HBL.out.size))
  have X2 := Lib.hid hx
  clear hx hb hw
  obtain ⟨B2, hB⟩ : ∃ B, B = w3.heap.size := ⟨_, rfl⟩
  have hB2 : B2 < w4.heap.size := by rw [hB]; exact X2.out.lt
  rw [← hB] at X2 ⊢
  clear hB
  clear X9 hlt d0 d1 d2 d3 d4 d5 d6 d7 d8 d9 d10 d11 d12 d13 d14 c0 c1 c2 c3 c4 c5 c6 c7 c8 c9 c10 c11 c12 c13 c14
  refine (pis_tlv p m HM.out.symm true HI.out AP1 cP1 w4 P1.out).mono ?_
  rintro e w5 ⟨rfl, hb⟩
  replace LA := Lib.hid (LA.out.next hb)
  replace X1 := Lib.hid (X1.out.next hb)
  replace P1 := Lib.hid (P1.out.next hb)
  replace X2 := Lib.hid (X2.out.next hb)
  replace HBL := Lib.hid (HBL.out.trans (hb.mono HBL.out.size))
  clear hb
  go_wp2_with fail
  refine (refbig_tlv l n HN.out false HB.out A c w5 LA.out).mono ?_
  rintro e _ ⟨rfl, rfl⟩
  go_wp2_with fail
  refine (fget_zero l n HN.out G HH.out A c w5 LA.out).mono ?_
  rintro e w6 ⟨rfl, hb⟩
  replace LA := Lib.hid (LA.out.next hb)
  replace X1 := Lib.hid (X1.out.next hb)
  replace P1 := Lib.hid (P1.out.next hb)
  replace X2 := Lib.hid (X2.out.next hb)
  replace HBL := Lib.hid (HBL.out.trans (hb.mono HBL.out.size))
  clear hb
  go_wp2_with fail
  obtain ⟨w7, hw⟩ : ∃ w7, w7 = w6.alloc (.cells #[.int .i64 0, .int .i64 0, .int .i64 0, .int .i64 0, .int .i64 0, .int .i64 0, .int .i64 0, .int .i64 0, .int .i64 0, .int .i64 0, .int .i64 0, .int .i64 0, .int .i64 0, .int .i64 0, .int .i64 0] 27) := ⟨_, rfl⟩
  rw [← hw]
  have hx : RBox w7 w6.heap.size zeroR := by rw [hw]; exact RBox.new w6 zeroR
  have hb : Below w6.heap.size w6 w7 := by rw [hw]; exact below_lit w6 _ _
  replace LA := Lib.hid (LA.out.next hb)
  replace X1 := Lib.hid (X1.out.next hb)
  replace P1 := Lib.hid (P1.out.next hb)
  replace X2 := Lib.hid (X2.out.next hb)
  replace HBL := Lib.hid (HBL.out.trans (hb.mono HBL.out.size))
  have X3 := Lib.hid hx
  clear hx hb hw
  obtain ⟨B3, hB⟩ : ∃ B, B = w6.heap.size := ⟨_, rfl⟩
  rw [← hB] at X3 ⊢
  clear hB
  refine (C w7).mono ?_
  rintro e w8 ⟨rfl, hb⟩
  replace LA := Lib.hid (LA.out.next hb)
  replace X1 := Lib.hid (X1.out.next hb)
  replace P1 := Lib.hid (P1.out.next hb)
  replace X2 := Lib.hid (X2.out.next hb)
  replace X3 := Lib.hid (X3.out.next hb)
  replace HBL := Lib.hid (HBL.out.trans (hb.mono HBL.out.size))
  clear hb
  have d0 : w8.cell? ⟨B3, 0, none⟩ = some (.int .i64 0) := X3.out.cells.1
  have d1 : w8.cell? ⟨B3, 1, none⟩ = some (.int .i64 0) := X3.out.cells.2.1
  have d2 : w8.cell? ⟨B3, 2, none⟩ = some (.int .i64 0) := X3.out.cells.2.2.1
  have d3 : w8.cell? ⟨B3, 3, none⟩ = some (.int .i64 0) := X3.out.cells.2.2.2.1
  have d4 : w8.cell? ⟨B3, 4, none⟩ = some (.int .i64 0) := X3.out.cells.2.2.2.2.1
  have d5 : w8.cell? ⟨B3, 5, none⟩ = some (.int .i64 0) := X3.out.cells.2.2.2.2.2.1
  have d6 : w8.cell? ⟨B3, 6, none⟩ = some (.int .i64 0) := X3.out.cells.2.2.2.2.2.2.1
  have d7 : w8.cell? ⟨B3, 7, none⟩ = some (.int .i64 0) := X3.out.cells.2.2.2.2.2.2.2.1
  have d8 : w8.cell? ⟨B3, 8, none⟩ = some (.int .i64 0) := X3.out.cells.2.2.2.2.2.2.2.2.1
  have d9 : w8.cell? ⟨B3, 9, none⟩ = some (.int .i64 0) := X3.out.cells.2.2.2.2.2.2.2.2.2.1
  have d10 : w8.cell? ⟨B3, 10, none⟩ = some (.int .i64 0) := X3.out.cells.2.2.2.2.2.2.2.2.2.2.1
  have d11 : w8.cell? ⟨B3, 11, none⟩ = some (.int .i64 0) := X3.out.cells.2.2.2.2.2.2.2.2.2.2.2.1
  have d12 : w8.cell? ⟨B3, 12, none⟩ = some (.int .i64 0) := X3.out.cells.2.2.2.2.2.2.2.2.2.2.2.2.1
  have d13 : w8.cell? ⟨B3, 13, none⟩ = some (.int .i64 0) := X3.out.cells.2.2.2.2.2.2.2.2.2.2.2.2.2.1
  have d14 : w8.cell? ⟨B3, 14, none⟩ = some (.int .i64 0) := X3.out.cells.2.2.2.2.2.2.2.2.2.2.2.2.2.2
  go_wp2
  go_ret
  exact ⟨rfl, HBL.out⟩
set_option maxRecDepth 100000 in
set_option maxHeartbeats 1600000 in
theorem fieldsBack_bad_big (C : ToldOK) (r : Rg) (l : List Tf) (n : Nat) (hn : n = l.length) (A : Option Addr) (c : Nat) (w : World) (E : Nat) (hp : fdPut r = (E, [])) (h0E : E ≠ 0) (hb : bigT l = true) (hA : Ts w w.heap.size l A c) : Calls Try.prog 5 #[.agg #[.int .i64 r.t.ser, .int .i64 r.t.kind, .int .i64 r.t.frm, .int .i64 r.t.till, .int .i64 r.t.cls, .int .i64 r.t.card, .int .i64 r.t.seat, .int .i64 r.t.day, .int .i64 r.t.days, .int .i64 r.t.uses, .int .i64 r.t.epoch, .int .i64 r.key, .int .i64 r.left, .int .i64 r.inn, .int .i64 r.ver], .slice A n c] w fun e w' => e = .returned (.bool true) ∧ Below w.heap.size w w' := by
  have h1 := hA.len
  have h2 := hA.cap
  have hn3 : n ≤ 9223372036854775807 := by omega
  have HN := Lib.hid hn
  have LA := Lib.hid hA
  have HBL := Lib.hid (Below.refl w.heap.size w)
  clear h1 h2 hn hA
  have HP := Lib.hid hp
  have HB := Lib.hid hb
  have s1E : ((E : Int) == 0) = false := by rw [beq_eq_false_iff_ne]; omega
  have s2E : ((E : Int) != 0) = true := by rw [bne_iff_ne]; omega
  have s3E : (E == 0) = false := by rw [beq_eq_false_iff_ne]; exact h0E
  have s4E : (E != 0) = true := by rw [bne_iff_ne]; exact h0E
  clear h0E
  clear hp hb
  go_enter Try.func5, Try.ntmps5
  go_wp2_with fail
  obtain ⟨w1, hw⟩ : ∃ w1, w1 = w.alloc (.cells #[.int .i64 r.t.ser, .int .i64 r.t.kind, .int .i64 r.t.frm, .int .i64 r.t.till, .int .i64 r.t.cls, .int .i64 r.t.card, .int .i64 r.t.seat, .int .i64 r.t.day, .int .i64 r.t.days, .int .i64 r.t.uses, .int .i64 r.t.epoch, .int .i64 r.key, .int .i64 r.left, .int .i64 r.inn, .int .i64 r.ver] 27) := ⟨_, rfl⟩
  rw [← hw]
  have hx : RBox w1 w.heap.size r := by rw [hw]; exact RBox.new w r
  have hb : Below w.heap.size w w1 := by rw [hw]; exact below_lit w _ _
  replace LA := Lib.hid (LA.out.next hb)
  replace HBL := Lib.hid (HBL.out.trans (hb.mono HBL.out.size))
  have X1 := Lib.hid hx
  clear hx hb hw
  obtain ⟨B1, hB⟩ : ∃ B, B = w.heap.size := ⟨_, rfl⟩
  have hB1 : B1 < w1.heap.size := by rw [hB]; exact X1.out.lt
  rw [← hB] at X1 ⊢
  clear hB
  obtain ⟨c0, c1, c2, c3, c4, c5, c6, c7, c8, c9, c10, c11, c12, c13, c14⟩ := X1.out.cells
  go_wp2_with fail
  refine (fput_any r E [] HP.out w1).mono ?_
  rintro e w2 ⟨AP1, cP1, rfl, hs, hb⟩
  clear c0 c1 c2 c3 c4 c5 c6 c7 c8 c9 c10 c11 c12 c13 c14
  replace LA := Lib.hid (LA.out.next hb)
  replace X1 := Lib.hid (X1.out.next hb)
  replace HBL := Lib.hid (HBL.out.trans (hb.mono HBL.out.size))
  have P1 := Lib.hid hs
  clear hb hs
  go_wp2_with fail
  refine (refbig_tlv l n HN.out true HB.out A c w2 LA.out).mono ?_
  rintro e _ ⟨rfl, rfl⟩
  go_wp2
  go_ret
  exact ⟨rfl, HBL.out⟩
set_option maxRecDepth 100000 in
set_option maxHeartbeats 1600000 in
theorem fieldsBack_bad_ok (C : ToldOK) (r : Rg) (l : List Tf) (n : Nat) (hn : n = l.length) (A : Option Addr) (c : Nat) (w : World) (E : Nat) (hp : fdPut r = (E, [])) (h0E : E ≠ 0) (hb : bigT l = false) (q : Rg) (hg : fdGet l = (0, q)) (hA : Ts w w.heap.size l A c) : Calls Try.prog 5 #[.agg #[.int .i64 r.t.ser, .int .i64 r.t.kind, .int .i64 r.t.frm, .int .i64 r.t.till, .int .i64 r.t.cls, .int .i64 r.t.card, .int .i64 r.t.seat, .int .i64 r.t.day, .int .i64 r.t.days, .int .i64 r.t.uses, .int .i64 r.t.epoch, .int .i64 r.key, .int .i64 r.left, .int .i64 r.inn, .int .i64 r.ver], .slice A n c] w fun e w' => e = .returned (.bool true) ∧ Below w.heap.size w w' := by
  have h1 := hA.len
  have h2 := hA.cap
  have hn3 : n ≤ 9223372036854775807 := by omega
  have HN := Lib.hid hn
  have LA := Lib.hid hA
  have HBL := Lib.hid (Below.refl w.heap.size w)
  clear h1 h2 hn hA
  have HP := Lib.hid hp
  have HB := Lib.hid hb
  have s1E : ((E : Int) == 0) = false := by rw [beq_eq_false_iff_ne]; omega
  have s2E : ((E : Int) != 0) = true := by rw [bne_iff_ne]; omega
  have s3E : (E == 0) = false := by rw [beq_eq_false_iff_ne]; exact h0E
  have s4E : (E != 0) = true := by rw [bne_iff_ne]; exact h0E
  clear h0E
  obtain ⟨j1, j2⟩ := put_get LA.out.vals hg
  have HJ := Lib.hid j1
  have HO := Lib.hid j2
  have HH := Lib.hid hg
  clear j1 j2 hg
  clear hp hb
  go_enter Try.func5, Try.ntmps5
  go_wp2_with fail
  obtain ⟨w1, hw⟩ : ∃ w1, w1 = w.alloc (.cells #[.int .i64 r.t.ser, .int .i64 r.t.kind, .int .i64 r.t.frm, .int .i64 r.t.till, .int .i64 r.t.cls, .int .i64 r.t.card, .int .i64 r.t.seat, .int .i64 r.t.day, .int .i64 r.t.days, .int .i64 r.t.uses, .int .i64 r.t.epoch, .int .i64 r.key, .int .i64 r.left, .int .i64 r.inn, .int .i64 r.ver] 27) := ⟨_, rfl⟩
  rw [← hw]
  have hx : RBox w1 w.heap.size r := by rw [hw]; exact RBox.new w r
  have hb : Below w.heap.size w w1 := by rw [hw]; exact below_lit w _ _
  replace LA := Lib.hid (LA.out.next hb)
  replace HBL := Lib.hid (HBL.out.trans (hb.mono HBL.out.size))
  have X1 := Lib.hid hx
  clear hx hb hw
  obtain ⟨B1, hB⟩ : ∃ B, B = w.heap.size := ⟨_, rfl⟩
  have hB1 : B1 < w1.heap.size := by rw [hB]; exact X1.out.lt
  rw [← hB] at X1 ⊢
  clear hB
  obtain ⟨c0, c1, c2, c3, c4, c5, c6, c7, c8, c9, c10, c11, c12, c13, c14⟩ := X1.out.cells
  go_wp2_with fail
  refine (fput_any r E [] HP.out w1).mono ?_
  rintro e w2 ⟨AP1, cP1, rfl, hs, hb⟩
  clear c0 c1 c2 c3 c4 c5 c6 c7 c8 c9 c10 c11 c12 c13 c14
  replace LA := Lib.hid (LA.out.next hb)
  replace X1 := Lib.hid (X1.out.next hb)
  replace HBL := Lib.hid (HBL.out.trans (hb.mono HBL.out.size))
  have P1 := Lib.hid hs
  clear hb hs
  go_wp2_with fail
  refine (refbig_tlv l n HN.out false HB.out A c w2 LA.out).mono ?_
  rintro e _ ⟨rfl, rfl⟩
  go_wp2_with fail
  refine (fget_any l n HN.out 0 q HH.out A c w2 LA.out).mono ?_
  rintro e w3 ⟨rfl, hb⟩
  replace LA := Lib.hid (LA.out.next hb)
  replace X1 := Lib.hid (X1.out.next hb)
  replace P1 := Lib.hid (P1.out.next hb)
  replace HBL := Lib.hid (HBL.out.trans (hb.mono HBL.out.size))
  clear hb
  go_wp2_with fail
  obtain ⟨w4, hw⟩ : ∃ w4, w4 = w3.alloc (.cells #[.int .i64 q.t.ser, .int .i64 q.t.kind, .int .i64 q.t.frm, .int .i64 q.t.till, .int .i64 q.t.cls, .int .i64 q.t.card, .int .i64 q.t.seat, .int .i64 q.t.day, .int .i64 q.t.days, .int .i64 q.t.uses, .int .i64 q.t.epoch, .int .i64 q.key, .int .i64 q.left, .int .i64 q.inn, .int .i64 q.ver] 27) := ⟨_, rfl⟩
  rw [← hw]
  have hx : RBox w4 w3.heap.size q := by rw [hw]; exact RBox.new w3 q
  have hb : Below w3.heap.size w3 w4 := by rw [hw]; exact below_lit w3 _ _
  replace LA := Lib.hid (LA.out.next hb)
  replace X1 := Lib.hid (X1.out.next hb)
  replace P1 := Lib.hid (P1.out.next hb)
  replace HBL := Lib.hid (HBL.out.trans (hb.mono HBL.out.size))
  have X3 := Lib.hid hx
  clear hx hb hw
  obtain ⟨B3, hB⟩ : ∃ B, B = w3.heap.size := ⟨_, rfl⟩
  have hB3 : B3 < w4.heap.size := by rw [hB]; exact X3.out.lt
  rw [← hB] at X3 ⊢
  clear hB
  refine (fput_any q 0 l HJ.out w4).mono ?_
  rintro e w5 ⟨AP3, cP3, rfl, hs, hb⟩
  replace LA := Lib.hid (LA.out.next hb)
  replace X1 := Lib.hid (X1.out.next hb)
  replace P1 := Lib.hid (P1.out.next hb)
  replace X3 := Lib.hid (X3.out.next hb)
  replace HBL := Lib.hid (HBL.out.trans (hb.mono HBL.out.size))
  have P3 := Lib.hid hs
  clear hb hs
  go_wp2_with fail
  refine (C w5).mono ?_
  rintro e w6 ⟨rfl, hb⟩
  replace LA := Lib.hid (LA.out.next hb)
  replace X1 := Lib.hid (X1.out.next hb)
  replace P1 := Lib.hid (P1.out.next hb)
  replace X3 := Lib.hid (X3.out.next hb)
  replace P3 := Lib.hid (P3.out.next hb)
  replace HBL := Lib.hid (HBL.out.trans (hb.mono HBL.out.size))
  clear hb
  go_wp2_with fail
  refine (refsame_tlv l l.length n rfl HN.out AP3 A cP3 c w6 P3.out LA.out).mono ?_
  rintro e w7 ⟨rfl, hb⟩
  replace LA := Lib.hid (LA.out.next hb)
  replace X1 := Lib.hid (X1.out.next hb)
  replace P1 := Lib.hid (P1.out.next hb)
  replace X3 := Lib.hid (X3.out.next hb)
  replace P3 := Lib.hid (P3.out.next hb)
  replace HBL := Lib.hid (HBL.out.trans (hb.mono HBL.out.size))
  clear hb
  obtain ⟨c0, c1, c2, c3, c4, c5, c6, c7, c8, c9, c10, c11, c12, c13, c14⟩ := X3.out.cells
  go_wp2_with fail
  refine (pis9_any q.t true HO.out w7).mono ?_
  rintro e w8 ⟨rfl, hb⟩
  clear c0 c1 c2 c3 c4 c5 c6 c7 c8 c9 c10 c11 c12 c13 c14
  replace LA := Lib.hid (LA.out.next hb)
  replace X1 := Lib.hid (X1.out.next hb)
  replace P1 := Lib.hid (P1.out.next hb)
  replace X3 := Lib.hid (X3.out.next hb)
  replace P3 := Lib.hid (P3.out.next hb)
  replace HBL := Lib.hid (HBL.out.trans (hb.mono HBL.out.size))
  clear hb
  go_wp2
  go_ret
  exact ⟨rfl, HBL.out⟩
set_option maxRecDepth 100000 in
set_option maxHeartbeats 1600000 in
theorem fieldsBack_bad_bad (C : ToldOK) (r : Rg) (l : List Tf) (n : Nat) (hn : n = l.length) (A : Option Addr) (c : Nat) (w : World) (E : Nat) (hp : fdPut r = (E, [])) (h0E : E ≠ 0) (hb : bigT l = false) (G : Nat) (hg : fdGet l = (G, zeroR)) (h0G : G ≠ 0) (hA : Ts w w.heap.size l A c) : Calls Try.prog 5 #[.agg #[.int .i64 r.t.ser, .int .i64 r.t.kind, .int .i64 r.t.frm, .int .i64 r.t.till, .int .i64 r.t.cls, .int .i64 r.t.card, .int .i64 r.t.seat, .int .i64 r.t.day, .int .i64 r.t.days, .int .i64 r.t.uses, .int .i64 r.t.epoch, .int .i64 r.key, .int .i64 r.left, .int .i64 r.inn, .int .i64 r.ver], .slice A n c] w fun e w' => e = .returned (.bool true) ∧ Below w.heap.size w w' := by
  have h1 := hA.len
  have h2 := hA.cap
  have hn3 : n ≤ 9223372036854775807 := by omega
  have HN := Lib.hid hn
  have LA := Lib.hid hA
  have HBL := Lib.hid (Below.refl w.heap.size w)
  clear h1 h2 hn hA
  have HP := Lib.hid hp
  have HB := Lib.hid hb
  have s1E : ((E : Int) == 0) = false := by rw [beq_eq_false_iff_ne]; omega
  have s2E : ((E : Int) != 0) = true := by rw [bne_iff_ne]; omega
  have s3E : (E == 0) = false := by rw [beq_eq_false_iff_ne]; exact h0E
  have s4E : (E != 0) = true := by rw [bne_iff_ne]; exact h0E
  clear h0E
  have s1G : ((G : Int) == 0) = false := by rw [beq_eq_false_iff_ne]; omega
  have s2G : ((G : Int) != 0) = true := by rw [bne_iff_ne]; omega
  have s3G : (G == 0) = false := by rw [beq_eq_false_iff_ne]; exact h0G
  have s4G : (G != 0) = true := by rw [bne_iff_ne]; exact h0G
  have HH := Lib.hid hg
  clear h0G hg
  clear hp hb
  go_enter Try.func5, Try.ntmps5
  go_wp2_with fail
  obtain ⟨w1, hw⟩ : ∃ w1, w1 = w.alloc (.cells #[.int .i64 r.t.ser, .int .i64 r.t.kind, .int .i64 r.t.frm, .int .i64 r.t.till, .int .i64 r.t.cls, .int .i64 r.t.card, .int .i64 r.t.seat, .int .i64 r.t.day, .int .i64 r.t.days, .int .i64 r.t.uses, .int .i64 r.t.epoch, .int .i64 r.key, .int .i64 r.left, .int .i64 r.inn, .int .i64 r.ver] 27) := ⟨_, rfl⟩
  rw [← hw]
  have hx : RBox w1 w.heap.size r := by rw [hw]; exact RBox.new w r
  have hb : Below w.heap.size w w1 := by rw [hw]; exact below_lit w _ _
  replace LA := Lib.hid (LA.out.next hb)
  replace HBL := Lib.hid (HBL.out.trans (hb.mono HBL.out.size))
  have X1 := Lib.hid hx
  clear hx hb hw
  obtain ⟨B1, hB⟩ : ∃ B, B = w.heap.size := ⟨_, rfl⟩
  have hB1 : B1 < w1.heap.size := by rw [hB]; exact X1.out.lt
  rw [← hB] at X1 ⊢
  clear hB
  obtain ⟨c0, c1, c2, c3, c4, c5, c6, c7, c8, c9, c10, c11, c12, c13, c14⟩ := X1.out.cells
  go_wp2_with fail
  refine (fput_any r E [] HP.out w1).mono ?_
  rintro e w2 ⟨AP1, cP1, rfl, hs, hb⟩
  clear c0 c1 c2 c3 c4 c5 c6 c7 c8 c9 c10 c11 c12 c13 c14
  replace LA := Lib.hid (LA.out.next hb)
  replace X1 := Lib.hid (X1.out.next hb)
  replace HBL := Lib.hid (HBL.out.trans (hb.mono HBL.out.size))
  have P1 := Lib.hid hs
  clear hb hs
  go_wp2_with fail
  refine (refbig_tlv l n HN.out false HB.out A c w2 LA.out).mono ?_
  rintro e _ ⟨rfl, rfl⟩
  go_wp2_with fail
  refine (fget_zero l n HN.out G HH.out A c w2 LA.out).mono ?_
  rintro e w3 ⟨rfl, hb⟩
  replace LA := Lib.hid (LA.out.next hb)
  replace X1 := Lib.hid (X1.out.next hb)
  replace P1 := Lib.hid (P1.out.next hb)
  replace HBL := Lib.hid (HBL.out.trans (hb.mono HBL.out.size))
  clear hb
  go_wp2_with fail
  obtain ⟨w4, hw⟩ : ∃ w4, w4 = w3.alloc (.cells #[.int .i64 0, .int .i64 0, .int .i64 0, .int .i64 0, .int .i64 0, .int .i64 0, .int .i64 0, .int .i64 0, .int .i64 0, .int .i64 0, .int .i64 0, .int .i64 0, .int .i64 0, .int .i64 0, .int .i64 0] 27) := ⟨_, rfl⟩
  rw [← hw]
  have hx : RBox w4 w3.heap.size zeroR := by rw [hw]; exact RBox.new w3 zeroR
  have hb : Below w3.heap.size w3 w4 := by rw [hw]; exact below_lit w3 _ _
  replace LA := Lib.hid (LA.out.next hb)
  replace X1 := Lib.hid (X1.out.next hb)
  replace P1 := Lib.hid (P1.out.next hb)
  replace HBL := Lib.hid (HBL.out.trans (hb.mono HBL.out.size))
  have X3 := Lib.hid hx
  clear hx hb hw
  obtain ⟨B3, hB⟩ : ∃ B, B = w3.heap.size := ⟨_, rfl⟩
  rw [← hB] at X3 ⊢
  clear hB
  refine (C w4).mono ?_
  rintro e w5 ⟨rfl, hb⟩
  replace LA := Lib.hid (LA.out.next hb)
  replace X1 := Lib.hid (X1.out.next hb)
  replace P1 := Lib.hid (P1.out.next hb)
  replace X3 := Lib.hid (X3.out.next hb)
  replace HBL := Lib.hid (HBL.out.trans (hb.mono HBL.out.size))
  clear hb
  have d0 : w5.cell? ⟨B3, 0, none⟩ = some (.int .i64 0) := X3.out.cells.1
  have d1 : w5.cell? ⟨B3, 1, none⟩ = some (.int .i64 0) := X3.out.cells.2.1
  have d2 : w5.cell? ⟨B3, 2, none⟩ = some (.int .i64 0) := X3.out.cells.2.2.1
  have d3 : w5.cell? ⟨B3, 3, none⟩ = some (.int .i64 0) := X3.out.cells.2.2.2.1
  have d4 : w5.cell? ⟨B3, 4, none⟩ = some (.int .i64 0) := X3.out.cells.2.2.2.2.1
  have d5 : w5.cell? ⟨B3, 5, none⟩ = some (.int .i64 0) := X3.out.cells.2.2.2.2.2.1
  have d6 : w5.cell? ⟨B3, 6, none⟩ = some (.int .i64 0) := X3.out.cells.2.2.2.2.2.2.1
  have d7 : w5.cell? ⟨B3, 7, none⟩ = some (.int .i64 0) := X3.out.cells.2.2.2.2.2.2.2.1
  have d8 : w5.cell? ⟨B3, 8, none⟩ = some (.int .i64 0) := X3.out.cells.2.2.2.2.2.2.2.2.1
  have d9 : w5.cell? ⟨B3, 9, none⟩ = some (.int .i64 0) := X3.out.cells.2.2.2.2.2.2.2.2.2.1
  have d10 : w5.cell? ⟨B3, 10, none⟩ = some (.int .i64 0) := X3.out.cells.2.2.2.2.2.2.2.2.2.2.1
  have d11 : w5.cell? ⟨B3, 11, none⟩ = some (.int .i64 0) := X3.out.cells.2.2.2.2.2.2.2.2.2.2.2.1
  have d12 : w5.cell? ⟨B3, 12, none⟩ = some (.int .i64 0) := X3.out.cells.2.2.2.2.2.2.2.2.2.2.2.2.1
  have d13 : w5.cell? ⟨B3, 13, none⟩ = some (.int .i64 0) := X3.out.cells.2.2.2.2.2.2.2.2.2.2.2.2.2.1
  have d14 : w5.cell? ⟨B3, 14, none⟩ = some (.int .i64 0) := X3.out.cells.2.2.2.2.2.2.2.2.2.2.2.2.2.2
  go_wp2
  go_ret
  exact ⟨rfl, HBL.out⟩
set_option maxRecDepth 100000 in
set_option maxHeartbeats 1600000 in
theorem fieldsBack_any (C : ToldOK) (r : Rg) (l : List Tf) (n : Nat) (hn : n = l.length) (A : Option Addr) (c : Nat) (w : World) (hA : Ts w w.heap.size l A c) : Calls Try.prog 5 #[.agg #[.int .i64 r.t.ser, .int .i64 r.t.kind, .int .i64 r.t.frm, .int .i64 r.t.till, .int .i64 r.t.cls, .int .i64 r.t.card, .int .i64 r.t.seat, .int .i64 r.t.day, .int .i64 r.t.days, .int .i64 r.t.uses, .int .i64 r.t.epoch, .int .i64 r.key, .int .i64 r.left, .int .i64 r.inn, .int .i64 r.ver], .slice A n c] w fun e w' => e = .returned (.bool true) ∧ Below w.heap.size w w' := by
  obtain ⟨E, p, hp⟩ : ∃ E p, fdPut r = (E, p) := ⟨_, _, rfl⟩
  obtain ⟨G, q, hg⟩ : ∃ G q, fdGet l = (G, q) := ⟨_, _, rfl⟩
  by_cases h0E : E = 0
  · subst h0E
    cases hb : bigT l with
    | true => exact fieldsBack_ok_big C r l n hn A c w p hp hb hA
    | false =>
      by_cases h0G : G = 0
      · subst h0G
        exact fieldsBack_ok_ok C r l n hn A c w p hp hb q hg hA
      · obtain rfl := fdGet_bad hg h0G
        exact fieldsBack_ok_bad C r l n hn A c w p hp hb G hg h0G hA
  · obtain ⟨rfl, _⟩ := fdPut_bad hp h0E
    cases hb : bigT l with
    | true => exact fieldsBack_bad_big C r l n hn A c w E hp h0E hb hA
    | false =>
      by_cases h0G : G = 0
      · subst h0G
        exact fieldsBack_bad_ok C r l n hn A c w E hp h0E hb q hg hA
      · obtain rfl := fdGet_bad hg h0G
        exact fieldsBack_bad_bad C r l n hn A c w E hp h0E hb G hg h0G hA
end Go.Proofs.Ytaldpioahnbkgaa
