/-
  Law FieldsGet walked: it answers true. Conditions: the slice reads as fields.
-/
import Derived.Test.YtaldpioahnbkgaaFieldsOK
import Derived.Test.YtaldpioahnbkgaaFieldsPGet
import Derived.Test.YtaldpioahnbkgaaFieldsRefGet
import Derived.Test.YtaldpioahnbkgaaTlvBig
import Derived.Test.YtaldpioahnbkgaaLayEq
namespace Go.Proofs.Ytaldpioahnbkgaa
set_option linter.unusedVariables false
open Go.ChangeShapes Go.WideShapes Go.ChangeAt Go.RowKit

set_option maxRecDepth 100000 in
set_option maxHeartbeats 1600000 in
theorem fieldsGet_any (C : ToldOK) (l : List Tf) (n : Nat) (hn : n = l.length) (A : Option Addr) (c : Nat) (w : World) (hA : Ts w w.heap.size l A c) : Calls Try.prog 4 #[.slice A n c] w fun e w' => e = .returned (.bool true) ∧ Below w.heap.size w w' := by
  have h1 := hA.len
  have h2 := hA.cap
  have hn3 : n ≤ 9223372036854775807 := by omega
  have HN := Lib.hid hn
  have LA := Lib.hid hA
  have HBL := Lib.hid (Below.refl w.heap.size w)
  clear h1 h2 hn hA
  obtain ⟨E, r, hE⟩ : ∃ E r, fdGet l = (E, r) := ⟨_, _, rfl⟩
  have HE := Lib.hid hE
  clear hE
  cases hb : bigT l with
  | true =>
    have HB := Lib.hid hb
    clear hb
    go_enter Try.func4, Try.ntmps4
    go_wp2_with fail
    refine (refbig_tlv l n HN.out true HB.out A c w LA.out).mono ?_
    rintro e _ ⟨rfl, rfl⟩
    go_wp2
    go_ret
    exact ⟨rfl, HBL.out⟩
  | false =>
    have HB := Lib.hid hb
    clear hb
    go_enter Try.func4, Try.ntmps4
    go_wp2_with fail
    refine (refbig_tlv l n HN.out false HB.out A c w LA.out).mono ?_
    rintro e _ ⟨rfl, rfl⟩
    go_wp2_with fail
    refine (fget_any l n HN.out E r HE.out A c w LA.out).mono ?_
    rintro e w1 ⟨rfl, hb⟩
    replace LA := Lib.hid (LA.out.next hb)
    replace HBL := Lib.hid (HBL.out.trans (hb.mono HBL.out.size))
    clear hb
    go_wp2_with fail
    obtain ⟨w2, hw⟩ : ∃ w2, w2 = w1.alloc (.cells #[.int .i64 r.t.ser, .int .i64 r.t.kind, .int .i64 r.t.frm, .int .i64 r.t.till, .int .i64 r.t.cls, .int .i64 r.t.card, .int .i64 r.t.seat, .int .i64 r.t.day, .int .i64 r.t.days, .int .i64 r.t.uses, .int .i64 r.t.epoch, .int .i64 r.key, .int .i64 r.left, .int .i64 r.inn, .int .i64 r.ver] 27) := ⟨_, rfl⟩
    rw [← hw]
    have hx : RBox w2 w1.heap.size r := by rw [hw]; exact RBox.new w1 r
    have hb : Below w1.heap.size w1 w2 := by rw [hw]; exact below_lit w1 _ _
    replace LA := Lib.hid (LA.out.next hb)
    replace HBL := Lib.hid (HBL.out.trans (hb.mono HBL.out.size))
    have X1 := Lib.hid hx
    clear hx hb hw
    obtain ⟨B1, hB⟩ : ∃ B, B = w1.heap.size := ⟨_, rfl⟩
    have hB1 : B1 < w2.heap.size := by rw [hB]; exact X1.out.lt
    rw [← hB] at X1 ⊢
    clear hB
    refine (rfget_any l n HN.out E r HE.out A c w2 LA.out).mono ?_
    rintro e w3 ⟨rfl, hb⟩
    replace LA := Lib.hid (LA.out.next hb)
    replace X1 := Lib.hid (X1.out.next hb)
    replace HBL := Lib.hid (HBL.out.trans (hb.mono HBL.out.size))
    clear hb
    go_wp2_with fail
    obtain ⟨w4, hw⟩ : ∃ w4, w4 = w3.alloc (.cells #[.int .i64 r.t.ser, .int .i64 r.t.kind, .int .i64 r.t.frm, .int .i64 r.t.till, .int .i64 r.t.cls, .int .i64 r.t.card, .int .i64 r.t.seat, .int .i64 r.t.day, .int .i64 r.t.days, .int .i64 r.t.uses, .int .i64 r.t.epoch, .int .i64 r.key, .int .i64 r.left, .int .i64 r.inn, .int .i64 r.ver] 27) := ⟨_, rfl⟩
    rw [← hw]
    have hx : RBox w4 w3.heap.size r := by rw [hw]; exact RBox.new w3 r
    have hb : Below w3.heap.size w3 w4 := by rw [hw]; exact below_lit w3 _ _
    replace LA := Lib.hid (LA.out.next hb)
    replace X1 := Lib.hid (X1.out.next hb)
    replace HBL := Lib.hid (HBL.out.trans (hb.mono HBL.out.size))
    have X2 := Lib.hid hx
    clear hx hb hw
    obtain ⟨B2, hB⟩ : ∃ B, B = w3.heap.size := ⟨_, rfl⟩
    have hB2 : B2 < w4.heap.size := by rw [hB]; exact X2.out.lt
    rw [← hB] at X2 ⊢
    clear hB
    refine (C w4).mono ?_
    rintro e w5 ⟨rfl, hb⟩
    replace LA := Lib.hid (LA.out.next hb)
    replace X1 := Lib.hid (X1.out.next hb)
    replace X2 := Lib.hid (X2.out.next hb)
    replace HBL := Lib.hid (HBL.out.trans (hb.mono HBL.out.size))
    clear hb
    obtain ⟨c0, c1, c2, c3, c4, c5, c6, c7, c8, c9, c10, c11, c12, c13, c14⟩ := X1.out.cells
    obtain ⟨d0, d1, d2, d3, d4, d5, d6, d7, d8, d9, d10, d11, d12, d13, d14⟩ := X2.out.cells
    have heq := read_eq r r
    rw [rgB_self] at heq
    go_wp2
    go_ret
    exact ⟨rfl, HBL.out⟩
end Go.Proofs.Ytaldpioahnbkgaa
