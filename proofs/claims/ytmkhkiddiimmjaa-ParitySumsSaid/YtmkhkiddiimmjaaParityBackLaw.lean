/-
  Law ParityBack walked, out of the contracts: it answers true. Conditions: the number fits an int.
-/
import Derived.Test.YtmkhkiddiimmjaaParityOdd
namespace Go.Proofs.Ytmkhkiddiimmjaa
set_option linter.unusedVariables false
open Go.ChangeShapes Go.WideShapes Go.ChangeAt Go.RowKit

theorem charV_in {v : Int} (h : isV v = true) : In64 (charV v) := by
  have := (isC_iff _).1 (char_back h).1
  unfold In64; omega
theorem ofB_in (b : B5) : In64 (ofB b) := by have := ofB_lt b; unfold In64; omega
set_option maxRecDepth 100000 in
set_option maxHeartbeats 1600000 in
theorem back10_any (C : PC) (v : Int) (b : B5) (jv : In64 v) (w : World) : Calls Try.prog 5 #[.int .i64 v, .agg #[.bool b.b0, .bool b.b1, .bool b.b2, .bool b.b3, .bool b.b4]] w fun e w' => e = .returned (.bool true) ∧ Below w.heap.size w w' := by
  have RV := Lib.hid jv
  clear jv
  have heq := b5_same b
  obtain ⟨o, ho⟩ : ∃ o, ofB b = o := ⟨_, rfl⟩
  have HO := Lib.hid ho
  have RO := Lib.hid (show In64 o by rw [← ho]; exact ofB_in b)
  have HB1 := Lib.hid (show bitsB o = b by rw [← ho]; exact (of_facts b).2.1)
  have HB2 := Lib.hid (show bitsE o = 0 by rw [← ho]; exact (of_facts b).2.2)
  clear ho
  have HBL := Lib.hid (Below.refl w.heap.size w)
  cases h : isV v with
  | true =>
    have hb := char_back h
    have HE := Lib.hid (show charE v = 0 by rw [charE, if_pos h])
    obtain ⟨x, hx⟩ : ∃ x, charV v = x := ⟨_, rfl⟩
    have HX := Lib.hid hx
    have RX := Lib.hid (show In64 x by rw [← hx]; exact charV_in h)
    have HV := Lib.hid (show valV x = v by rw [← hx]; exact hb.2.2)
    have HVE := Lib.hid (show valE x = 0 by rw [← hx]; exact hb.2.1)
    have hv := (isV_iff v).1 h
    have q1 : decide (0 ≤ v) = true := decide_eq_true hv.1
    have q2 : decide (v ≤ 15) = true := decide_eq_true hv.2
    clear hb hx hv h
    go_enter Try.func5, Try.ntmps5
    go_wp2_with fail
    obtain ⟨w1, hw⟩ : ∃ w1, w1 = w.alloc (.cells #[.bool b.b0, .bool b.b1, .bool b.b2, .bool b.b3, .bool b.b4] 28) := ⟨_, rfl⟩
    rw [← hw]
    have hx : BBox w1 w.heap.size (b) := by rw [hw]; exact BBox.new w (b)
    have hb : Below w.heap.size w w1 := by rw [hw]; exact below_lit w _ _
    replace HBL := Lib.hid (HBL.out.trans (hb.mono HBL.out.size))
    have X1 := Lib.hid hx
    clear hx hb hw
    refine (C.char v x 0 w1 RV.out HX.out HE.out).mono ?_
    rintro e w2 ⟨rfl, hb⟩
    replace X1 := Lib.hid (X1.out.next hb)
    replace HBL := Lib.hid (HBL.out.trans (hb.mono HBL.out.size))
    clear hb
    go_wp2_with fail
    refine (C.value x v 0 w2 RX.out HV.out HVE.out).mono ?_
    rintro e w3 ⟨rfl, hb⟩
    replace X1 := Lib.hid (X1.out.next hb)
    replace HBL := Lib.hid (HBL.out.trans (hb.mono HBL.out.size))
    clear hb
    have c1_0 : w3.cell? ⟨_, 0, none⟩ = some (.bool b.b0) := X1.out.cells.1
    have c1_1 : w3.cell? ⟨_, 1, none⟩ = some (.bool b.b1) := X1.out.cells.2.1
    have c1_2 : w3.cell? ⟨_, 2, none⟩ = some (.bool b.b2) := X1.out.cells.2.2.1
    have c1_3 : w3.cell? ⟨_, 3, none⟩ = some (.bool b.b3) := X1.out.cells.2.2.2.1
    have c1_4 : w3.cell? ⟨_, 4, none⟩ = some (.bool b.b4) := X1.out.cells.2.2.2.2
    go_wp2_with fail
    refine (C.of b o w3 HO.out).mono ?_
    rintro e w4 ⟨rfl, hb⟩
    replace X1 := Lib.hid (X1.out.next hb)
    replace HBL := Lib.hid (HBL.out.trans (hb.mono HBL.out.size))
    clear hb
    go_wp2_with fail
    refine (C.bits o b 0 w4 RO.out HB1.out HB2.out).mono ?_
    rintro e w5 ⟨rfl, hb⟩
    replace X1 := Lib.hid (X1.out.next hb)
    replace HBL := Lib.hid (HBL.out.trans (hb.mono HBL.out.size))
    clear hb
    go_wp2_with fail
    obtain ⟨w6, hw⟩ : ∃ w6, w6 = w5.alloc (.cells #[.bool b.b0, .bool b.b1, .bool b.b2, .bool b.b3, .bool b.b4] 28) := ⟨_, rfl⟩
    rw [← hw]
    have hx : BBox w6 w5.heap.size (b) := by rw [hw]; exact BBox.new w5 (b)
    have hb : Below w5.heap.size w5 w6 := by rw [hw]; exact below_lit w5 _ _
    replace X1 := Lib.hid (X1.out.next hb)
    replace HBL := Lib.hid (HBL.out.trans (hb.mono HBL.out.size))
    have X2 := Lib.hid hx
    clear hx hb hw
    refine (odd_any C w6).mono ?_
    rintro e w7 ⟨rfl, hb⟩
    replace X1 := Lib.hid (X1.out.next hb)
    replace X2 := Lib.hid (X2.out.next hb)
    replace HBL := Lib.hid (HBL.out.trans (hb.mono HBL.out.size))
    clear hb
    have c2_0 : w7.cell? ⟨_, 0, none⟩ = some (.bool b.b0) := X1.out.cells.1
    have c2_1 : w7.cell? ⟨_, 1, none⟩ = some (.bool b.b1) := X1.out.cells.2.1
    have c2_2 : w7.cell? ⟨_, 2, none⟩ = some (.bool b.b2) := X1.out.cells.2.2.1
    have c2_3 : w7.cell? ⟨_, 3, none⟩ = some (.bool b.b3) := X1.out.cells.2.2.2.1
    have c2_4 : w7.cell? ⟨_, 4, none⟩ = some (.bool b.b4) := X1.out.cells.2.2.2.2
    have c3_0 : w7.cell? ⟨_, 0, none⟩ = some (.bool b.b0) := X2.out.cells.1
    have c3_1 : w7.cell? ⟨_, 1, none⟩ = some (.bool b.b1) := X2.out.cells.2.1
    have c3_2 : w7.cell? ⟨_, 2, none⟩ = some (.bool b.b2) := X2.out.cells.2.2.1
    have c3_3 : w7.cell? ⟨_, 3, none⟩ = some (.bool b.b3) := X2.out.cells.2.2.2.1
    have c3_4 : w7.cell? ⟨_, 4, none⟩ = some (.bool b.b4) := X2.out.cells.2.2.2.2
    go_wp2
    go_ret
    exact ⟨rfl, HBL.out⟩
  | false =>
    have HX := Lib.hid (show charV v = 0 by rw [charV, h]; rfl)
    have HE := Lib.hid (show charE v = 1 by rw [charE, h]; rfl)
    cases q1 : decide (0 ≤ v)
    case false =>
      clear h
      go_enter Try.func5, Try.ntmps5
      go_wp2_with fail
      obtain ⟨w1, hw⟩ : ∃ w1, w1 = w.alloc (.cells #[.bool b.b0, .bool b.b1, .bool b.b2, .bool b.b3, .bool b.b4] 28) := ⟨_, rfl⟩
      rw [← hw]
      have hx : BBox w1 w.heap.size (b) := by rw [hw]; exact BBox.new w (b)
      have hb : Below w.heap.size w w1 := by rw [hw]; exact below_lit w _ _
      replace HBL := Lib.hid (HBL.out.trans (hb.mono HBL.out.size))
      have X1 := Lib.hid hx
      clear hx hb hw
      refine (C.char v 0 1 w1 RV.out HX.out HE.out).mono ?_
      rintro e w2 ⟨rfl, hb⟩
      replace X1 := Lib.hid (X1.out.next hb)
      replace HBL := Lib.hid (HBL.out.trans (hb.mono HBL.out.size))
      clear hb
      have c1_0 : w2.cell? ⟨_, 0, none⟩ = some (.bool b.b0) := X1.out.cells.1
      have c1_1 : w2.cell? ⟨_, 1, none⟩ = some (.bool b.b1) := X1.out.cells.2.1
      have c1_2 : w2.cell? ⟨_, 2, none⟩ = some (.bool b.b2) := X1.out.cells.2.2.1
      have c1_3 : w2.cell? ⟨_, 3, none⟩ = some (.bool b.b3) := X1.out.cells.2.2.2.1
      have c1_4 : w2.cell? ⟨_, 4, none⟩ = some (.bool b.b4) := X1.out.cells.2.2.2.2
      go_wp2_with fail
      refine (C.of b o w2 HO.out).mono ?_
      rintro e w3 ⟨rfl, hb⟩
      replace X1 := Lib.hid (X1.out.next hb)
      replace HBL := Lib.hid (HBL.out.trans (hb.mono HBL.out.size))
      clear hb
      go_wp2_with fail
      refine (C.bits o b 0 w3 RO.out HB1.out HB2.out).mono ?_
      rintro e w4 ⟨rfl, hb⟩
      replace X1 := Lib.hid (X1.out.next hb)
      replace HBL := Lib.hid (HBL.out.trans (hb.mono HBL.out.size))
      clear hb
      go_wp2_with fail
      obtain ⟨w5, hw⟩ : ∃ w5, w5 = w4.alloc (.cells #[.bool b.b0, .bool b.b1, .bool b.b2, .bool b.b3, .bool b.b4] 28) := ⟨_, rfl⟩
      rw [← hw]
      have hx : BBox w5 w4.heap.size (b) := by rw [hw]; exact BBox.new w4 (b)
      have hb : Below w4.heap.size w4 w5 := by rw [hw]; exact below_lit w4 _ _
      replace X1 := Lib.hid (X1.out.next hb)
      replace HBL := Lib.hid (HBL.out.trans (hb.mono HBL.out.size))
      have X2 := Lib.hid hx
      clear hx hb hw
      refine (odd_any C w5).mono ?_
      rintro e w6 ⟨rfl, hb⟩
      replace X1 := Lib.hid (X1.out.next hb)
      replace X2 := Lib.hid (X2.out.next hb)
      replace HBL := Lib.hid (HBL.out.trans (hb.mono HBL.out.size))
      clear hb
      have c2_0 : w6.cell? ⟨_, 0, none⟩ = some (.bool b.b0) := X1.out.cells.1
      have c2_1 : w6.cell? ⟨_, 1, none⟩ = some (.bool b.b1) := X1.out.cells.2.1
      have c2_2 : w6.cell? ⟨_, 2, none⟩ = some (.bool b.b2) := X1.out.cells.2.2.1
      have c2_3 : w6.cell? ⟨_, 3, none⟩ = some (.bool b.b3) := X1.out.cells.2.2.2.1
      have c2_4 : w6.cell? ⟨_, 4, none⟩ = some (.bool b.b4) := X1.out.cells.2.2.2.2
      have c3_0 : w6.cell? ⟨_, 0, none⟩ = some (.bool b.b0) := X2.out.cells.1
      have c3_1 : w6.cell? ⟨_, 1, none⟩ = some (.bool b.b1) := X2.out.cells.2.1
      have c3_2 : w6.cell? ⟨_, 2, none⟩ = some (.bool b.b2) := X2.out.cells.2.2.1
      have c3_3 : w6.cell? ⟨_, 3, none⟩ = some (.bool b.b3) := X2.out.cells.2.2.2.1
      have c3_4 : w6.cell? ⟨_, 4, none⟩ = some (.bool b.b4) := X2.out.cells.2.2.2.2
      go_wp2
      go_ret
      exact ⟨rfl, HBL.out⟩
    case true =>
      have q2 : decide (v ≤ 15) = false := by
        cases q2 : decide (v ≤ 15) with
        | false => rfl
        | true => rw [isV, q1, q2] at h; cases h
      clear h
      go_enter Try.func5, Try.ntmps5
      go_wp2_with fail
      obtain ⟨w1, hw⟩ : ∃ w1, w1 = w.alloc (.cells #[.bool b.b0, .bool b.b1, .bool b.b2, .bool b.b3, .bool b.b4] 28) := ⟨_, rfl⟩
      rw [← hw]
      have hx : BBox w1 w.heap.size (b) := by rw [hw]; exact BBox.new w (b)
      have hb : Below w.heap.size w w1 := by rw [hw]; exact below_lit w _ _
      replace HBL := Lib.hid (HBL.out.trans (hb.mono HBL.out.size))
      have X1 := Lib.hid hx
      clear hx hb hw
      refine (C.char v 0 1 w1 RV.out HX.out HE.out).mono ?_
      rintro e w2 ⟨rfl, hb⟩
      replace X1 := Lib.hid (X1.out.next hb)
      replace HBL := Lib.hid (HBL.out.trans (hb.mono HBL.out.size))
      clear hb
      have c1_0 : w2.cell? ⟨_, 0, none⟩ = some (.bool b.b0) := X1.out.cells.1
      have c1_1 : w2.cell? ⟨_, 1, none⟩ = some (.bool b.b1) := X1.out.cells.2.1
      have c1_2 : w2.cell? ⟨_, 2, none⟩ = some (.bool b.b2) := X1.out.cells.2.2.1
      have c1_3 : w2.cell? ⟨_, 3, none⟩ = some (.bool b.b3) := X1.out.cells.2.2.2.1
      have c1_4 : w2.cell? ⟨_, 4, none⟩ = some (.bool b.b4) := X1.out.cells.2.2.2.2
      go_wp2_with fail
      refine (C.of b o w2 HO.out).mono ?_
      rintro e w3 ⟨rfl, hb⟩
      replace X1 := Lib.hid (X1.out.next hb)
      replace HBL := Lib.hid (HBL.out.trans (hb.mono HBL.out.size))
      clear hb
      go_wp2_with fail
      refine (C.bits o b 0 w3 RO.out HB1.out HB2.out).mono ?_
      rintro e w4 ⟨rfl, hb⟩
      replace X1 := Lib.hid (X1.out.next hb)
      replace HBL := Lib.hid (HBL.out.trans (hb.mono HBL.out.size))
      clear hb
      go_wp2_with fail
      obtain ⟨w5, hw⟩ : ∃ w5, w5 = w4.alloc (.cells #[.bool b.b0, .bool b.b1, .bool b.b2, .bool b.b3, .bool b.b4] 28) := ⟨_, rfl⟩
      rw [← hw]
      have hx : BBox w5 w4.heap.size (b) := by rw [hw]; exact BBox.new w4 (b)
      have hb : Below w4.heap.size w4 w5 := by rw [hw]; exact below_lit w4 _ _
      replace X1 := Lib.hid (X1.out.next hb)
      replace HBL := Lib.hid (HBL.out.trans (hb.mono HBL.out.size))
      have X2 := Lib.hid hx
      clear hx hb hw
      refine (odd_any C w5).mono ?_
      rintro e w6 ⟨rfl, hb⟩
      replace X1 := Lib.hid (X1.out.next hb)
      replace X2 := Lib.hid (X2.out.next hb)
      replace HBL := Lib.hid (HBL.out.trans (hb.mono HBL.out.size))
      clear hb
      have c2_0 : w6.cell? ⟨_, 0, none⟩ = some (.bool b.b0) := X1.out.cells.1
      have c2_1 : w6.cell? ⟨_, 1, none⟩ = some (.bool b.b1) := X1.out.cells.2.1
      have c2_2 : w6.cell? ⟨_, 2, none⟩ = some (.bool b.b2) := X1.out.cells.2.2.1
      have c2_3 : w6.cell? ⟨_, 3, none⟩ = some (.bool b.b3) := X1.out.cells.2.2.2.1
      have c2_4 : w6.cell? ⟨_, 4, none⟩ = some (.bool b.b4) := X1.out.cells.2.2.2.2
      have c3_0 : w6.cell? ⟨_, 0, none⟩ = some (.bool b.b0) := X2.out.cells.1
      have c3_1 : w6.cell? ⟨_, 1, none⟩ = some (.bool b.b1) := X2.out.cells.2.1
      have c3_2 : w6.cell? ⟨_, 2, none⟩ = some (.bool b.b2) := X2.out.cells.2.2.1
      have c3_3 : w6.cell? ⟨_, 3, none⟩ = some (.bool b.b3) := X2.out.cells.2.2.2.1
      have c3_4 : w6.cell? ⟨_, 4, none⟩ = some (.bool b.b4) := X2.out.cells.2.2.2.2
      go_wp2
      go_ret
      exact ⟨rfl, HBL.out⟩
end Go.Proofs.Ytmkhkiddiimmjaa
