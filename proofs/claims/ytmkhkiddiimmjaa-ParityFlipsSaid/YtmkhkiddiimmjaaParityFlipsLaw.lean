/-
  Law ParityFlips walked, out of the contracts: it answers true. Conditions: the numbers fit an int.
-/
import Derived.Test.YtmkhkiddiimmjaaParityBackLaw
namespace Go.Proofs.Ytmkhkiddiimmjaa
set_option linter.unusedVariables false
open Go.ChangeShapes Go.WideShapes Go.ChangeAt Go.RowKit

set_option maxRecDepth 100000 in
set_option maxHeartbeats 1600000 in
theorem flips_any (C : PC) (v bit : Int) (jv : In64 v) (jb : In64 bit) (w : World) : Calls Try.prog 6 #[.int .i64 v, .int .i64 bit] w fun e w' => e = .returned (.bool true) ∧ Below w.heap.size w w' := by
  have RV := Lib.hid jv
  clear jv jb
  have HBL := Lib.hid (Below.refl w.heap.size w)
  cases h : isV v with
  | false =>
    have HX := Lib.hid (show charV v = 0 by rw [charV, h]; rfl)
    have HE := Lib.hid (show charE v = 1 by rw [charE, h]; rfl)
    clear h
    go_enter Try.func6, Try.ntmps6
    go_wp2_with fail
    refine (C.char v 0 1 w RV.out HX.out HE.out).mono ?_
    rintro e w1 ⟨rfl, hb⟩
    replace HBL := Lib.hid (HBL.out.trans (hb.mono HBL.out.size))
    clear hb
    go_wp2_with fail
    refine (C.bits 0 noB 0 w1 (by unfold In64; decide) (by kernel_rfl) (by kernel_rfl)).mono ?_
    rintro e w2 ⟨rfl, hb⟩
    replace HBL := Lib.hid (HBL.out.trans (hb.mono HBL.out.size))
    clear hb
    go_wp2_with fail
    obtain ⟨w3, hw⟩ : ∃ w3, w3 = w2.alloc (.cells #[.bool noB.b0, .bool noB.b1, .bool noB.b2, .bool noB.b3, .bool noB.b4] 28) := ⟨_, rfl⟩
    rw [← hw]
    have hx : BBox w3 w2.heap.size (noB) := by rw [hw]; exact BBox.new w2 (noB)
    have hb : Below w2.heap.size w2 w3 := by rw [hw]; exact below_lit w2 _ _
    replace HBL := Lib.hid (HBL.out.trans (hb.mono HBL.out.size))
    have X1 := Lib.hid hx
    clear hx hb hw
    refine (odd_any C w3).mono ?_
    rintro e w4 ⟨rfl, hb⟩
    replace X1 := Lib.hid (X1.out.next hb)
    replace HBL := Lib.hid (HBL.out.trans (hb.mono HBL.out.size))
    clear hb
    go_wp2
    go_ret
    exact ⟨rfl, HBL.out⟩
  | true =>
    have hb := char_back h
    have HE := Lib.hid (show charE v = 0 by rw [charE, if_pos h])
    obtain ⟨x, hx⟩ : ∃ x, charV v = x := ⟨_, rfl⟩
    have HX := Lib.hid hx
    have RX := Lib.hid (show In64 x by rw [← hx]; exact charV_in h)
    obtain ⟨b, hbb⟩ : ∃ b, bitsB x = b := ⟨_, rfl⟩
    have HB1 := Lib.hid hbb
    have HB2 := Lib.hid (show bitsE x = 0 by rw [bitsE, ← hx, if_pos hb.1])
    have HFL := Lib.hid (show ∀ i, i < 5 → valE (ofB (flipB b i)) = 3 by intro i hi; rw [← hbb, ← hx]; exact char_flip h hi)
    clear hb hx hbb h
    cases q1 : decide (bit < 0)
    case true =>
      go_enter Try.func6, Try.ntmps6
      go_wp2_with fail
      refine (C.char v x 0 w RV.out HX.out HE.out).mono ?_
      rintro e w1 ⟨rfl, hb⟩
      replace HBL := Lib.hid (HBL.out.trans (hb.mono HBL.out.size))
      clear hb
      go_wp2_with fail
      refine (C.bits x b 0 w1 RX.out HB1.out HB2.out).mono ?_
      rintro e w2 ⟨rfl, hb⟩
      replace HBL := Lib.hid (HBL.out.trans (hb.mono HBL.out.size))
      clear hb
      go_wp2_with fail
      obtain ⟨w3, hw⟩ : ∃ w3, w3 = w2.alloc (.cells #[.bool b.b0, .bool b.b1, .bool b.b2, .bool b.b3, .bool b.b4] 28) := ⟨_, rfl⟩
      rw [← hw]
      have hx : BBox w3 w2.heap.size (b) := by rw [hw]; exact BBox.new w2 (b)
      have hb : Below w2.heap.size w2 w3 := by rw [hw]; exact below_lit w2 _ _
      replace HBL := Lib.hid (HBL.out.trans (hb.mono HBL.out.size))
      have X1 := Lib.hid hx
      clear hx hb hw
      refine (odd_any C w3).mono ?_
      rintro e w4 ⟨rfl, hb⟩
      replace X1 := Lib.hid (X1.out.next hb)
      replace HBL := Lib.hid (HBL.out.trans (hb.mono HBL.out.size))
      clear hb
      go_wp2
      go_ret
      exact ⟨rfl, HBL.out⟩
    case false =>
      cases q2 : decide (4 < bit)
      case true =>
        go_enter Try.func6, Try.ntmps6
        go_wp2_with fail
        refine (C.char v x 0 w RV.out HX.out HE.out).mono ?_
        rintro e w1 ⟨rfl, hb⟩
        replace HBL := Lib.hid (HBL.out.trans (hb.mono HBL.out.size))
        clear hb
        go_wp2_with fail
        refine (C.bits x b 0 w1 RX.out HB1.out HB2.out).mono ?_
        rintro e w2 ⟨rfl, hb⟩
        replace HBL := Lib.hid (HBL.out.trans (hb.mono HBL.out.size))
        clear hb
        go_wp2_with fail
        obtain ⟨w3, hw⟩ : ∃ w3, w3 = w2.alloc (.cells #[.bool b.b0, .bool b.b1, .bool b.b2, .bool b.b3, .bool b.b4] 28) := ⟨_, rfl⟩
        rw [← hw]
        have hx : BBox w3 w2.heap.size (b) := by rw [hw]; exact BBox.new w2 (b)
        have hb : Below w2.heap.size w2 w3 := by rw [hw]; exact below_lit w2 _ _
        replace HBL := Lib.hid (HBL.out.trans (hb.mono HBL.out.size))
        have X1 := Lib.hid hx
        clear hx hb hw
        refine (odd_any C w3).mono ?_
        rintro e w4 ⟨rfl, hb⟩
        replace X1 := Lib.hid (X1.out.next hb)
        replace HBL := Lib.hid (HBL.out.trans (hb.mono HBL.out.size))
        clear hb
        go_wp2
        go_ret
        exact ⟨rfl, HBL.out⟩
      case false =>
        have hbit : bit = 0 ∨ bit = 1 ∨ bit = 2 ∨ bit = 3 ∨ bit = 4 := by rw [decide_eq_false_iff_not] at q1 q2; omega
        clear q1 q2
        rcases hbit with rfl | rfl | rfl | rfl | rfl
        · obtain ⟨o, ho⟩ : ∃ o, ofB (flipB b 0) = o := ⟨_, rfl⟩
          have HO := Lib.hid ho
          have RO := Lib.hid (show In64 o by rw [← ho]; exact ofB_in _)
          have HVE := Lib.hid (show valE o = 3 by rw [← ho]; exact HFL.out 0 (by omega))
          obtain ⟨y, hy⟩ : ∃ y, valV o = y := ⟨_, rfl⟩
          have HY := Lib.hid hy
          clear ho hy
          go_enter Try.func6, Try.ntmps6
          go_wp2_with fail
          refine (C.char v x 0 w RV.out HX.out HE.out).mono ?_
          rintro e w1 ⟨rfl, hb⟩
          replace HBL := Lib.hid (HBL.out.trans (hb.mono HBL.out.size))
          clear hb
          go_wp2_with fail
          refine (C.bits x b 0 w1 RX.out HB1.out HB2.out).mono ?_
          rintro e w2 ⟨rfl, hb⟩
          replace HBL := Lib.hid (HBL.out.trans (hb.mono HBL.out.size))
          clear hb
          go_wp2_with fail
          obtain ⟨w3, hw⟩ : ∃ w3, w3 = w2.alloc (.cells #[.bool (!b.b0), .bool (b.b1), .bool (b.b2), .bool (b.b3), .bool (b.b4)] 28) := ⟨_, rfl⟩
          rw [← hw]
          have hx : BBox w3 w2.heap.size (flipB b 0) := by rw [hw]; exact BBox.new w2 (flipB b 0)
          have hb : Below w2.heap.size w2 w3 := by rw [hw]; exact below_lit w2 _ _
          replace HBL := Lib.hid (HBL.out.trans (hb.mono HBL.out.size))
          have X1 := Lib.hid hx
          clear hx hb hw
          refine (C.of (flipB b 0) o w3 HO.out).mono ?_
          rintro e w4 ⟨rfl, hb⟩
          replace X1 := Lib.hid (X1.out.next hb)
          replace HBL := Lib.hid (HBL.out.trans (hb.mono HBL.out.size))
          clear hb
          go_wp2_with fail
          refine (C.value o y 3 w4 RO.out HY.out HVE.out).mono ?_
          rintro e w5 ⟨rfl, hb⟩
          replace X1 := Lib.hid (X1.out.next hb)
          replace HBL := Lib.hid (HBL.out.trans (hb.mono HBL.out.size))
          clear hb
          go_wp2_with fail
          refine (odd_any C w5).mono ?_
          rintro e w6 ⟨rfl, hb⟩
          replace X1 := Lib.hid (X1.out.next hb)
          replace HBL := Lib.hid (HBL.out.trans (hb.mono HBL.out.size))
          clear hb
          go_wp2
          go_ret
          exact ⟨rfl, HBL.out⟩
        · obtain ⟨o, ho⟩ : ∃ o, ofB (flipB b 1) = o := ⟨_, rfl⟩
          have HO := Lib.hid ho
          have RO := Lib.hid (show In64 o by rw [← ho]; exact ofB_in _)
          have HVE := Lib.hid (show valE o = 3 by rw [← ho]; exact HFL.out 1 (by omega))
          obtain ⟨y, hy⟩ : ∃ y, valV o = y := ⟨_, rfl⟩
          have HY := Lib.hid hy
          clear ho hy
          go_enter Try.func6, Try.ntmps6
          go_wp2_with fail
          refine (C.char v x 0 w RV.out HX.out HE.out).mono ?_
          rintro e w1 ⟨rfl, hb⟩
          replace HBL := Lib.hid (HBL.out.trans (hb.mono HBL.out.size))
          clear hb
          go_wp2_with fail
          refine (C.bits x b 0 w1 RX.out HB1.out HB2.out).mono ?_
          rintro e w2 ⟨rfl, hb⟩
          replace HBL := Lib.hid (HBL.out.trans (hb.mono HBL.out.size))
          clear hb
          go_wp2_with fail
          obtain ⟨w3, hw⟩ : ∃ w3, w3 = w2.alloc (.cells #[.bool (b.b0), .bool (!b.b1), .bool (b.b2), .bool (b.b3), .bool (b.b4)] 28) := ⟨_, rfl⟩
          rw [← hw]
          have hx : BBox w3 w2.heap.size (flipB b 1) := by rw [hw]; exact BBox.new w2 (flipB b 1)
          have hb : Below w2.heap.size w2 w3 := by rw [hw]; exact below_lit w2 _ _
          replace HBL := Lib.hid (HBL.out.trans (hb.mono HBL.out.size))
          have X1 := Lib.hid hx
          clear hx hb hw
          refine (C.of (flipB b 1) o w3 HO.out).mono ?_
          rintro e w4 ⟨rfl, hb⟩
          replace X1 := Lib.hid (X1.out.next hb)
          replace HBL := Lib.hid (HBL.out.trans (hb.mono HBL.out.size))
          clear hb
          go_wp2_with fail
          refine (C.value o y 3 w4 RO.out HY.out HVE.out).mono ?_
          rintro e w5 ⟨rfl, hb⟩
          replace X1 := Lib.hid (X1.out.next hb)
          replace HBL := Lib.hid (HBL.out.trans (hb.mono HBL.out.size))
          clear hb
          go_wp2_with fail
          refine (odd_any C w5).mono ?_
          rintro e w6 ⟨rfl, hb⟩
          replace X1 := Lib.hid (X1.out.next hb)
          replace HBL := Lib.hid (HBL.out.trans (hb.mono HBL.out.size))
          clear hb
          go_wp2
          go_ret
          exact ⟨rfl, HBL.out⟩
        · obtain ⟨o, ho⟩ : ∃ o, ofB (flipB b 2) = o := ⟨_, rfl⟩
          have HO := Lib.hid ho
          have RO := Lib.hid (show In64 o by rw [← ho]; exact ofB_in _)
          have HVE := Lib.hid (show valE o = 3 by rw [← ho]; exact HFL.out 2 (by omega))
          obtain ⟨y, hy⟩ : ∃ y, valV o = y := ⟨_, rfl⟩
          have HY := Lib.hid hy
          clear ho hy
          go_enter Try.func6, Try.ntmps6
          go_wp2_with fail
          refine (C.char v x 0 w RV.out HX.out HE.out).mono ?_
          rintro e w1 ⟨rfl, hb⟩
          replace HBL := Lib.hid (HBL.out.trans (hb.mono HBL.out.size))
          clear hb
          go_wp2_with fail
          refine (C.bits x b 0 w1 RX.out HB1.out HB2.out).mono ?_
          rintro e w2 ⟨rfl, hb⟩
          replace HBL := Lib.hid (HBL.out.trans (hb.mono HBL.out.size))
          clear hb
          go_wp2_with fail
          obtain ⟨w3, hw⟩ : ∃ w3, w3 = w2.alloc (.cells #[.bool (b.b0), .bool (b.b1), .bool (!b.b2), .bool (b.b3), .bool (b.b4)] 28) := ⟨_, rfl⟩
          rw [← hw]
          have hx : BBox w3 w2.heap.size (flipB b 2) := by rw [hw]; exact BBox.new w2 (flipB b 2)
          have hb : Below w2.heap.size w2 w3 := by rw [hw]; exact below_lit w2 _ _
          replace HBL := Lib.hid (HBL.out.trans (hb.mono HBL.out.size))
          have X1 := Lib.hid hx
          clear hx hb hw
          refine (C.of (flipB b 2) o w3 HO.out).mono ?_
          rintro e w4 ⟨rfl, hb⟩
          replace X1 := Lib.hid (X1.out.next hb)
          replace HBL := Lib.hid (HBL.out.trans (hb.mono HBL.out.size))
          clear hb
          go_wp2_with fail
          refine (C.value o y 3 w4 RO.out HY.out HVE.out).mono ?_
          rintro e w5 ⟨rfl, hb⟩
          replace X1 := Lib.hid (X1.out.next hb)
          replace HBL := Lib.hid (HBL.out.trans (hb.mono HBL.out.size))
          clear hb
          go_wp2_with fail
          refine (odd_any C w5).mono ?_
          rintro e w6 ⟨rfl, hb⟩
          replace X1 := Lib.hid (X1.out.next hb)
          replace HBL := Lib.hid (HBL.out.trans (hb.mono HBL.out.size))
          clear hb
          go_wp2
          go_ret
          exact ⟨rfl, HBL.out⟩
        · obtain ⟨o, ho⟩ : ∃ o, ofB (flipB b 3) = o := ⟨_, rfl⟩
          have HO := Lib.hid ho
          have RO := Lib.hid (show In64 o by rw [← ho]; exact ofB_in _)
          have HVE := Lib.hid (show valE o = 3 by rw [← ho]; exact HFL.out 3 (by omega))
          obtain ⟨y, hy⟩ : ∃ y, valV o = y := ⟨_, rfl⟩
          have HY := Lib.hid hy
          clear ho hy
          go_enter Try.func6, Try.ntmps6
          go_wp2_with fail
          refine (C.char v x 0 w RV.out HX.out HE.out).mono ?_
          rintro e w1 ⟨rfl, hb⟩
          replace HBL := Lib.hid (HBL.out.trans (hb.mono HBL.out.size))
          clear hb
          go_wp2_with fail
          refine (C.bits x b 0 w1 RX.out HB1.out HB2.out).mono ?_
          rintro e w2 ⟨rfl, hb⟩
          replace HBL := Lib.hid (HBL.out.trans (hb.mono HBL.out.size))
          clear hb
          go_wp2_with fail
          obtain ⟨w3, hw⟩ : ∃ w3, w3 = w2.alloc (.cells #[.bool (b.b0), .bool (b.b1), .bool (b.b2), .bool (!b.b3), .bool (b.b4)] 28) := ⟨_, rfl⟩
          rw [← hw]
          have hx : BBox w3 w2.heap.size (flipB b 3) := by rw [hw]; exact BBox.new w2 (flipB b 3)
          have hb : Below w2.heap.size w2 w3 := by rw [hw]; exact below_lit w2 _ _
          replace HBL := Lib.hid (HBL.out.trans (hb.mono HBL.out.size))
          have X1 := Lib.hid hx
          clear hx hb hw
          refine (C.of (flipB b 3) o w3 HO.out).mono ?_
          rintro e w4 ⟨rfl, hb⟩
          replace X1 := Lib.hid (X1.out.next hb)
          replace HBL := Lib.hid (HBL.out.trans (hb.mono HBL.out.size))
          clear hb
          go_wp2_with fail
          refine (C.value o y 3 w4 RO.out HY.out HVE.out).mono ?_
          rintro e w5 ⟨rfl, hb⟩
          replace X1 := Lib.hid (X1.out.next hb)
          replace HBL := Lib.hid (HBL.out.trans (hb.mono HBL.out.size))
          clear hb
          go_wp2_with fail
          refine (odd_any C w5).mono ?_
          rintro e w6 ⟨rfl, hb⟩
          replace X1 := Lib.hid (X1.out.next hb)
          replace HBL := Lib.hid (HBL.out.trans (hb.mono HBL.out.size))
          clear hb
          go_wp2
          go_ret
          exact ⟨rfl, HBL.out⟩
        · obtain ⟨o, ho⟩ : ∃ o, ofB (flipB b 4) = o := ⟨_, rfl⟩
          have HO := Lib.hid ho
          have RO := Lib.hid (show In64 o by rw [← ho]; exact ofB_in _)
          have HVE := Lib.hid (show valE o = 3 by rw [← ho]; exact HFL.out 4 (by omega))
          obtain ⟨y, hy⟩ : ∃ y, valV o = y := ⟨_, rfl⟩
          have HY := Lib.hid hy
          clear ho hy
          go_enter Try.func6, Try.ntmps6
          go_wp2_with fail
          refine (C.char v x 0 w RV.out HX.out HE.out).mono ?_
          rintro e w1 ⟨rfl, hb⟩
          replace HBL := Lib.hid (HBL.out.trans (hb.mono HBL.out.size))
          clear hb
          go_wp2_with fail
          refine (C.bits x b 0 w1 RX.out HB1.out HB2.out).mono ?_
          rintro e w2 ⟨rfl, hb⟩
          replace HBL := Lib.hid (HBL.out.trans (hb.mono HBL.out.size))
          clear hb
          go_wp2_with fail
          obtain ⟨w3, hw⟩ : ∃ w3, w3 = w2.alloc (.cells #[.bool (b.b0), .bool (b.b1), .bool (b.b2), .bool (b.b3), .bool (!b.b4)] 28) := ⟨_, rfl⟩
          rw [← hw]
          have hx : BBox w3 w2.heap.size (flipB b 4) := by rw [hw]; exact BBox.new w2 (flipB b 4)
          have hb : Below w2.heap.size w2 w3 := by rw [hw]; exact below_lit w2 _ _
          replace HBL := Lib.hid (HBL.out.trans (hb.mono HBL.out.size))
          have X1 := Lib.hid hx
          clear hx hb hw
          refine (C.of (flipB b 4) o w3 HO.out).mono ?_
          rintro e w4 ⟨rfl, hb⟩
          replace X1 := Lib.hid (X1.out.next hb)
          replace HBL := Lib.hid (HBL.out.trans (hb.mono HBL.out.size))
          clear hb
          go_wp2_with fail
          refine (C.value o y 3 w4 RO.out HY.out HVE.out).mono ?_
          rintro e w5 ⟨rfl, hb⟩
          replace X1 := Lib.hid (X1.out.next hb)
          replace HBL := Lib.hid (HBL.out.trans (hb.mono HBL.out.size))
          clear hb
          go_wp2_with fail
          refine (odd_any C w5).mono ?_
          rintro e w6 ⟨rfl, hb⟩
          replace X1 := Lib.hid (X1.out.next hb)
          replace HBL := Lib.hid (HBL.out.trans (hb.mono HBL.out.size))
          clear hb
          go_wp2
          go_ret
          exact ⟨rfl, HBL.out⟩
end Go.Proofs.Ytmkhkiddiimmjaa
