/-
  Law FitsStripe walked: it answers true. Conditions: the numbers fit an int; the key's secret reads as bytes; sha's tables hold what its text lays.
  How readings and journeys that came in by value are opened; how slices of bytes are. Conditions: none.
  What the laws of layer 2 share: the listed tables give what the walks ask; a world for the witness. Conditions: none of its own.
  How a ticket that came in by value is opened. Conditions: none.
-/
import Derived.Test.YtaokhkbfiplfmaaGreatDoorFitsP
import Derived.Test.YtaokhkbfiplfmaaGreatDoorShaPWords
import Derived.Test.YtaokhkbfiplfmaaGreatDoorTrackPGet
import Derived.Test.YtaokhkbfiplfmaaGreatDoorMacTag
import Derived.Test.YtaokhkbfiplfmaaGreatDoorApart
import Derived.Deep.Slices
import Derived.Deep.Fields
import Derived.Lib.SmallJoins
import Derived.Test.YtaokhkbfiplfmaaGreatDoorTie
import Derived.Test.YtaokhkbfiplfmaaGreatDoorCards
import Derived.Test.YtaokhkbfiplfmaaGreatDoorRingFits
import Derived.LaidMore
import Derived.Lib.LaidTab
import Derived.Stop.Joined
import Derived.Stop.LaidErr
section
namespace Go.Proofs.YtaokhkbfiplfmaaGreatDoor
set_option linter.unusedVariables false
open Go.ChangeShapes Go.WideShapes Go.ChangeAt Go.RowKit

theorem inr_of {t : Tk} (ht : InT t) {k a b : Int} (hk : In64 k) (ha : In64 a) (hb : In64 b) : InR ⟨t, k, a, b, 0⟩ := by
  obtain ⟨h0, h1, h2, h3, h4, h5, h6, h7, h8, h9, h10⟩ := ht
  have hz : In64 0 := by unfold In64; omega
  intro x hx
  simp only [rgL, List.mem_cons, List.not_mem_nil, or_false] at hx
  rcases hx with rfl | rfl | rfl | rfl | rfl | rfl | rfl | rfl | rfl | rfl | rfl | rfl | rfl | rfl | rfl <;> assumption
set_option maxRecDepth 100000 in
set_option maxHeartbeats 1600000 in
theorem stripe20_0 (t : Tk) (ht : InT t) (left inn : Int) (hl : In64 left) (hi : In64 inn) (q : KV) (w : World) (hT : Tabs w) (hq : Bs w w.heap.size q.k.sec q.S q.c)  (p0 : (q.k.sec.length : Int) < 1) : Calls Tryz.prog 3 #[.agg #[.int .i64 t.ser, .int .i64 t.kind, .int .i64 t.frm, .int .i64 t.till, .int .i64 t.cls, .int .i64 t.card, .int .i64 t.seat, .int .i64 t.day, .int .i64 t.days, .int .i64 t.uses, .int .i64 t.epoch], .agg #[.int .i64 left, .int .i64 inn], .agg #[.int .i64 q.k.id, .slice q.S q.k.sec.length q.c, .int .i64 q.k.frm, .int .i64 q.k.til]] w fun e w' => e = .returned (.bool true) ∧ Below w.heap.size w w' := by
  have HT := Lib.hid hT
  have HQ := Lib.hid hq
  clear hT hq
  have HBL := Lib.hid (Below.refl w.heap.size w)
  go_enter Tryz.func3, Tryz.ntmps3
  go_wp2_with fail
  obtain ⟨w1, hw⟩ : ∃ w1, w1 = w.alloc (.cells #[.int .i64 t.ser, .int .i64 t.kind, .int .i64 t.frm, .int .i64 t.till, .int .i64 t.cls, .int .i64 t.card, .int .i64 t.seat, .int .i64 t.day, .int .i64 t.days, .int .i64 t.uses, .int .i64 t.epoch] 23) := ⟨_, rfl⟩
  rw [← hw]
  have hx : TBox w1 w.heap.size t := by rw [hw]; exact TBox.new w t
  have hs : w.heap.size + 1 = w1.heap.size := by rw [hw]; simp
  have hb : Below w.heap.size w w1 := by rw [hw]; exact below_lit w _ _
  replace HT := Lib.hid (HT.out.next hb)
  replace HQ := Lib.hid (HQ.out.next hb)
  replace HBL := Lib.hid (HBL.out.trans (hb.mono HBL.out.size))
  have X1 := Lib.hid hx
  clear hx hb hw
  rw [hs]
  clear hs
  obtain ⟨B1, hB⟩ : ∃ B, B = w.heap.size := ⟨_, rfl⟩
  rw [← hB] at X1 ⊢
  clear hB
  obtain ⟨w2, hw⟩ : ∃ w2, w2 = w1.alloc (.cells #[.int .i64 left, .int .i64 inn] 25) := ⟨_, rfl⟩
  rw [← hw]
  have hx : JBox w2 w1.heap.size left inn := by rw [hw]; exact JBox.new w1 left inn
  have hs : w1.heap.size + 1 = w2.heap.size := by rw [hw]; simp
  have hb : Below w1.heap.size w1 w2 := by rw [hw]; exact below_lit w1 _ _
  replace HT := Lib.hid (HT.out.next hb)
  replace HQ := Lib.hid (HQ.out.next hb)
  replace X1 := Lib.hid (X1.out.next hb)
  replace HBL := Lib.hid (HBL.out.trans (hb.mono HBL.out.size))
  have J1 := Lib.hid hx
  clear hx hb hw
  rw [hs]
  clear hs
  obtain ⟨B2, hB⟩ : ∃ B, B = w1.heap.size := ⟨_, rfl⟩
  rw [← hB] at J1 ⊢
  clear hB
  obtain ⟨w3, hw⟩ : ∃ w3, w3 = w2.alloc (.cells #[.int .i64 q.k.id, .slice q.S q.k.sec.length q.c, .int .i64 q.k.frm, .int .i64 q.k.til] 28) := ⟨_, rfl⟩
  rw [← hw]
  have hx : Box w3 w2.heap.size q := by rw [hw]; exact (box_lit w2 q HQ.out).1
  have hb : Below w2.heap.size w2 w3 := by rw [hw]; exact below_lit w2 _ _
  replace HT := Lib.hid (HT.out.next hb)
  replace HQ := Lib.hid (HQ.out.next hb)
  replace X1 := Lib.hid (X1.out.next hb)
  replace J1 := Lib.hid (J1.out.next hb)
  replace HBL := Lib.hid (HBL.out.trans (hb.mono HBL.out.size))
  have HX := Lib.hid hx
  clear hx hb hw
  obtain ⟨B3, hB⟩ : ∃ B, B = w2.heap.size := ⟨_, rfl⟩
  rw [← hB] at HX ⊢
  clear hB
  refine (fitted_any w3).mono ?_
  rintro e w4 ⟨rfl, hb⟩
  replace HT := Lib.hid (HT.out.next hb)
  replace HQ := Lib.hid (HQ.out.next hb)
  replace X1 := Lib.hid (X1.out.next hb)
  replace J1 := Lib.hid (J1.out.next hb)
  replace HX := Lib.hid (HX.out.next hb)
  replace HBL := Lib.hid (HBL.out.trans (hb.mono HBL.out.size))
  clear hb
  go_wp2
  go_ret
  exact ⟨rfl, HBL.out⟩
set_option maxRecDepth 100000 in
set_option maxHeartbeats 1600000 in
theorem stripe20_1 (t : Tk) (ht : InT t) (left inn : Int) (hl : In64 left) (hi : In64 inn) (q : KV) (w : World) (hT : Tabs w) (hq : Bs w w.heap.size q.k.sec q.S q.c) (p0 : ¬ (q.k.sec.length : Int) < 1) (p1 : 64 < (q.k.sec.length : Int)) : Calls Tryz.prog 3 #[.agg #[.int .i64 t.ser, .int .i64 t.kind, .int .i64 t.frm, .int .i64 t.till, .int .i64 t.cls, .int .i64 t.card, .int .i64 t.seat, .int .i64 t.day, .int .i64 t.days, .int .i64 t.uses, .int .i64 t.epoch], .agg #[.int .i64 left, .int .i64 inn], .agg #[.int .i64 q.k.id, .slice q.S q.k.sec.length q.c, .int .i64 q.k.frm, .int .i64 q.k.til]] w fun e w' => e = .returned (.bool true) ∧ Below w.heap.size w w' := by
  have HT := Lib.hid hT
  have HQ := Lib.hid hq
  clear hT hq
  have HBL := Lib.hid (Below.refl w.heap.size w)
  go_enter Tryz.func3, Tryz.ntmps3
  go_wp2_with fail
  obtain ⟨w1, hw⟩ : ∃ w1, w1 = w.alloc (.cells #[.int .i64 t.ser, .int .i64 t.kind, .int .i64 t.frm, .int .i64 t.till, .int .i64 t.cls, .int .i64 t.card, .int .i64 t.seat, .int .i64 t.day, .int .i64 t.days, .int .i64 t.uses, .int .i64 t.epoch] 23) := ⟨_, rfl⟩
  rw [← hw]
  have hx : TBox w1 w.heap.size t := by rw [hw]; exact TBox.new w t
  have hs : w.heap.size + 1 = w1.heap.size := by rw [hw]; simp
  have hb : Below w.heap.size w w1 := by rw [hw]; exact below_lit w _ _
  replace HT := Lib.hid (HT.out.next hb)
  replace HQ := Lib.hid (HQ.out.next hb)
  replace HBL := Lib.hid (HBL.out.trans (hb.mono HBL.out.size))
  have X1 := Lib.hid hx
  clear hx hb hw
  rw [hs]
  clear hs
  obtain ⟨B1, hB⟩ : ∃ B, B = w.heap.size := ⟨_, rfl⟩
  rw [← hB] at X1 ⊢
  clear hB
  obtain ⟨w2, hw⟩ : ∃ w2, w2 = w1.alloc (.cells #[.int .i64 left, .int .i64 inn] 25) := ⟨_, rfl⟩
  rw [← hw]
  have hx : JBox w2 w1.heap.size left inn := by rw [hw]; exact JBox.new w1 left inn
  have hs : w1.heap.size + 1 = w2.heap.size := by rw [hw]; simp
  have hb : Below w1.heap.size w1 w2 := by rw [hw]; exact below_lit w1 _ _
  replace HT := Lib.hid (HT.out.next hb)
  replace HQ := Lib.hid (HQ.out.next hb)
  replace X1 := Lib.hid (X1.out.next hb)
  replace HBL := Lib.hid (HBL.out.trans (hb.mono HBL.out.size))
  have J1 := Lib.hid hx
  clear hx hb hw
  rw [hs]
  clear hs
  obtain ⟨B2, hB⟩ : ∃ B, B = w1.heap.size := ⟨_, rfl⟩
  rw [← hB] at J1 ⊢
  clear hB
  obtain ⟨w3, hw⟩ : ∃ w3, w3 = w2.alloc (.cells #[.int .i64 q.k.id, .slice q.S q.k.sec.length q.c, .int .i64 q.k.frm, .int .i64 q.k.til] 28) := ⟨_, rfl⟩
  rw [← hw]
  have hx : Box w3 w2.heap.size q := by rw [hw]; exact (box_lit w2 q HQ.out).1
  have hb : Below w2.heap.size w2 w3 := by rw [hw]; exact below_lit w2 _ _
  replace HT := Lib.hid (HT.out.next hb)
  replace HQ := Lib.hid (HQ.out.next hb)
  replace X1 := Lib.hid (X1.out.next hb)
  replace J1 := Lib.hid (J1.out.next hb)
  replace HBL := Lib.hid (HBL.out.trans (hb.mono HBL.out.size))
  have HX := Lib.hid hx
  clear hx hb hw
  obtain ⟨B3, hB⟩ : ∃ B, B = w2.heap.size := ⟨_, rfl⟩
  rw [← hB] at HX ⊢
  clear hB
  refine (fitted_any w3).mono ?_
  rintro e w4 ⟨rfl, hb⟩
  replace HT := Lib.hid (HT.out.next hb)
  replace HQ := Lib.hid (HQ.out.next hb)
  replace X1 := Lib.hid (X1.out.next hb)
  replace J1 := Lib.hid (J1.out.next hb)
  replace HX := Lib.hid (HX.out.next hb)
  replace HBL := Lib.hid (HBL.out.trans (hb.mono HBL.out.size))
  clear hb
  go_wp2
  go_ret
  exact ⟨rfl, HBL.out⟩
set_option maxRecDepth 100000 in
set_option maxHeartbeats 1600000 in
theorem stripe20_2 (t : Tk) (ht : InT t) (left inn : Int) (hl : In64 left) (hi : In64 inn) (q : KV) (w : World) (hT : Tabs w) (hq : Bs w w.heap.size q.k.sec q.S q.c) (p0 : ¬ (q.k.sec.length : Int) < 1) (p1 : ¬ 64 < (q.k.sec.length : Int)) (p2 : q.k.id < 0) : Calls Tryz.prog 3 #[.agg #[.int .i64 t.ser, .int .i64 t.kind, .int .i64 t.frm, .int .i64 t.till, .int .i64 t.cls, .int .i64 t.card, .int .i64 t.seat, .int .i64 t.day, .int .i64 t.days, .int .i64 t.uses, .int .i64 t.epoch], .agg #[.int .i64 left, .int .i64 inn], .agg #[.int .i64 q.k.id, .slice q.S q.k.sec.length q.c, .int .i64 q.k.frm, .int .i64 q.k.til]] w fun e w' => e = .returned (.bool true) ∧ Below w.heap.size w w' := by
  have HT := Lib.hid hT
  have HQ := Lib.hid hq
  clear hT hq
  have HBL := Lib.hid (Below.refl w.heap.size w)
  go_enter Tryz.func3, Tryz.ntmps3
  go_wp2_with fail
  obtain ⟨w1, hw⟩ : ∃ w1, w1 = w.alloc (.cells #[.int .i64 t.ser, .int .i64 t.kind, .int .i64 t.frm, .int .i64 t.till, .int .i64 t.cls, .int .i64 t.card, .int .i64 t.seat, .int .i64 t.day, .int .i64 t.days, .int .i64 t.uses, .int .i64 t.epoch] 23) := ⟨_, rfl⟩
  rw [← hw]
  have hx : TBox w1 w.heap.size t := by rw [hw]; exact TBox.new w t
  have hs : w.heap.size + 1 = w1.heap.size := by rw [hw]; simp
  have hb : Below w.heap.size w w1 := by rw [hw]; exact below_lit w _ _
  replace HT := Lib.hid (HT.out.next hb)
  replace HQ := Lib.hid (HQ.out.next hb)
  replace HBL := Lib.hid (HBL.out.trans (hb.mono HBL.out.size))
  have X1 := Lib.hid hx
  clear hx hb hw
  rw [hs]
  clear hs
  obtain ⟨B1, hB⟩ : ∃ B, B = w.heap.size := ⟨_, rfl⟩
  rw [← hB] at X1 ⊢
  clear hB
  obtain ⟨w2, hw⟩ : ∃ w2, w2 = w1.alloc (.cells #[.int .i64 left, .int .i64 inn] 25) := ⟨_, rfl⟩
  rw [← hw]
  have hx : JBox w2 w1.heap.size left inn := by rw [hw]; exact JBox.new w1 left inn
  have hs : w1.heap.size + 1 = w2.heap.size := by rw [hw]; simp
  have hb : Below w1.heap.size w1 w2 := by rw [hw]; exact below_lit w1 _ _
  replace HT := Lib.hid (HT.out.next hb)
  replace HQ := Lib.hid (HQ.out.next hb)
  replace X1 := Lib.hid (X1.out.next hb)
  replace HBL := Lib.hid (HBL.out.trans (hb.mono HBL.out.size))
  have J1 := Lib.hid hx
  clear hx hb hw
  rw [hs]
  clear hs
  obtain ⟨B2, hB⟩ : ∃ B, B = w1.heap.size := ⟨_, rfl⟩
  rw [← hB] at J1 ⊢
  clear hB
  obtain ⟨w3, hw⟩ : ∃ w3, w3 = w2.alloc (.cells #[.int .i64 q.k.id, .slice q.S q.k.sec.length q.c, .int .i64 q.k.frm, .int .i64 q.k.til] 28) := ⟨_, rfl⟩
  rw [← hw]
  have hx : Box w3 w2.heap.size q := by rw [hw]; exact (box_lit w2 q HQ.out).1
  have hb : Below w2.heap.size w2 w3 := by rw [hw]; exact below_lit w2 _ _
  replace HT := Lib.hid (HT.out.next hb)
  replace HQ := Lib.hid (HQ.out.next hb)
  replace X1 := Lib.hid (X1.out.next hb)
  replace J1 := Lib.hid (J1.out.next hb)
  replace HBL := Lib.hid (HBL.out.trans (hb.mono HBL.out.size))
  have HX := Lib.hid hx
  clear hx hb hw
  obtain ⟨B3, hB⟩ : ∃ B, B = w2.heap.size := ⟨_, rfl⟩
  rw [← hB] at HX ⊢
  clear hB
  refine (fitted_any w3).mono ?_
  rintro e w4 ⟨rfl, hb⟩
  replace HT := Lib.hid (HT.out.next hb)
  replace HQ := Lib.hid (HQ.out.next hb)
  replace X1 := Lib.hid (X1.out.next hb)
  replace J1 := Lib.hid (J1.out.next hb)
  replace HX := Lib.hid (HX.out.next hb)
  replace HBL := Lib.hid (HBL.out.trans (hb.mono HBL.out.size))
  clear hb
  go_wp2
  go_ret
  exact ⟨rfl, HBL.out⟩
set_option maxRecDepth 100000 in
set_option maxHeartbeats 1600000 in
theorem stripe20_3 (t : Tk) (ht : InT t) (left inn : Int) (hl : In64 left) (hi : In64 inn) (q : KV) (w : World) (hT : Tabs w) (hq : Bs w w.heap.size q.k.sec q.S q.c) (p0 : ¬ (q.k.sec.length : Int) < 1) (p1 : ¬ 64 < (q.k.sec.length : Int)) (p2 : ¬ q.k.id < 0) (p3 : 99 < q.k.id) : Calls Tryz.prog 3 #[.agg #[.int .i64 t.ser, .int .i64 t.kind, .int .i64 t.frm, .int .i64 t.till, .int .i64 t.cls, .int .i64 t.card, .int .i64 t.seat, .int .i64 t.day, .int .i64 t.days, .int .i64 t.uses, .int .i64 t.epoch], .agg #[.int .i64 left, .int .i64 inn], .agg #[.int .i64 q.k.id, .slice q.S q.k.sec.length q.c, .int .i64 q.k.frm, .int .i64 q.k.til]] w fun e w' => e = .returned (.bool true) ∧ Below w.heap.size w w' := by
  have HT := Lib.hid hT
  have HQ := Lib.hid hq
  clear hT hq
  have HBL := Lib.hid (Below.refl w.heap.size w)
  go_enter Tryz.func3, Tryz.ntmps3
  go_wp2_with fail
  obtain ⟨w1, hw⟩ : ∃ w1, w1 = w.alloc (.cells #[.int .i64 t.ser, .int .i64 t.kind, .int .i64 t.frm, .int .i64 t.till, .int .i64 t.cls, .int .i64 t.card, .int .i64 t.seat, .int .i64 t.day, .int .i64 t.days, .int .i64 t.uses, .int .i64 t.epoch] 23) := ⟨_, rfl⟩
  rw [← hw]
  have hx : TBox w1 w.heap.size t := by rw [hw]; exact TBox.new w t
  have hs : w.heap.size + 1 = w1.heap.size := by rw [hw]; simp
  have hb : Below w.heap.size w w1 := by rw [hw]; exact below_lit w _ _
  replace HT := Lib.hid (HT.out.next hb)
  replace HQ := Lib.hid (HQ.out.next hb)
  replace HBL := Lib.hid (HBL.out.trans (hb.mono HBL.out.size))
  have X1 := Lib.hid hx
  clear hx hb hw
  rw [hs]
  clear hs
  obtain ⟨B1, hB⟩ : ∃ B, B = w.heap.size := ⟨_, rfl⟩
  rw [← hB] at X1 ⊢
  clear hB
  obtain ⟨w2, hw⟩ : ∃ w2, w2 = w1.alloc (.cells #[.int .i64 left, .int .i64 inn] 25) := ⟨_, rfl⟩
  rw [← hw]
  have hx : JBox w2 w1.heap.size left inn := by rw [hw]; exact JBox.new w1 left inn
  have hs : w1.heap.size + 1 = w2.heap.size := by rw [hw]; simp
  have hb : Below w1.heap.size w1 w2 := by rw [hw]; exact below_lit w1 _ _
  replace HT := Lib.hid (HT.out.next hb)
  replace HQ := Lib.hid (HQ.out.next hb)
  replace X1 := Lib.hid (X1.out.next hb)
  replace HBL := Lib.hid (HBL.out.trans (hb.mono HBL.out.size))
  have J1 := Lib.hid hx
  clear hx hb hw
  rw [hs]
  clear hs
  obtain ⟨B2, hB⟩ : ∃ B, B = w1.heap.size := ⟨_, rfl⟩
  rw [← hB] at J1 ⊢
  clear hB
  obtain ⟨w3, hw⟩ : ∃ w3, w3 = w2.alloc (.cells #[.int .i64 q.k.id, .slice q.S q.k.sec.length q.c, .int .i64 q.k.frm, .int .i64 q.k.til] 28) := ⟨_, rfl⟩
  rw [← hw]
  have hx : Box w3 w2.heap.size q := by rw [hw]; exact (box_lit w2 q HQ.out).1
  have hb : Below w2.heap.size w2 w3 := by rw [hw]; exact below_lit w2 _ _
  replace HT := Lib.hid (HT.out.next hb)
  replace HQ := Lib.hid (HQ.out.next hb)
  replace X1 := Lib.hid (X1.out.next hb)
  replace J1 := Lib.hid (J1.out.next hb)
  replace HBL := Lib.hid (HBL.out.trans (hb.mono HBL.out.size))
  have HX := Lib.hid hx
  clear hx hb hw
  obtain ⟨B3, hB⟩ : ∃ B, B = w2.heap.size := ⟨_, rfl⟩
  rw [← hB] at HX ⊢
  clear hB
  refine (fitted_any w3).mono ?_
  rintro e w4 ⟨rfl, hb⟩
  replace HT := Lib.hid (HT.out.next hb)
  replace HQ := Lib.hid (HQ.out.next hb)
  replace X1 := Lib.hid (X1.out.next hb)
  replace J1 := Lib.hid (J1.out.next hb)
  replace HX := Lib.hid (HX.out.next hb)
  replace HBL := Lib.hid (HBL.out.trans (hb.mono HBL.out.size))
  clear hb
  go_wp2
  go_ret
  exact ⟨rfl, HBL.out⟩
set_option maxRecDepth 100000 in
set_option maxHeartbeats 1600000 in
theorem stripe20_4 (t : Tk) (ht : InT t) (left inn : Int) (hl : In64 left) (hi : In64 inn) (q : KV) (w : World) (hT : Tabs w) (hq : Bs w w.heap.size q.k.sec q.S q.c) (p0 : ¬ (q.k.sec.length : Int) < 1) (p1 : ¬ 64 < (q.k.sec.length : Int)) (p2 : ¬ q.k.id < 0) (p3 : ¬ 99 < q.k.id) (hsu : suitB t.uses left inn = false) : Calls Tryz.prog 3 #[.agg #[.int .i64 t.ser, .int .i64 t.kind, .int .i64 t.frm, .int .i64 t.till, .int .i64 t.cls, .int .i64 t.card, .int .i64 t.seat, .int .i64 t.day, .int .i64 t.days, .int .i64 t.uses, .int .i64 t.epoch], .agg #[.int .i64 left, .int .i64 inn], .agg #[.int .i64 q.k.id, .slice q.S q.k.sec.length q.c, .int .i64 q.k.frm, .int .i64 q.k.til]] w fun e w' => e = .returned (.bool true) ∧ Below w.heap.size w w' := by
  have HSU := Lib.hid hsu
  clear hsu
  have HT := Lib.hid hT
  have HQ := Lib.hid hq
  clear hT hq
  have HBL := Lib.hid (Below.refl w.heap.size w)
  go_enter Tryz.func3, Tryz.ntmps3
  go_wp2_with fail
  obtain ⟨w1, hw⟩ : ∃ w1, w1 = w.alloc (.cells #[.int .i64 t.ser, .int .i64 t.kind, .int .i64 t.frm, .int .i64 t.till, .int .i64 t.cls, .int .i64 t.card, .int .i64 t.seat, .int .i64 t.day, .int .i64 t.days, .int .i64 t.uses, .int .i64 t.epoch] 23) := ⟨_, rfl⟩
  rw [← hw]
  have hx : TBox w1 w.heap.size t := by rw [hw]; exact TBox.new w t
  have hs : w.heap.size + 1 = w1.heap.size := by rw [hw]; simp
  have hb : Below w.heap.size w w1 := by rw [hw]; exact below_lit w _ _
  replace HT := Lib.hid (HT.out.next hb)
  replace HQ := Lib.hid (HQ.out.next hb)
  replace HBL := Lib.hid (HBL.out.trans (hb.mono HBL.out.size))
  have X1 := Lib.hid hx
  clear hx hb hw
  rw [hs]
  clear hs
  obtain ⟨B1, hB⟩ : ∃ B, B = w.heap.size := ⟨_, rfl⟩
  rw [← hB] at X1 ⊢
  clear hB
  obtain ⟨w2, hw⟩ : ∃ w2, w2 = w1.alloc (.cells #[.int .i64 left, .int .i64 inn] 25) := ⟨_, rfl⟩
  rw [← hw]
  have hx : JBox w2 w1.heap.size left inn := by rw [hw]; exact JBox.new w1 left inn
  have hs : w1.heap.size + 1 = w2.heap.size := by rw [hw]; simp
  have hb : Below w1.heap.size w1 w2 := by rw [hw]; exact below_lit w1 _ _
  replace HT := Lib.hid (HT.out.next hb)
  replace HQ := Lib.hid (HQ.out.next hb)
  replace X1 := Lib.hid (X1.out.next hb)
  replace HBL := Lib.hid (HBL.out.trans (hb.mono HBL.out.size))
  have J1 := Lib.hid hx
  clear hx hb hw
  rw [hs]
  clear hs
  obtain ⟨B2, hB⟩ : ∃ B, B = w1.heap.size := ⟨_, rfl⟩
  rw [← hB] at J1 ⊢
  clear hB
  obtain ⟨w3, hw⟩ : ∃ w3, w3 = w2.alloc (.cells #[.int .i64 q.k.id, .slice q.S q.k.sec.length q.c, .int .i64 q.k.frm, .int .i64 q.k.til] 28) := ⟨_, rfl⟩
  rw [← hw]
  have hx : Box w3 w2.heap.size q := by rw [hw]; exact (box_lit w2 q HQ.out).1
  have hb : Below w2.heap.size w2 w3 := by rw [hw]; exact below_lit w2 _ _
  replace HT := Lib.hid (HT.out.next hb)
  replace HQ := Lib.hid (HQ.out.next hb)
  replace X1 := Lib.hid (X1.out.next hb)
  replace J1 := Lib.hid (J1.out.next hb)
  replace HBL := Lib.hid (HBL.out.trans (hb.mono HBL.out.size))
  have HX := Lib.hid hx
  clear hx hb hw
  obtain ⟨B3, hB⟩ : ∃ B, B = w2.heap.size := ⟨_, rfl⟩
  rw [← hB] at HX ⊢
  clear hB
  refine (psuits_any t left inn false HSU.out w3).mono ?_
  rintro e w4 ⟨rfl, hb⟩
  replace HT := Lib.hid (HT.out.next hb)
  replace HQ := Lib.hid (HQ.out.next hb)
  replace X1 := Lib.hid (X1.out.next hb)
  replace J1 := Lib.hid (J1.out.next hb)
  replace HX := Lib.hid (HX.out.next hb)
  replace HBL := Lib.hid (HBL.out.trans (hb.mono HBL.out.size))
  clear hb
  go_wp2_with fail
  refine (fitted_any w4).mono ?_
  rintro e w5 ⟨rfl, hb⟩
  replace HT := Lib.hid (HT.out.next hb)
  replace HQ := Lib.hid (HQ.out.next hb)
  replace X1 := Lib.hid (X1.out.next hb)
  replace J1 := Lib.hid (J1.out.next hb)
  replace HX := Lib.hid (HX.out.next hb)
  replace HBL := Lib.hid (HBL.out.trans (hb.mono HBL.out.size))
  clear hb
  go_wp2
  go_ret
  exact ⟨rfl, HBL.out⟩
set_option maxRecDepth 100000 in
set_option maxHeartbeats 1600000 in
theorem stripe20_true (t : Tk) (ht : InT t) (left inn : Int) (hl : In64 left) (hi : In64 inn) (q : KV) (w : World) (hT : Tabs w) (hq : Bs w w.heap.size q.k.sec q.S q.c) (p0 : ¬ (q.k.sec.length : Int) < 1) (p1 : ¬ 64 < (q.k.sec.length : Int)) (p2 : ¬ q.k.id < 0) (p3 : ¬ 99 < q.k.id) (hsu : suitB t.uses left inn = true) (hd : roomS t = true) : Calls Tryz.prog 3 #[.agg #[.int .i64 t.ser, .int .i64 t.kind, .int .i64 t.frm, .int .i64 t.till, .int .i64 t.cls, .int .i64 t.card, .int .i64 t.seat, .int .i64 t.day, .int .i64 t.days, .int .i64 t.uses, .int .i64 t.epoch], .agg #[.int .i64 left, .int .i64 inn], .agg #[.int .i64 q.k.id, .slice q.S q.k.sec.length q.c, .int .i64 q.k.frm, .int .i64 q.k.til]] w fun e w' => e = .returned (.bool true) ∧ Below w.heap.size w w' := by
  have hr : (⟨q.k.id, q.k.sec, 0, 1⟩ : K).right = true := by
    simp [K.right, rightN]
    omega
  have h1 := encX_one hr t left inn hsu
  obtain ⟨p, hE⟩ : ∃ p, encX [⟨q.k.id, q.k.sec, 0, 1⟩] ⟨t, q.k.id, left, inn, 0⟩ = (0, p) := ⟨_, Prod.ext (h1.2 hd) rfl⟩
  have HIN := Lib.hid (inr_of ht (show In64 q.k.id by unfold In64; omega) hl hi)
  have HSU := Lib.hid hsu
  have HE := Lib.hid hE
  have HD := Lib.hid hd
  clear hE hd h1 hr hsu
  have HT := Lib.hid hT
  have HQ := Lib.hid hq
  clear hT hq
  have HBL := Lib.hid (Below.refl w.heap.size w)
  go_enter Tryz.func3, Tryz.ntmps3
  go_wp2_with fail
  obtain ⟨w1, hw⟩ : ∃ w1, w1 = w.alloc (.cells #[.int .i64 t.ser, .int .i64 t.kind, .int .i64 t.frm, .int .i64 t.till, .int .i64 t.cls, .int .i64 t.card, .int .i64 t.seat, .int .i64 t.day, .int .i64 t.days, .int .i64 t.uses, .int .i64 t.epoch] 23) := ⟨_, rfl⟩
  rw [← hw]
  have hx : TBox w1 w.heap.size t := by rw [hw]; exact TBox.new w t
  have hs : w.heap.size + 1 = w1.heap.size := by rw [hw]; simp
  have hb : Below w.heap.size w w1 := by rw [hw]; exact below_lit w _ _
  replace HT := Lib.hid (HT.out.next hb)
  replace HQ := Lib.hid (HQ.out.next hb)
  replace HBL := Lib.hid (HBL.out.trans (hb.mono HBL.out.size))
  have X1 := Lib.hid hx
  clear hx hb hw
  rw [hs]
  clear hs
  obtain ⟨B1, hB⟩ : ∃ B, B = w.heap.size := ⟨_, rfl⟩
  rw [← hB] at X1 ⊢
  clear hB
  obtain ⟨w2, hw⟩ : ∃ w2, w2 = w1.alloc (.cells #[.int .i64 left, .int .i64 inn] 25) := ⟨_, rfl⟩
  rw [← hw]
  have hx : JBox w2 w1.heap.size left inn := by rw [hw]; exact JBox.new w1 left inn
  have hs : w1.heap.size + 1 = w2.heap.size := by rw [hw]; simp
  have hb : Below w1.heap.size w1 w2 := by rw [hw]; exact below_lit w1 _ _
  replace HT := Lib.hid (HT.out.next hb)
  replace HQ := Lib.hid (HQ.out.next hb)
  replace X1 := Lib.hid (X1.out.next hb)
  replace HBL := Lib.hid (HBL.out.trans (hb.mono HBL.out.size))
  have J1 := Lib.hid hx
  clear hx hb hw
  rw [hs]
  clear hs
  obtain ⟨B2, hB⟩ : ∃ B, B = w1.heap.size := ⟨_, rfl⟩
  rw [← hB] at J1 ⊢
  clear hB
  obtain ⟨w3, hw⟩ : ∃ w3, w3 = w2.alloc (.cells #[.int .i64 q.k.id, .slice q.S q.k.sec.length q.c, .int .i64 q.k.frm, .int .i64 q.k.til] 28) := ⟨_, rfl⟩
  rw [← hw]
  have hx : Box w3 w2.heap.size q := by rw [hw]; exact (box_lit w2 q HQ.out).1
  have hb : Below w2.heap.size w2 w3 := by rw [hw]; exact below_lit w2 _ _
  replace HT := Lib.hid (HT.out.next hb)
  replace HQ := Lib.hid (HQ.out.next hb)
  replace X1 := Lib.hid (X1.out.next hb)
  replace J1 := Lib.hid (J1.out.next hb)
  replace HBL := Lib.hid (HBL.out.trans (hb.mono HBL.out.size))
  have HX := Lib.hid hx
  clear hx hb hw
  obtain ⟨B3, hB⟩ : ∃ B, B = w2.heap.size := ⟨_, rfl⟩
  rw [← hB] at HX ⊢
  clear hB
  refine (psuits_any t left inn true HSU.out w3).mono ?_
  rintro e w4 ⟨rfl, hb⟩
  replace HT := Lib.hid (HT.out.next hb)
  replace HQ := Lib.hid (HQ.out.next hb)
  replace X1 := Lib.hid (X1.out.next hb)
  replace J1 := Lib.hid (J1.out.next hb)
  replace HX := Lib.hid (HX.out.next hb)
  replace HBL := Lib.hid (HBL.out.trans (hb.mono HBL.out.size))
  clear hb
  have k0 := cell_of_row _ _ 0 _ _ _ HX.out.1
  have k1 := cell_of_row _ _ 1 _ _ _ HX.out.1
  have X1a := Lib.hid (X1.out.next (below_lit w4 #[.int .i64 q.k.id, .slice q.S q.k.sec.length q.c, .int .i64 0, .int .i64 1] 28))
  obtain ⟨c0, c1, c2, c3, c4, c5, c6, c7, c8, c9, c10⟩ := X1a.out.cells
  have J1a := Lib.hid (J1.out.next (below_lit w4 #[.int .i64 q.k.id, .slice q.S q.k.sec.length q.c, .int .i64 0, .int .i64 1] 28))
  obtain ⟨d0, d1⟩ := J1a.out.cells
  have HXa := Lib.hid (HX.out.next (below_lit w4 #[.int .i64 q.k.id, .slice q.S q.k.sec.length q.c, .int .i64 0, .int .i64 1] 28))
  have k2 := cell_of_row _ _ 0 _ _ _ HXa.out.1
  go_wp2_with fail
  obtain ⟨w5, hw⟩ : ∃ w5, w5 = w4.alloc (.cells #[.int .i64 q.k.id, .slice q.S q.k.sec.length q.c, .int .i64 0, .int .i64 1] 28) := ⟨_, rfl⟩
  rw [← hw]
  have hx : Ks w5 w5.heap.size (some ⟨w4.heap.size, 0, none⟩) [⟨q.k.id, q.k.sec, 0, 1⟩] := by rw [hw]; exact ks_lit w4 [⟨⟨q.k.id, q.k.sec, 0, 1⟩, q.S, q.c⟩] #[.int .i64 q.k.id, .slice q.S q.k.sec.length q.c, .int .i64 0, .int .i64 1] 1 rfl rfl (by omega) (by intro p hp; rw [List.mem_singleton] at hp; subst hp; exact HQ.out)
  have hb : Below w4.heap.size w4 w5 := by rw [hw]; exact below_lit w4 _ _
  clear k0 k1 c0 c1 c2 c3 c4 c5 c6 c7 c8 c9 c10 d0 d1 k2 X1a J1a HXa
  replace HT := Lib.hid (HT.out.next hb)
  replace HQ := Lib.hid (HQ.out.next hb)
  replace X1 := Lib.hid (X1.out.next hb)
  replace J1 := Lib.hid (J1.out.next hb)
  replace HX := Lib.hid (HX.out.next hb)
  replace HBL := Lib.hid (HBL.out.trans (hb.mono HBL.out.size))
  have KR := Lib.hid hx
  clear hx hb hw
  refine (penc_any [⟨q.k.id, q.k.sec, 0, 1⟩] 1 rfl (by omega) _ 1 ⟨t, q.k.id, left, inn, 0⟩ HIN.out 0 p HE.out w5 HT.out KR.out).mono ?_
  rintro e w6 ⟨AP1, cP1, rfl, hs, hb⟩
  replace HT := Lib.hid (HT.out.next hb)
  replace HQ := Lib.hid (HQ.out.next hb)
  replace X1 := Lib.hid (X1.out.next hb)
  replace J1 := Lib.hid (J1.out.next hb)
  replace HX := Lib.hid (HX.out.next hb)
  replace KR := Lib.hid (KR.out.next hb)
  replace HBL := Lib.hid (HBL.out.trans (hb.mono HBL.out.size))
  have P1 := Lib.hid hs
  clear hb hs
  go_wp2_with fail
  refine (fitted_any w6).mono ?_
  rintro e w7 ⟨rfl, hb⟩
  replace HT := Lib.hid (HT.out.next hb)
  replace HQ := Lib.hid (HQ.out.next hb)
  replace X1 := Lib.hid (X1.out.next hb)
  replace J1 := Lib.hid (J1.out.next hb)
  replace HX := Lib.hid (HX.out.next hb)
  replace KR := Lib.hid (KR.out.next hb)
  replace P1 := Lib.hid (P1.out.next hb)
  replace HBL := Lib.hid (HBL.out.trans (hb.mono HBL.out.size))
  clear hb
  obtain ⟨c0, c1, c2, c3, c4, c5, c6, c7, c8, c9, c10⟩ := X1.out.cells
  go_wp2_with fail
  refine (pfstripe_any t true HD.out w7).mono ?_
  rintro e w8 ⟨rfl, hb⟩
  clear c0 c1 c2 c3 c4 c5 c6 c7 c8 c9 c10
  replace HT := Lib.hid (HT.out.next hb)
  replace HQ := Lib.hid (HQ.out.next hb)
  replace X1 := Lib.hid (X1.out.next hb)
  replace J1 := Lib.hid (J1.out.next hb)
  replace HX := Lib.hid (HX.out.next hb)
  replace KR := Lib.hid (KR.out.next hb)
  replace P1 := Lib.hid (P1.out.next hb)
  replace HBL := Lib.hid (HBL.out.trans (hb.mono HBL.out.size))
  clear hb
  go_wp2
  go_ret
  exact ⟨rfl, HBL.out⟩
set_option maxRecDepth 100000 in
set_option maxHeartbeats 1600000 in
theorem stripe20_false (t : Tk) (ht : InT t) (left inn : Int) (hl : In64 left) (hi : In64 inn) (q : KV) (w : World) (hT : Tabs w) (hq : Bs w w.heap.size q.k.sec q.S q.c) (p0 : ¬ (q.k.sec.length : Int) < 1) (p1 : ¬ 64 < (q.k.sec.length : Int)) (p2 : ¬ q.k.id < 0) (p3 : ¬ 99 < q.k.id) (hsu : suitB t.uses left inn = true) (hd : roomS t = false) : Calls Tryz.prog 3 #[.agg #[.int .i64 t.ser, .int .i64 t.kind, .int .i64 t.frm, .int .i64 t.till, .int .i64 t.cls, .int .i64 t.card, .int .i64 t.seat, .int .i64 t.day, .int .i64 t.days, .int .i64 t.uses, .int .i64 t.epoch], .agg #[.int .i64 left, .int .i64 inn], .agg #[.int .i64 q.k.id, .slice q.S q.k.sec.length q.c, .int .i64 q.k.frm, .int .i64 q.k.til]] w fun e w' => e = .returned (.bool true) ∧ Below w.heap.size w w' := by
  have hr : (⟨q.k.id, q.k.sec, 0, 1⟩ : K).right = true := by
    simp [K.right, rightN]
    omega
  have h1 := encX_one hr t left inn hsu
  obtain ⟨E, p, hE⟩ : ∃ E p, encX [⟨q.k.id, q.k.sec, 0, 1⟩] ⟨t, q.k.id, left, inn, 0⟩ = (E, p) := ⟨_, _, rfl⟩
  have h0 : E ≠ 0 := by
    intro h
    have := h1.1 (by show (encX [⟨q.k.id, q.k.sec, 0, 1⟩] ⟨t, q.k.id, left, inn, 0⟩).1 = 0; rw [hE]; exact h)
    rw [hd] at this
    cases this
  have s1 : (E == 0) = false := by rw [beq_eq_false_iff_ne]; exact h0
  have s2 : (E != 0) = true := by rw [bne_iff_ne]; exact h0
  clear h0
  have HIN := Lib.hid (inr_of ht (show In64 q.k.id by unfold In64; omega) hl hi)
  have HSU := Lib.hid hsu
  have HE := Lib.hid hE
  have HD := Lib.hid hd
  clear hE hd h1 hr hsu
  have HT := Lib.hid hT
  have HQ := Lib.hid hq
  clear hT hq
  have HBL := Lib.hid (Below.refl w.heap.size w)
  go_enter Tryz.func3, Tryz.ntmps3
  go_wp2_with fail
  obtain ⟨w1, hw⟩ : ∃ w1, w1 = w.alloc (.cells #[.int .i64 t.ser, .int .i64 t.kind, .int .i64 t.frm, .int .i64 t.till, .int .i64 t.cls, .int .i64 t.card, .int .i64 t.seat, .int .i64 t.day, .int .i64 t.days, .int .i64 t.uses, .int .i64 t.epoch] 23) := ⟨_, rfl⟩
  rw [← hw]
  have hx : TBox w1 w.heap.size t := by rw [hw]; exact TBox.new w t
  have hs : w.heap.size + 1 = w1.heap.size := by rw [hw]; simp
  have hb : Below w.heap.size w w1 := by rw [hw]; exact below_lit w _ _
  replace HT := Lib.hid (HT.out.next hb)
  replace HQ := Lib.hid (HQ.out.next hb)
  replace HBL := Lib.hid (HBL.out.trans (hb.mono HBL.out.size))
  have X1 := Lib.hid hx
  clear hx hb hw
  rw [hs]
  clear hs
  obtain ⟨B1, hB⟩ : ∃ B, B = w.heap.size := ⟨_, rfl⟩
  rw [← hB] at X1 ⊢
  clear hB
  obtain ⟨w2, hw⟩ : ∃ w2, w2 = w1.alloc (.cells #[.int .i64 left, .int .i64 inn] 25) := ⟨_, rfl⟩
  rw [← hw]
  have hx : JBox w2 w1.heap.size left inn := by rw [hw]; exact JBox.new w1 left inn
  have hs : w1.heap.size + 1 = w2.heap.size := by rw [hw]; simp
  have hb : Below w1.heap.size w1 w2 := by rw [hw]; exact below_lit w1 _ _
  replace HT := Lib.hid (HT.out.next hb)
  replace HQ := Lib.hid (HQ.out.next hb)
  replace X1 := Lib.hid (X1.out.next hb)
  replace HBL := Lib.hid (HBL.out.trans (hb.mono HBL.out.size))
  have J1 := Lib.hid hx
  clear hx hb hw
  rw [hs]
  clear hs
  obtain ⟨B2, hB⟩ : ∃ B, B = w1.heap.size := ⟨_, rfl⟩
  rw [← hB] at J1 ⊢
  clear hB
  obtain ⟨w3, hw⟩ : ∃ w3, w3 = w2.alloc (.cells #[.int .i64 q.k.id, .slice q.S q.k.sec.length q.c, .int .i64 q.k.frm, .int .i64 q.k.til] 28) := ⟨_, rfl⟩
  rw [← hw]
  have hx : Box w3 w2.heap.size q := by rw [hw]; exact (box_lit w2 q HQ.out).1
  have hb : Below w2.heap.size w2 w3 := by rw [hw]; exact below_lit w2 _ _
  replace HT := Lib.hid (HT.out.next hb)
  replace HQ := Lib.hid (HQ.out.next hb)
  replace X1 := Lib.hid (X1.out.next hb)
  replace J1 := Lib.hid (J1.out.next hb)
  replace HBL := Lib.hid (HBL.out.trans (hb.mono HBL.out.size))
  have HX := Lib.hid hx
  clear hx hb hw
  obtain ⟨B3, hB⟩ : ∃ B, B = w2.heap.size := ⟨_, rfl⟩
  rw [← hB] at HX ⊢
  clear hB
  refine (psuits_any t left inn true HSU.out w3).mono ?_
  rintro e w4 ⟨rfl, hb⟩
  replace HT := Lib.hid (HT.out.next hb)
  replace HQ := Lib.hid (HQ.out.next hb)
  replace X1 := Lib.hid (X1.out.next hb)
  replace J1 := Lib.hid (J1.out.next hb)
  replace HX := Lib.hid (HX.out.next hb)
  replace HBL := Lib.hid (HBL.out.trans (hb.mono HBL.out.size))
  clear hb
  have k0 := cell_of_row _ _ 0 _ _ _ HX.out.1
  have k1 := cell_of_row _ _ 1 _ _ _ HX.out.1
  have X1a := Lib.hid (X1.out.next (below_lit w4 #[.int .i64 q.k.id, .slice q.S q.k.sec.length q.c, .int .i64 0, .int .i64 1] 28))
  obtain ⟨c0, c1, c2, c3, c4, c5, c6, c7, c8, c9, c10⟩ := X1a.out.cells
  have J1a := Lib.hid (J1.out.next (below_lit w4 #[.int .i64 q.k.id, .slice q.S q.k.sec.length q.c, .int .i64 0, .int .i64 1] 28))
  obtain ⟨d0, d1⟩ := J1a.out.cells
  have HXa := Lib.hid (HX.out.next (below_lit w4 #[.int .i64 q.k.id, .slice q.S q.k.sec.length q.c, .int .i64 0, .int .i64 1] 28))
  have k2 := cell_of_row _ _ 0 _ _ _ HXa.out.1
  go_wp2_with fail
  obtain ⟨w5, hw⟩ : ∃ w5, w5 = w4.alloc (.cells #[.int .i64 q.k.id, .slice q.S q.k.sec.length q.c, .int .i64 0, .int .i64 1] 28) := ⟨_, rfl⟩
  rw [← hw]
  have hx : Ks w5 w5.heap.size (some ⟨w4.heap.size, 0, none⟩) [⟨q.k.id, q.k.sec, 0, 1⟩] := by rw [hw]; exact ks_lit w4 [⟨⟨q.k.id, q.k.sec, 0, 1⟩, q.S, q.c⟩] #[.int .i64 q.k.id, .slice q.S q.k.sec.length q.c, .int .i64 0, .int .i64 1] 1 rfl rfl (by omega) (by intro p hp; rw [List.mem_singleton] at hp; subst hp; exact HQ.out)
  have hb : Below w4.heap.size w4 w5 := by rw [hw]; exact below_lit w4 _ _
  clear k0 k1 c0 c1 c2 c3 c4 c5 c6 c7 c8 c9 c10 d0 d1 k2 X1a J1a HXa
  replace HT := Lib.hid (HT.out.next hb)
  replace HQ := Lib.hid (HQ.out.next hb)
  replace X1 := Lib.hid (X1.out.next hb)
  replace J1 := Lib.hid (J1.out.next hb)
  replace HX := Lib.hid (HX.out.next hb)
  replace HBL := Lib.hid (HBL.out.trans (hb.mono HBL.out.size))
  have KR := Lib.hid hx
  clear hx hb hw
  refine (penc_any [⟨q.k.id, q.k.sec, 0, 1⟩] 1 rfl (by omega) _ 1 ⟨t, q.k.id, left, inn, 0⟩ HIN.out E p HE.out w5 HT.out KR.out).mono ?_
  rintro e w6 ⟨AP1, cP1, rfl, hs, hb⟩
  replace HT := Lib.hid (HT.out.next hb)
  replace HQ := Lib.hid (HQ.out.next hb)
  replace X1 := Lib.hid (X1.out.next hb)
  replace J1 := Lib.hid (J1.out.next hb)
  replace HX := Lib.hid (HX.out.next hb)
  replace KR := Lib.hid (KR.out.next hb)
  replace HBL := Lib.hid (HBL.out.trans (hb.mono HBL.out.size))
  have P1 := Lib.hid hs
  clear hb hs
  go_wp2_with fail
  refine (fitted_any w6).mono ?_
  rintro e w7 ⟨rfl, hb⟩
  replace HT := Lib.hid (HT.out.next hb)
  replace HQ := Lib.hid (HQ.out.next hb)
  replace X1 := Lib.hid (X1.out.next hb)
  replace J1 := Lib.hid (J1.out.next hb)
  replace HX := Lib.hid (HX.out.next hb)
  replace KR := Lib.hid (KR.out.next hb)
  replace P1 := Lib.hid (P1.out.next hb)
  replace HBL := Lib.hid (HBL.out.trans (hb.mono HBL.out.size))
  clear hb
  obtain ⟨c0, c1, c2, c3, c4, c5, c6, c7, c8, c9, c10⟩ := X1.out.cells
  go_wp2_with fail
  refine (pfstripe_any t false HD.out w7).mono ?_
  rintro e w8 ⟨rfl, hb⟩
  clear c0 c1 c2 c3 c4 c5 c6 c7 c8 c9 c10
  replace HT := Lib.hid (HT.out.next hb)
  replace HQ := Lib.hid (HQ.out.next hb)
  replace X1 := Lib.hid (X1.out.next hb)
  replace J1 := Lib.hid (J1.out.next hb)
  replace HX := Lib.hid (HX.out.next hb)
  replace KR := Lib.hid (KR.out.next hb)
  replace P1 := Lib.hid (P1.out.next hb)
  replace HBL := Lib.hid (HBL.out.trans (hb.mono HBL.out.size))
  clear hb
  go_wp2
  go_ret
  exact ⟨rfl, HBL.out⟩
set_option maxRecDepth 100000 in
set_option maxHeartbeats 1600000 in
theorem stripe20_any (t : Tk) (ht : InT t) (left inn : Int) (hl : In64 left) (hi : In64 inn) (q : KV) (w : World) (hT : Tabs w) (hq : Bs w w.heap.size q.k.sec q.S q.c)  : Calls Tryz.prog 3 #[.agg #[.int .i64 t.ser, .int .i64 t.kind, .int .i64 t.frm, .int .i64 t.till, .int .i64 t.cls, .int .i64 t.card, .int .i64 t.seat, .int .i64 t.day, .int .i64 t.days, .int .i64 t.uses, .int .i64 t.epoch], .agg #[.int .i64 left, .int .i64 inn], .agg #[.int .i64 q.k.id, .slice q.S q.k.sec.length q.c, .int .i64 q.k.frm, .int .i64 q.k.til]] w fun e w' => e = .returned (.bool true) ∧ Below w.heap.size w w' := by
  by_cases p0 : (q.k.sec.length : Int) < 1
  · exact stripe20_0 t ht left inn hl hi q w hT hq p0
  by_cases p1 : 64 < (q.k.sec.length : Int)
  · exact stripe20_1 t ht left inn hl hi q w hT hq p0 p1
  by_cases p2 : q.k.id < 0
  · exact stripe20_2 t ht left inn hl hi q w hT hq p0 p1 p2
  by_cases p3 : 99 < q.k.id
  · exact stripe20_3 t ht left inn hl hi q w hT hq p0 p1 p2 p3
  cases hsu : suitB t.uses left inn
  · exact stripe20_4 t ht left inn hl hi q w hT hq p0 p1 p2 p3 hsu
  cases hd : roomS t
  · exact stripe20_false t ht left inn hl hi q w hT hq p0 p1 p2 p3 hsu hd
  · exact stripe20_true t ht left inn hl hi q w hT hq p0 p1 p2 p3 hsu hd
end Go.Proofs.YtaokhkbfiplfmaaGreatDoor
end
section
namespace Go.Proofs.YtaokhkbfiplfmaaGreatDoor
set_option maxRecDepth 100000
set_option linter.unusedVariables false
open Go.ChangeShapes Go.WideShapes Go.ChangeAt Go.RowKit Go.Deep

section
variable {H : Type} {enc : TypeId × Value → H}
theorem cell_int13 {W : World} {fuel : Nat} {v : Value} {y : DataW H × List MemPlace} (h : DataW.trod enc Tryz.prog W 0 (fun _ => true) true fuel 3 [v] = some y) : ∃ z : Int, v = .int .i64 z ∧ In64 z := by
  obtain ⟨z, e1, _, wz⟩ := DataW.trod_int Tryz.underlying3 h
  simp at e1
  exact ⟨z, e1, wf_i64 z wz⟩
/-- Cells that read as a struct all of whose fields are ints. -/
theorem ints_of_struct {W : World} {t : TypeId} {fs : Array Field} {cs : List Value} {fuel : Nat} {y : DataW H × List MemPlace} (hs : Tryz.prog.underlying t = some (.struct fs)) (hone : oneCellFields Tryz.prog fs = true)
    (hty : fs.all (fun f : Field => f.type == 3) = true) (hC : Tryz.prog.cellsOf t = fs.size) (h : DataW.trod enc Tryz.prog W 0 (fun _ => true) true fuel t cs = some y) :
    cs.length = fs.size ∧ ∀ i, i < cs.length → ∃ z : Int, cs[i]? = some (.int .i64 z) ∧ In64 z := by
  obtain ⟨xs, n, _, _, hl, hlen, hg⟩ := DataW.trod_struct hs h
  refine ⟨hl.trans hC, fun i hi => ?_⟩
  have hif : i < fs.size := by rw [← hC, ← hl]; exact hi
  have hfi : fs[i]? = some fs[i] := Array.getElem?_eq_getElem hif
  obtain ⟨o, k⟩ := hone_of hone i _ hfi
  have ht : fs[i].type = 3 := of_decide_eq_true (by simpa using Array.all_eq_true.1 hty i hif)
  have h1 := hg i _ hfi
  rw [ht] at k
  rw [ht, o, k] at h1
  obtain ⟨y, hy⟩ : ∃ y, xs[i]? = some y := ⟨_, List.getElem?_eq_getElem (by omega)⟩
  have e : (cs.drop i).take 1 = [cs[i]] := by rw [List.drop_eq_getElem_cons hi]; rfl
  rw [hy, e] at h1
  obtain ⟨z, hz, zl⟩ := cell_int13 h1
  exact ⟨z, by rw [List.getElem?_eq_getElem hi, hz], zl⟩
theorem open_journey {W : World} {r : Reach} {b0 : Nat} {v : Value} {d : DataW H} {ps : List MemPlace} (hval : Value.okWide Tryz.prog W r b0 25 v) (hd : DataW.Trod enc Tryz.prog W 0 (fun _ => true) true 25 v d ps) :
    ∃ a b : Int, v = .agg #[.int .i64 a, .int .i64 b] ∧ In64 a ∧ In64 b := by
  obtain ⟨cs, rfl, hsz⟩ := okWide_struct Tryz.underlying25 hval
  obtain ⟨fuel, hf⟩ := hd
  obtain ⟨h1, h2⟩ := ints_of_struct Tryz.underlying25 (by kernel_rfl) (by kernel_rfl) (by kernel_rfl) hf
  obtain ⟨l⟩ := cs
  have h1' : l.length = 2 := h1
  match l, h1' with
  | [c0, c1], _ =>
    obtain ⟨z0, e0, j0⟩ := h2 0 (by show 0 < 2; omega)
    obtain ⟨z1, e1, j1⟩ := h2 1 (by show 1 < 2; omega)
    obtain rfl : c0 = .int .i64 z0 := Option.some.inj e0
    obtain rfl : c1 = .int .i64 z1 := Option.some.inj e1
    exact ⟨z0, z1, rfl, j0, j1⟩
end
end Go.Proofs.YtaokhkbfiplfmaaGreatDoor
end
section
namespace Go.Proofs.YtaokhkbfiplfmaaGreatDoor
set_option maxRecDepth 100000
set_option linter.unusedVariables false
open Go.ChangeShapes Go.WideShapes Go.ChangeAt Go.RowKit

/-- What the seat's rows list: the two tables. -/
def laidL {H : Type} : List (String × DataW H) := [("gateline/sha.constants", Rows.laid_gateline_sha_constants), ("gateline/sha.beginning", Rows.laid_gateline_sha_beginning)]
theorem gConst : Tryz.prog.globalNamed "gateline/sha.constants" = some 1 := by kernel_rfl
theorem gBegin : Tryz.prog.globalNamed "gateline/sha.beginning" = some 0 := by kernel_rfl
theorem gConstT : (Tryz.prog.globals[1]?).map (·.type) = some 120 := by kernel_rfl
theorem gBeginT : (Tryz.prog.globals[0]?).map (·.type) = some 108 := by kernel_rfl
theorem cells64 : Tryz.prog.cellsOf 120 = 64 := by kernel_rfl
theorem cellsOf8 : Tryz.prog.cellsOf 108 = 8 := by kernel_rfl

theorem rd_tab {W : World} {g : Nat} {name : String} {l : List Nat} (hg : Tryz.prog.globalNamed name = some g) (h : Lib.TabIs Tryz.prog W name .u32 (l.map fun x : Nat => (x : Int))) : Rd W W.heap.size (some ⟨g, 0, none⟩) (U32 l) := by
  intro k u hu
  have hk : k < l.length := by
    rcases Nat.lt_or_ge k l.length with h' | h'
    · exact h'
    · rw [List.getElem?_eq_none (by rw [U32_length]; exact h')] at hu; cases hu
  have hc := h.cell hg k (by simpa using hk)
  rw [U32_at l k hk] at hu
  cases hu
  have hlt : g < W.heap.size := lt_of_cell hc
  refine ⟨_, rfl, hlt, ?_⟩
  rw [at_add, hc]
  simp [List.getD, hk]
theorem tabs_of_laid {W : World} (h : laidMetH Tryz.prog laidL W) : Tabs W := by
  have h' : laidMet Tryz.prog laidL W := h
  exact ⟨rd_tab gConst (Lib.tabIs_of_head (zs := kTab.map fun x : Nat => (x : Int)) gConst gConstT Tryz.underlying120 Tryz.underlying107 Tryz.cellsU32 cells64 h'),
    rd_tab gBegin (Lib.tabIs_of_head (zs := beginN.list.map fun x : Nat => (x : Int)) gBegin gBeginT Tryz.underlying108 Tryz.underlying107 Tryz.cellsU32 cellsOf8 (laidMet.tail h'))⟩
theorem door_met (os : Os) (args : Array Value) : laidMetH Tryz.prog laidL ((World.doorLaid Tryz.prog 400 os).forCall (fun _ _ => 0) ⟨#[], args, []⟩).memory :=
  laidMetH_of_parts3 (fuel := 8) (laidMet_of_run' 8 (by kernel_rfl) (by kernel_rfl)) (by kernel_rfl) (by kernel_rfl)
end Go.Proofs.YtaokhkbfiplfmaaGreatDoor
end
section
namespace Go.Proofs.YtaokhkbfiplfmaaGreatDoor
set_option maxRecDepth 100000
set_option linter.unusedVariables false
open Go.ChangeShapes Go.WideShapes Go.ChangeAt Go.RowKit Go.Deep

section
variable {H : Type} {enc : TypeId × Value → H}
theorem int_cell {W : World} {fuel : Nat} {v : Value} {y : DataW H × List MemPlace} (h : DataW.trod enc Tryz.prog W 0 (fun _ => true) true fuel 3 [v] = some y) : ∃ z : Int, v = .int .i64 z ∧ In64 z := by
  obtain ⟨z, e1, _, wz⟩ := DataW.trod_int Tryz.underlying3 h
  simp at e1
  exact ⟨z, e1, wf_i64 z wz⟩
/-- A struct all of whose fields are ints, by value, opened. -/
theorem open_ints_agg {W : World} {r : Reach} {b0 : Nat} {t : TypeId} {fs : Array Field} {v : Value} {d : DataW H} {ps : List MemPlace} (hs : Tryz.prog.underlying t = some (.struct fs)) (hone : oneCellFields Tryz.prog fs = true)
    (hty : ∀ (i : Nat) (f : Field), fs[i]? = some f → f.type = 3) (hC : Tryz.prog.cellsOf t = fs.size) (hval : Value.okWide Tryz.prog W r b0 t v) (hd : DataW.Trod enc Tryz.prog W 0 (fun _ => true) true t v d ps) :
    ∃ cs, v = .agg cs ∧ cs.size = fs.size ∧ ∀ i, i < cs.size → ∃ z : Int, cs[i]? = some (.int .i64 z) ∧ In64 z := by
  obtain ⟨cs, rfl, hsz⟩ := okWide_struct hs hval
  obtain ⟨fuel, hf⟩ := hd
  obtain ⟨xs, n, _, _, hl, hlen, hg⟩ := DataW.trod_struct hs hf
  refine ⟨cs, rfl, hsz.trans hC, fun i hi => ?_⟩
  have hif : i < fs.size := by rw [← hC, ← hsz]; exact hi
  have hfi : fs[i]? = some fs[i] := Array.getElem?_eq_getElem hif
  obtain ⟨o, k⟩ := hone_of hone i _ hfi
  have ht := hty i _ hfi
  have h1 := hg i _ hfi
  rw [ht] at k
  rw [ht, o, k] at h1
  obtain ⟨y, hy⟩ : ∃ y, xs[i]? = some y := ⟨_, List.getElem?_eq_getElem (by omega)⟩
  rw [hy] at h1
  have e : ((Value.agg cs).cells.toList.drop i).take 1 = [cs[i]] := by
    have hl2 : i < cs.toList.length := by simpa using hi
    show (cs.toList.drop i).take 1 = _
    rw [List.drop_eq_getElem_cons hl2]
    simp
  rw [e] at h1
  obtain ⟨z, hz, zl⟩ := int_cell h1
  exact ⟨z, by rw [Array.getElem?_eq_getElem hi, hz], zl⟩
theorem array11 {α : Type} {cs : Array α} (h : cs.size = 11) : ∃ c0 c1 c2 c3 c4 c5 c6 c7 c8 c9 c10, cs = #[c0, c1, c2, c3, c4, c5, c6, c7, c8, c9, c10] := by
  obtain ⟨l⟩ := cs
  match l, h with
  | [c0, c1, c2, c3, c4, c5, c6, c7, c8, c9, c10], _ => exact ⟨c0, c1, c2, c3, c4, c5, c6, c7, c8, c9, c10, rfl⟩
theorem all_ints {fs : Array Field} (h : fs.all (fun f : Field => f.type == 3) = true) : ∀ (i : Nat) (f : Field), fs[i]? = some f → f.type = 3 := by
  intro i f hi
  have hlt : i < fs.size := (Array.getElem?_eq_some_iff.1 hi).1
  have := Array.all_eq_true.1 h i hlt
  have he : fs[i] = f := (Array.getElem?_eq_some_iff.1 hi).2
  rw [he] at this
  exact of_decide_eq_true (by simpa using this)
theorem open_ticket {W : World} {r : Reach} {b0 : Nat} {v : Value} {d : DataW H} {ps : List MemPlace} (hval : Value.okWide Tryz.prog W r b0 23 v) (hd : DataW.Trod enc Tryz.prog W 0 (fun _ => true) true 23 v d ps) :
    ∃ t : Tk, v = .agg #[.int .i64 t.ser, .int .i64 t.kind, .int .i64 t.frm, .int .i64 t.till, .int .i64 t.cls, .int .i64 t.card, .int .i64 t.seat, .int .i64 t.day, .int .i64 t.days, .int .i64 t.uses, .int .i64 t.epoch] ∧ InT t := by
  obtain ⟨cs, rfl, hsz, hz⟩ := open_ints_agg Tryz.underlying23 (by kernel_rfl) (all_ints (by kernel_rfl)) (by kernel_rfl) hval hd
  obtain ⟨c0, c1, c2, c3, c4, c5, c6, c7, c8, c9, c10, rfl⟩ := array11 hsz
  obtain ⟨z0, e0, j0⟩ := hz 0 (by show 0 < 11; omega)
  obtain rfl : c0 = .int .i64 z0 := Option.some.inj e0
  obtain ⟨z1, e1, j1⟩ := hz 1 (by show 1 < 11; omega)
  obtain rfl : c1 = .int .i64 z1 := Option.some.inj e1
  obtain ⟨z2, e2, j2⟩ := hz 2 (by show 2 < 11; omega)
  obtain rfl : c2 = .int .i64 z2 := Option.some.inj e2
  obtain ⟨z3, e3, j3⟩ := hz 3 (by show 3 < 11; omega)
  obtain rfl : c3 = .int .i64 z3 := Option.some.inj e3
  obtain ⟨z4, e4, j4⟩ := hz 4 (by show 4 < 11; omega)
  obtain rfl : c4 = .int .i64 z4 := Option.some.inj e4
  obtain ⟨z5, e5, j5⟩ := hz 5 (by show 5 < 11; omega)
  obtain rfl : c5 = .int .i64 z5 := Option.some.inj e5
  obtain ⟨z6, e6, j6⟩ := hz 6 (by show 6 < 11; omega)
  obtain rfl : c6 = .int .i64 z6 := Option.some.inj e6
  obtain ⟨z7, e7, j7⟩ := hz 7 (by show 7 < 11; omega)
  obtain rfl : c7 = .int .i64 z7 := Option.some.inj e7
  obtain ⟨z8, e8, j8⟩ := hz 8 (by show 8 < 11; omega)
  obtain rfl : c8 = .int .i64 z8 := Option.some.inj e8
  obtain ⟨z9, e9, j9⟩ := hz 9 (by show 9 < 11; omega)
  obtain rfl : c9 = .int .i64 z9 := Option.some.inj e9
  obtain ⟨z10, e10, j10⟩ := hz 10 (by show 10 < 11; omega)
  obtain rfl : c10 = .int .i64 z10 := Option.some.inj e10
  exact ⟨⟨z0, z1, z2, z3, z4, z5, z6, z7, z8, z9, z10⟩, rfl, j0, j1, j2, j3, j4, j5, j6, j7, j8, j9, j10⟩
end
end Go.Proofs.YtaokhkbfiplfmaaGreatDoor
end
