/-
  Law FitsBarcode walked: it answers true. Conditions: the key's secret reads as bytes; sha's tables hold what its text lays.
  What the laws of layer 2 share: the listed tables give what the walks ask; a world for the witness. Conditions: none of its own.
  How an array of integers that came in by value is opened: it reads as a list of numbers. No program of its own; conditions: none.
  How a slice of bytes, and an int, that lie in cells are opened. Conditions: none.
  How a key that came in by value, and a slice of keys, are opened. Conditions: none.
  That a ticket's numbers fit an int.
  How a ticket that came in by value is opened. Conditions: none.
-/
import Derived.Test.YtaokhkbfiplfmaaDoorFitsP
import Derived.Test.YtaokhkbfiplfmaaDoorShaPWords
import Derived.Test.YtaokhkbfiplfmaaDoorFortyPPut
import Derived.Test.YtaokhkbfiplfmaaDoorMacBlock
import Derived.Test.YtaokhkbfiplfmaaDoorTie
import Derived.Test.YtaokhkbfiplfmaaDoorCards
import Derived.LaidMore
import Derived.Lib.LaidTab
import Derived.Stop.Joined
import Derived.Stop.LaidErr
import Derived.OpenShut
import Derived.SizedLaws
import Derived.Deep.Slices
import Derived.Deep.Fields
import Derived.Lib.SmallJoins
import Derived.Test.YtaokhkbfiplfmaaDoorMem
section
namespace Go.Proofs.YtaokhkbfiplfmaaDoor
set_option linter.unusedVariables false
open Go.ChangeShapes Go.WideShapes Go.ChangeAt Go.RowKit

set_option maxRecDepth 100000 in
set_option maxHeartbeats 1600000 in
theorem barcode20_0 (t : Tk) (n : Int) (q : KV) (w : World) (hT : Tabs w) (hq : Bs w w.heap.size q.k.sec q.S q.c)  (p0 : (q.k.sec.length : Int) < 1) : Calls Tryd.prog 3 #[.agg #[.int .i64 t.ser, .int .i64 t.kind, .int .i64 t.frm, .int .i64 t.till, .int .i64 t.cls, .int .i64 t.card, .int .i64 t.seat, .int .i64 t.day, .int .i64 t.days, .int .i64 t.uses, .int .i64 t.epoch], .int .i64 n, .agg #[.int .i64 q.k.id, .slice q.S q.k.sec.length q.c, .int .i64 q.k.frm, .int .i64 q.k.til]] w fun e w' => e = .returned (.bool true) ∧ Below w.heap.size w w' := by
  have HT := Lib.hid hT
  have HQ := Lib.hid hq
  clear hT hq
  have HBL := Lib.hid (Below.refl w.heap.size w)
  go_enter Tryd.func3, Tryd.ntmps3
  go_wp2_with fail
  obtain ⟨w1, hw⟩ : ∃ w1, w1 = w.alloc (.cells #[.int .i64 t.ser, .int .i64 t.kind, .int .i64 t.frm, .int .i64 t.till, .int .i64 t.cls, .int .i64 t.card, .int .i64 t.seat, .int .i64 t.day, .int .i64 t.days, .int .i64 t.uses, .int .i64 t.epoch] 23) := ⟨_, rfl⟩
  rw [← hw]
  have hx : TBox w1 w.heap.size t := by rw [hw]; exact TBox.new w t
  have hs : w.heap.size + 1 = w1.heap.size := by rw [hw]; simp
  have hb : Below w.heap.size w w1 := by rw [hw]; exact below_lit w _ _
  replace HT := Lib.hid (HT.out.next hb)
  replace HQ := Lib.hid (HQ.out.next hb)
  replace HBL := Lib.hid (HBL.out.trans (hb.mono HBL.out.size))
  have X1 := Lib.hid hx
  clear hx hb hw
  rw [hs]
  clear hs
  obtain ⟨B1, hB⟩ : ∃ B, B = w.heap.size := ⟨_, rfl⟩
  rw [← hB] at X1 ⊢
  clear hB
  obtain ⟨w2, hw⟩ : ∃ w2, w2 = w1.alloc (.cells #[.int .i64 q.k.id, .slice q.S q.k.sec.length q.c, .int .i64 q.k.frm, .int .i64 q.k.til] 26) := ⟨_, rfl⟩
  rw [← hw]
  have hx : Box w2 w1.heap.size q := by rw [hw]; exact (box_lit w1 q HQ.out).1
  have hb : Below w1.heap.size w1 w2 := by rw [hw]; exact below_lit w1 _ _
  replace HT := Lib.hid (HT.out.next hb)
  replace HQ := Lib.hid (HQ.out.next hb)
  replace X1 := Lib.hid (X1.out.next hb)
  replace HBL := Lib.hid (HBL.out.trans (hb.mono HBL.out.size))
  have HX := Lib.hid hx
  clear hx hb hw
  obtain ⟨B3, hB⟩ : ∃ B, B = w1.heap.size := ⟨_, rfl⟩
  rw [← hB] at HX ⊢
  clear hB
  refine (fitted_any w2).mono ?_
  rintro e w3 ⟨rfl, hb⟩
  replace HT := Lib.hid (HT.out.next hb)
  replace HQ := Lib.hid (HQ.out.next hb)
  replace X1 := Lib.hid (X1.out.next hb)
  replace HX := Lib.hid (HX.out.next hb)
  replace HBL := Lib.hid (HBL.out.trans (hb.mono HBL.out.size))
  clear hb
  go_wp2
  go_ret
  exact ⟨rfl, HBL.out⟩
set_option maxRecDepth 100000 in
set_option maxHeartbeats 1600000 in
theorem barcode20_1 (t : Tk) (n : Int) (q : KV) (w : World) (hT : Tabs w) (hq : Bs w w.heap.size q.k.sec q.S q.c) (p0 : ¬ (q.k.sec.length : Int) < 1) (p1 : 64 < (q.k.sec.length : Int)) : Calls Tryd.prog 3 #[.agg #[.int .i64 t.ser, .int .i64 t.kind, .int .i64 t.frm, .int .i64 t.till, .int .i64 t.cls, .int .i64 t.card, .int .i64 t.seat, .int .i64 t.day, .int .i64 t.days, .int .i64 t.uses, .int .i64 t.epoch], .int .i64 n, .agg #[.int .i64 q.k.id, .slice q.S q.k.sec.length q.c, .int .i64 q.k.frm, .int .i64 q.k.til]] w fun e w' => e = .returned (.bool true) ∧ Below w.heap.size w w' := by
  have HT := Lib.hid hT
  have HQ := Lib.hid hq
  clear hT hq
  have HBL := Lib.hid (Below.refl w.heap.size w)
  go_enter Tryd.func3, Tryd.ntmps3
  go_wp2_with fail
  obtain ⟨w1, hw⟩ : ∃ w1, w1 = w.alloc (.cells #[.int .i64 t.ser, .int .i64 t.kind, .int .i64 t.frm, .int .i64 t.till, .int .i64 t.cls, .int .i64 t.card, .int .i64 t.seat, .int .i64 t.day, .int .i64 t.days, .int .i64 t.uses, .int .i64 t.epoch] 23) := ⟨_, rfl⟩
  rw [← hw]
  have hx : TBox w1 w.heap.size t := by rw [hw]; exact TBox.new w t
  have hs : w.heap.size + 1 = w1.heap.size := by rw [hw]; simp
  have hb : Below w.heap.size w w1 := by rw [hw]; exact below_lit w _ _
  replace HT := Lib.hid (HT.out.next hb)
  replace HQ := Lib.hid (HQ.out.next hb)
  replace HBL := Lib.hid (HBL.out.trans (hb.mono HBL.out.size))
  have X1 := Lib.hid hx
  clear hx hb hw
  rw [hs]
  clear hs
  obtain ⟨B1, hB⟩ : ∃ B, B = w.heap.size := ⟨_, rfl⟩
  rw [← hB] at X1 ⊢
  clear hB
  obtain ⟨w2, hw⟩ : ∃ w2, w2 = w1.alloc (.cells #[.int .i64 q.k.id, .slice q.S q.k.sec.length q.c, .int .i64 q.k.frm, .int .i64 q.k.til] 26) := ⟨_, rfl⟩
  rw [← hw]
  have hx : Box w2 w1.heap.size q := by rw [hw]; exact (box_lit w1 q HQ.out).1
  have hb : Below w1.heap.size w1 w2 := by rw [hw]; exact below_lit w1 _ _
  replace HT := Lib.hid (HT.out.next hb)
  replace HQ := Lib.hid (HQ.out.next hb)
  replace X1 := Lib.hid (X1.out.next hb)
  replace HBL := Lib.hid (HBL.out.trans (hb.mono HBL.out.size))
  have HX := Lib.hid hx
  clear hx hb hw
  obtain ⟨B3, hB⟩ : ∃ B, B = w1.heap.size := ⟨_, rfl⟩
  rw [← hB] at HX ⊢
  clear hB
  refine (fitted_any w2).mono ?_
  rintro e w3 ⟨rfl, hb⟩
  replace HT := Lib.hid (HT.out.next hb)
  replace HQ := Lib.hid (HQ.out.next hb)
  replace X1 := Lib.hid (X1.out.next hb)
  replace HX := Lib.hid (HX.out.next hb)
  replace HBL := Lib.hid (HBL.out.trans (hb.mono HBL.out.size))
  clear hb
  go_wp2
  go_ret
  exact ⟨rfl, HBL.out⟩
set_option maxRecDepth 100000 in
set_option maxHeartbeats 1600000 in
theorem barcode20_2 (t : Tk) (n : Int) (q : KV) (w : World) (hT : Tabs w) (hq : Bs w w.heap.size q.k.sec q.S q.c) (p0 : ¬ (q.k.sec.length : Int) < 1) (p1 : ¬ 64 < (q.k.sec.length : Int)) (p2 : q.k.id < 0) : Calls Tryd.prog 3 #[.agg #[.int .i64 t.ser, .int .i64 t.kind, .int .i64 t.frm, .int .i64 t.till, .int .i64 t.cls, .int .i64 t.card, .int .i64 t.seat, .int .i64 t.day, .int .i64 t.days, .int .i64 t.uses, .int .i64 t.epoch], .int .i64 n, .agg #[.int .i64 q.k.id, .slice q.S q.k.sec.length q.c, .int .i64 q.k.frm, .int .i64 q.k.til]] w fun e w' => e = .returned (.bool true) ∧ Below w.heap.size w w' := by
  have HT := Lib.hid hT
  have HQ := Lib.hid hq
  clear hT hq
  have HBL := Lib.hid (Below.refl w.heap.size w)
  go_enter Tryd.func3, Tryd.ntmps3
  go_wp2_with fail
  obtain ⟨w1, hw⟩ : ∃ w1, w1 = w.alloc (.cells #[.int .i64 t.ser, .int .i64 t.kind, .int .i64 t.frm, .int .i64 t.till, .int .i64 t.cls, .int .i64 t.card, .int .i64 t.seat, .int .i64 t.day, .int .i64 t.days, .int .i64 t.uses, .int .i64 t.epoch] 23) := ⟨_, rfl⟩
  rw [← hw]
  have hx : TBox w1 w.heap.size t := by rw [hw]; exact TBox.new w t
  have hs : w.heap.size + 1 = w1.heap.size := by rw [hw]; simp
  have hb : Below w.heap.size w w1 := by rw [hw]; exact below_lit w _ _
  replace HT := Lib.hid (HT.out.next hb)
  replace HQ := Lib.hid (HQ.out.next hb)
  replace HBL := Lib.hid (HBL.out.trans (hb.mono HBL.out.size))
  have X1 := Lib.hid hx
  clear hx hb hw
  rw [hs]
  clear hs
  obtain ⟨B1, hB⟩ : ∃ B, B = w.heap.size := ⟨_, rfl⟩
  rw [← hB] at X1 ⊢
  clear hB
  obtain ⟨w2, hw⟩ : ∃ w2, w2 = w1.alloc (.cells #[.int .i64 q.k.id, .slice q.S q.k.sec.length q.c, .int .i64 q.k.frm, .int .i64 q.k.til] 26) := ⟨_, rfl⟩
  rw [← hw]
  have hx : Box w2 w1.heap.size q := by rw [hw]; exact (box_lit w1 q HQ.out).1
  have hb : Below w1.heap.size w1 w2 := by rw [hw]; exact below_lit w1 _ _
  replace HT := Lib.hid (HT.out.next hb)
  replace HQ := Lib.hid (HQ.out.next hb)
  replace X1 := Lib.hid (X1.out.next hb)
  replace HBL := Lib.hid (HBL.out.trans (hb.mono HBL.out.size))
  have HX := Lib.hid hx
  clear hx hb hw
  obtain ⟨B3, hB⟩ : ∃ B, B = w1.heap.size := ⟨_, rfl⟩
  rw [← hB] at HX ⊢
  clear hB
  refine (fitted_any w2).mono ?_
  rintro e w3 ⟨rfl, hb⟩
  replace HT := Lib.hid (HT.out.next hb)
  replace HQ := Lib.hid (HQ.out.next hb)
  replace X1 := Lib.hid (X1.out.next hb)
  replace HX := Lib.hid (HX.out.next hb)
  replace HBL := Lib.hid (HBL.out.trans (hb.mono HBL.out.size))
  clear hb
  go_wp2
  go_ret
  exact ⟨rfl, HBL.out⟩
set_option maxRecDepth 100000 in
set_option maxHeartbeats 1600000 in
theorem barcode20_3 (t : Tk) (n : Int) (q : KV) (w : World) (hT : Tabs w) (hq : Bs w w.heap.size q.k.sec q.S q.c) (p0 : ¬ (q.k.sec.length : Int) < 1) (p1 : ¬ 64 < (q.k.sec.length : Int)) (p2 : ¬ q.k.id < 0) (p3 : 99 < q.k.id) : Calls Tryd.prog 3 #[.agg #[.int .i64 t.ser, .int .i64 t.kind, .int .i64 t.frm, .int .i64 t.till, .int .i64 t.cls, .int .i64 t.card, .int .i64 t.seat, .int .i64 t.day, .int .i64 t.days, .int .i64 t.uses, .int .i64 t.epoch], .int .i64 n, .agg #[.int .i64 q.k.id, .slice q.S q.k.sec.length q.c, .int .i64 q.k.frm, .int .i64 q.k.til]] w fun e w' => e = .returned (.bool true) ∧ Below w.heap.size w w' := by
  have HT := Lib.hid hT
  have HQ := Lib.hid hq
  clear hT hq
  have HBL := Lib.hid (Below.refl w.heap.size w)
  go_enter Tryd.func3, Tryd.ntmps3
  go_wp2_with fail
  obtain ⟨w1, hw⟩ : ∃ w1, w1 = w.alloc (.cells #[.int .i64 t.ser, .int .i64 t.kind, .int .i64 t.frm, .int .i64 t.till, .int .i64 t.cls, .int .i64 t.card, .int .i64 t.seat, .int .i64 t.day, .int .i64 t.days, .int .i64 t.uses, .int .i64 t.epoch] 23) := ⟨_, rfl⟩
  rw [← hw]
  have hx : TBox w1 w.heap.size t := by rw [hw]; exact TBox.new w t
  have hs : w.heap.size + 1 = w1.heap.size := by rw [hw]; simp
  have hb : Below w.heap.size w w1 := by rw [hw]; exact below_lit w _ _
  replace HT := Lib.hid (HT.out.next hb)
  replace HQ := Lib.hid (HQ.out.next hb)
  replace HBL := Lib.hid (HBL.out.trans (hb.mono HBL.out.size))
  have X1 := Lib.hid hx
  clear hx hb hw
  rw [hs]
  clear hs
  obtain ⟨B1, hB⟩ : ∃ B, B = w.heap.size := ⟨_, rfl⟩
  rw [← hB] at X1 ⊢
  clear hB
  obtain ⟨w2, hw⟩ : ∃ w2, w2 = w1.alloc (.cells #[.int .i64 q.k.id, .slice q.S q.k.sec.length q.c, .int .i64 q.k.frm, .int .i64 q.k.til] 26) := ⟨_, rfl⟩
  rw [← hw]
  have hx : Box w2 w1.heap.size q := by rw [hw]; exact (box_lit w1 q HQ.out).1
  have hb : Below w1.heap.size w1 w2 := by rw [hw]; exact below_lit w1 _ _
  replace HT := Lib.hid (HT.out.next hb)
  replace HQ := Lib.hid (HQ.out.next hb)
  replace X1 := Lib.hid (X1.out.next hb)
  replace HBL := Lib.hid (HBL.out.trans (hb.mono HBL.out.size))
  have HX := Lib.hid hx
  clear hx hb hw
  obtain ⟨B3, hB⟩ : ∃ B, B = w1.heap.size := ⟨_, rfl⟩
  rw [← hB] at HX ⊢
  clear hB
  refine (fitted_any w2).mono ?_
  rintro e w3 ⟨rfl, hb⟩
  replace HT := Lib.hid (HT.out.next hb)
  replace HQ := Lib.hid (HQ.out.next hb)
  replace X1 := Lib.hid (X1.out.next hb)
  replace HX := Lib.hid (HX.out.next hb)
  replace HBL := Lib.hid (HBL.out.trans (hb.mono HBL.out.size))
  clear hb
  go_wp2
  go_ret
  exact ⟨rfl, HBL.out⟩
set_option maxRecDepth 100000 in
set_option maxHeartbeats 1600000 in
theorem barcode20_true (t : Tk) (n : Int) (q : KV) (w : World) (hT : Tabs w) (hq : Bs w w.heap.size q.k.sec q.S q.c) (p0 : ¬ (q.k.sec.length : Int) < 1) (p1 : ¬ 64 < (q.k.sec.length : Int)) (p2 : ¬ q.k.id < 0) (p3 : ¬ 99 < q.k.id) (hd : roomB t n = true) : Calls Tryd.prog 3 #[.agg #[.int .i64 t.ser, .int .i64 t.kind, .int .i64 t.frm, .int .i64 t.till, .int .i64 t.cls, .int .i64 t.card, .int .i64 t.seat, .int .i64 t.day, .int .i64 t.days, .int .i64 t.uses, .int .i64 t.epoch], .int .i64 n, .agg #[.int .i64 q.k.id, .slice q.S q.k.sec.length q.c, .int .i64 q.k.frm, .int .i64 q.k.til]] w fun e w' => e = .returned (.bool true) ∧ Below w.heap.size w w' := by
  have hr : (⟨q.k.id, q.k.sec, 0, 1⟩ : K).right = true := by
    simp [K.right, rightN]
    omega
  have h1 := ecB_one hr t n
  obtain ⟨p, hE⟩ : ∃ p, ecB [⟨q.k.id, q.k.sec, 0, 1⟩] ⟨t, q.k.id, 0, 0, n⟩ = (0, p) := ⟨_, Prod.ext (h1.2 hd) rfl⟩
  have HE := Lib.hid hE
  have HD := Lib.hid hd
  clear hE hd h1 hr
  have HT := Lib.hid hT
  have HQ := Lib.hid hq
  clear hT hq
  have HBL := Lib.hid (Below.refl w.heap.size w)
  go_enter Tryd.func3, Tryd.ntmps3
  go_wp2_with fail
  obtain ⟨w1, hw⟩ : ∃ w1, w1 = w.alloc (.cells #[.int .i64 t.ser, .int .i64 t.kind, .int .i64 t.frm, .int .i64 t.till, .int .i64 t.cls, .int .i64 t.card, .int .i64 t.seat, .int .i64 t.day, .int .i64 t.days, .int .i64 t.uses, .int .i64 t.epoch] 23) := ⟨_, rfl⟩
  rw [← hw]
  have hx : TBox w1 w.heap.size t := by rw [hw]; exact TBox.new w t
  have hs : w.heap.size + 1 = w1.heap.size := by rw [hw]; simp
  have hb : Below w.heap.size w w1 := by rw [hw]; exact below_lit w _ _
  replace HT := Lib.hid (HT.out.next hb)
  replace HQ := Lib.hid (HQ.out.next hb)
  replace HBL := Lib.hid (HBL.out.trans (hb.mono HBL.out.size))
  have X1 := Lib.hid hx
  clear hx hb hw
  rw [hs]
  clear hs
  obtain ⟨B1, hB⟩ : ∃ B, B = w.heap.size := ⟨_, rfl⟩
  rw [← hB] at X1 ⊢
  clear hB
  obtain ⟨w2, hw⟩ : ∃ w2, w2 = w1.alloc (.cells #[.int .i64 q.k.id, .slice q.S q.k.sec.length q.c, .int .i64 q.k.frm, .int .i64 q.k.til] 26) := ⟨_, rfl⟩
  rw [← hw]
  have hx : Box w2 w1.heap.size q := by rw [hw]; exact (box_lit w1 q HQ.out).1
  have hs : w1.heap.size + 1 = w2.heap.size := by rw [hw]; simp
  have hb : Below w1.heap.size w1 w2 := by rw [hw]; exact below_lit w1 _ _
  replace HT := Lib.hid (HT.out.next hb)
  replace HQ := Lib.hid (HQ.out.next hb)
  replace X1 := Lib.hid (X1.out.next hb)
  replace HBL := Lib.hid (HBL.out.trans (hb.mono HBL.out.size))
  have HX := Lib.hid hx
  clear hx hb hw
  rw [hs]
  clear hs
  obtain ⟨B3, hB⟩ : ∃ B, B = w1.heap.size := ⟨_, rfl⟩
  rw [← hB] at HX ⊢
  clear hB
  obtain ⟨w3, hw⟩ : ∃ w3, w3 = w2.alloc (.cells #[.int .i64 q.k.id, .slice q.S q.k.sec.length q.c, .int .i64 0, .int .i64 1] 26) := ⟨_, rfl⟩
  rw [← hw]
  have hx : Ks w3 w3.heap.size (some ⟨w2.heap.size, 0, none⟩) [⟨q.k.id, q.k.sec, 0, 1⟩] := by rw [hw]; exact ks_lit w2 [⟨⟨q.k.id, q.k.sec, 0, 1⟩, q.S, q.c⟩] #[.int .i64 q.k.id, .slice q.S q.k.sec.length q.c, .int .i64 0, .int .i64 1] 1 rfl rfl (by omega) (by intro p hp; rw [List.mem_singleton] at hp; subst hp; exact HQ.out)
  have hb : Below w2.heap.size w2 w3 := by rw [hw]; exact below_lit w2 _ _
  replace HT := Lib.hid (HT.out.next hb)
  replace HQ := Lib.hid (HQ.out.next hb)
  replace X1 := Lib.hid (X1.out.next hb)
  replace HX := Lib.hid (HX.out.next hb)
  replace HBL := Lib.hid (HBL.out.trans (hb.mono HBL.out.size))
  have KR := Lib.hid hx
  clear hx hb hw
  refine (benc_any [⟨q.k.id, q.k.sec, 0, 1⟩] 1 rfl (by omega) _ 1 ⟨t, q.k.id, 0, 0, n⟩ 0 p HE.out w3 HT.out KR.out).mono ?_
  rintro e w4 ⟨AP1, cP1, rfl, hs, hb⟩
  replace HT := Lib.hid (HT.out.next hb)
  replace HQ := Lib.hid (HQ.out.next hb)
  replace X1 := Lib.hid (X1.out.next hb)
  replace HX := Lib.hid (HX.out.next hb)
  replace KR := Lib.hid (KR.out.next hb)
  replace HBL := Lib.hid (HBL.out.trans (hb.mono HBL.out.size))
  have P1 := Lib.hid hs
  clear hb hs
  go_wp2_with fail
  refine (fitted_any w4).mono ?_
  rintro e w5 ⟨rfl, hb⟩
  replace HT := Lib.hid (HT.out.next hb)
  replace HQ := Lib.hid (HQ.out.next hb)
  replace X1 := Lib.hid (X1.out.next hb)
  replace HX := Lib.hid (HX.out.next hb)
  replace KR := Lib.hid (KR.out.next hb)
  replace P1 := Lib.hid (P1.out.next hb)
  replace HBL := Lib.hid (HBL.out.trans (hb.mono HBL.out.size))
  clear hb
  obtain ⟨c0, c1, c2, c3, c4, c5, c6, c7, c8, c9, c10⟩ := X1.out.cells
  go_wp2_with fail
  refine (pfbarcode_any t n true HD.out w5).mono ?_
  rintro e w6 ⟨rfl, hb⟩
  clear c0 c1 c2 c3 c4 c5 c6 c7 c8 c9 c10
  replace HT := Lib.hid (HT.out.next hb)
  replace HQ := Lib.hid (HQ.out.next hb)
  replace X1 := Lib.hid (X1.out.next hb)
  replace HX := Lib.hid (HX.out.next hb)
  replace KR := Lib.hid (KR.out.next hb)
  replace P1 := Lib.hid (P1.out.next hb)
  replace HBL := Lib.hid (HBL.out.trans (hb.mono HBL.out.size))
  clear hb
  go_wp2
  go_ret
  exact ⟨rfl, HBL.out⟩
set_option maxRecDepth 100000 in
set_option maxHeartbeats 1600000 in
theorem barcode20_false (t : Tk) (n : Int) (q : KV) (w : World) (hT : Tabs w) (hq : Bs w w.heap.size q.k.sec q.S q.c) (p0 : ¬ (q.k.sec.length : Int) < 1) (p1 : ¬ 64 < (q.k.sec.length : Int)) (p2 : ¬ q.k.id < 0) (p3 : ¬ 99 < q.k.id) (hd : roomB t n = false) : Calls Tryd.prog 3 #[.agg #[.int .i64 t.ser, .int .i64 t.kind, .int .i64 t.frm, .int .i64 t.till, .int .i64 t.cls, .int .i64 t.card, .int .i64 t.seat, .int .i64 t.day, .int .i64 t.days, .int .i64 t.uses, .int .i64 t.epoch], .int .i64 n, .agg #[.int .i64 q.k.id, .slice q.S q.k.sec.length q.c, .int .i64 q.k.frm, .int .i64 q.k.til]] w fun e w' => e = .returned (.bool true) ∧ Below w.heap.size w w' := by
  have hr : (⟨q.k.id, q.k.sec, 0, 1⟩ : K).right = true := by
    simp [K.right, rightN]
    omega
  have h1 := ecB_one hr t n
  obtain ⟨E, p, hE⟩ : ∃ E p, ecB [⟨q.k.id, q.k.sec, 0, 1⟩] ⟨t, q.k.id, 0, 0, n⟩ = (E, p) := ⟨_, _, rfl⟩
  have h0 : E ≠ 0 := by
    intro h
    have := h1.1 (by show (ecB [⟨q.k.id, q.k.sec, 0, 1⟩] ⟨t, q.k.id, 0, 0, n⟩).1 = 0; rw [hE]; exact h)
    rw [hd] at this
    cases this
  have s1 : ((E : Int) == 0) = false := by rw [beq_eq_false_iff_ne]; omega
  have s2 : ((E : Int) != 0) = true := by rw [bne_iff_ne]; omega
  have s3 : (E == 0) = false := by rw [beq_eq_false_iff_ne]; exact h0
  clear h0
  have HE := Lib.hid hE
  have HD := Lib.hid hd
  clear hE hd h1 hr
  have HT := Lib.hid hT
  have HQ := Lib.hid hq
  clear hT hq
  have HBL := Lib.hid (Below.refl w.heap.size w)
  go_enter Tryd.func3, Tryd.ntmps3
  go_wp2_with fail
  obtain ⟨w1, hw⟩ : ∃ w1, w1 = w.alloc (.cells #[.int .i64 t.ser, .int .i64 t.kind, .int .i64 t.frm, .int .i64 t.till, .int .i64 t.cls, .int .i64 t.card, .int .i64 t.seat, .int .i64 t.day, .int .i64 t.days, .int .i64 t.uses, .int .i64 t.epoch] 23) := ⟨_, rfl⟩
  rw [← hw]
  have hx : TBox w1 w.heap.size t := by rw [hw]; exact TBox.new w t
  have hs : w.heap.size + 1 = w1.heap.size := by rw [hw]; simp
  have hb : Below w.heap.size w w1 := by rw [hw]; exact below_lit w _ _
  replace HT := Lib.hid (HT.out.next hb)
  replace HQ := Lib.hid (HQ.out.next hb)
  replace HBL := Lib.hid (HBL.out.trans (hb.mono HBL.out.size))
  have X1 := Lib.hid hx
  clear hx hb hw
  rw [hs]
  clear hs
  obtain ⟨B1, hB⟩ : ∃ B, B = w.heap.size := ⟨_, rfl⟩
  rw [← hB] at X1 ⊢
  clear hB
  obtain ⟨w2, hw⟩ : ∃ w2, w2 = w1.alloc (.cells #[.int .i64 q.k.id, .slice q.S q.k.sec.length q.c, .int .i64 q.k.frm, .int .i64 q.k.til] 26) := ⟨_, rfl⟩
  rw [← hw]
  have hx : Box w2 w1.heap.size q := by rw [hw]; exact (box_lit w1 q HQ.out).1
  have hs : w1.heap.size + 1 = w2.heap.size := by rw [hw]; simp
  have hb : Below w1.heap.size w1 w2 := by rw [hw]; exact below_lit w1 _ _
  replace HT := Lib.hid (HT.out.next hb)
  replace HQ := Lib.hid (HQ.out.next hb)
  replace X1 := Lib.hid (X1.out.next hb)
  replace HBL := Lib.hid (HBL.out.trans (hb.mono HBL.out.size))
  have HX := Lib.hid hx
  clear hx hb hw
  rw [hs]
  clear hs
  obtain ⟨B3, hB⟩ : ∃ B, B = w1.heap.size := ⟨_, rfl⟩
  rw [← hB] at HX ⊢
  clear hB
  obtain ⟨w3, hw⟩ : ∃ w3, w3 = w2.alloc (.cells #[.int .i64 q.k.id, .slice q.S q.k.sec.length q.c, .int .i64 0, .int .i64 1] 26) := ⟨_, rfl⟩
  rw [← hw]
  have hx : Ks w3 w3.heap.size (some ⟨w2.heap.size, 0, none⟩) [⟨q.k.id, q.k.sec, 0, 1⟩] := by rw [hw]; exact ks_lit w2 [⟨⟨q.k.id, q.k.sec, 0, 1⟩, q.S, q.c⟩] #[.int .i64 q.k.id, .slice q.S q.k.sec.length q.c, .int .i64 0, .int .i64 1] 1 rfl rfl (by omega) (by intro p hp; rw [List.mem_singleton] at hp; subst hp; exact HQ.out)
  have hb : Below w2.heap.size w2 w3 := by rw [hw]; exact below_lit w2 _ _
  replace HT := Lib.hid (HT.out.next hb)
  replace HQ := Lib.hid (HQ.out.next hb)
  replace X1 := Lib.hid (X1.out.next hb)
  replace HX := Lib.hid (HX.out.next hb)
  replace HBL := Lib.hid (HBL.out.trans (hb.mono HBL.out.size))
  have KR := Lib.hid hx
  clear hx hb hw
  refine (benc_any [⟨q.k.id, q.k.sec, 0, 1⟩] 1 rfl (by omega) _ 1 ⟨t, q.k.id, 0, 0, n⟩ E p HE.out w3 HT.out KR.out).mono ?_
  rintro e w4 ⟨AP1, cP1, rfl, hs, hb⟩
  replace HT := Lib.hid (HT.out.next hb)
  replace HQ := Lib.hid (HQ.out.next hb)
  replace X1 := Lib.hid (X1.out.next hb)
  replace HX := Lib.hid (HX.out.next hb)
  replace KR := Lib.hid (KR.out.next hb)
  replace HBL := Lib.hid (HBL.out.trans (hb.mono HBL.out.size))
  have P1 := Lib.hid hs
  clear hb hs
  go_wp2_with fail
  refine (fitted_any w4).mono ?_
  rintro e w5 ⟨rfl, hb⟩
  replace HT := Lib.hid (HT.out.next hb)
  replace HQ := Lib.hid (HQ.out.next hb)
  replace X1 := Lib.hid (X1.out.next hb)
  replace HX := Lib.hid (HX.out.next hb)
  replace KR := Lib.hid (KR.out.next hb)
  replace P1 := Lib.hid (P1.out.next hb)
  replace HBL := Lib.hid (HBL.out.trans (hb.mono HBL.out.size))
  clear hb
  obtain ⟨c0, c1, c2, c3, c4, c5, c6, c7, c8, c9, c10⟩ := X1.out.cells
  go_wp2_with fail
  refine (pfbarcode_any t n false HD.out w5).mono ?_
  rintro e w6 ⟨rfl, hb⟩
  clear c0 c1 c2 c3 c4 c5 c6 c7 c8 c9 c10
  replace HT := Lib.hid (HT.out.next hb)
  replace HQ := Lib.hid (HQ.out.next hb)
  replace X1 := Lib.hid (X1.out.next hb)
  replace HX := Lib.hid (HX.out.next hb)
  replace KR := Lib.hid (KR.out.next hb)
  replace P1 := Lib.hid (P1.out.next hb)
  replace HBL := Lib.hid (HBL.out.trans (hb.mono HBL.out.size))
  clear hb
  go_wp2
  go_ret
  exact ⟨rfl, HBL.out⟩
set_option maxRecDepth 100000 in
set_option maxHeartbeats 1600000 in
theorem barcode20_any (t : Tk) (n : Int) (q : KV) (w : World) (hT : Tabs w) (hq : Bs w w.heap.size q.k.sec q.S q.c)  : Calls Tryd.prog 3 #[.agg #[.int .i64 t.ser, .int .i64 t.kind, .int .i64 t.frm, .int .i64 t.till, .int .i64 t.cls, .int .i64 t.card, .int .i64 t.seat, .int .i64 t.day, .int .i64 t.days, .int .i64 t.uses, .int .i64 t.epoch], .int .i64 n, .agg #[.int .i64 q.k.id, .slice q.S q.k.sec.length q.c, .int .i64 q.k.frm, .int .i64 q.k.til]] w fun e w' => e = .returned (.bool true) ∧ Below w.heap.size w w' := by
  by_cases p0 : (q.k.sec.length : Int) < 1
  · exact barcode20_0 t n q w hT hq p0
  by_cases p1 : 64 < (q.k.sec.length : Int)
  · exact barcode20_1 t n q w hT hq p0 p1
  by_cases p2 : q.k.id < 0
  · exact barcode20_2 t n q w hT hq p0 p1 p2
  by_cases p3 : 99 < q.k.id
  · exact barcode20_3 t n q w hT hq p0 p1 p2 p3
  cases hd : roomB t n
  · exact barcode20_false t n q w hT hq p0 p1 p2 p3 hd
  · exact barcode20_true t n q w hT hq p0 p1 p2 p3 hd
end Go.Proofs.YtaokhkbfiplfmaaDoor
end
section
namespace Go.Proofs.YtaokhkbfiplfmaaDoor
set_option maxRecDepth 100000
set_option linter.unusedVariables false
open Go.ChangeShapes Go.WideShapes Go.ChangeAt Go.RowKit

/-- What the seat's rows list: the two tables. -/
def laidL {H : Type} : List (String × DataW H) := [("gateline/sha.constants", Rows.laid_gateline_sha_constants), ("gateline/sha.beginning", Rows.laid_gateline_sha_beginning)]
theorem gConst : Tryd.prog.globalNamed "gateline/sha.constants" = some 1 := by kernel_rfl
theorem gBegin : Tryd.prog.globalNamed "gateline/sha.beginning" = some 0 := by kernel_rfl
theorem gConstT : (Tryd.prog.globals[1]?).map (·.type) = some 109 := by kernel_rfl
theorem gBeginT : (Tryd.prog.globals[0]?).map (·.type) = some 101 := by kernel_rfl
theorem cells64 : Tryd.prog.cellsOf 109 = 64 := by kernel_rfl
theorem cellsOf8 : Tryd.prog.cellsOf 101 = 8 := by kernel_rfl

theorem rd_tab {W : World} {g : Nat} {name : String} {l : List Nat} (hg : Tryd.prog.globalNamed name = some g) (h : Lib.TabIs Tryd.prog W name .u32 (l.map fun x : Nat => (x : Int))) : Rd W W.heap.size (some ⟨g, 0, none⟩) (U32 l) := by
  intro k u hu
  have hk : k < l.length := by
    rcases Nat.lt_or_ge k l.length with h' | h'
    · exact h'
    · rw [List.getElem?_eq_none (by rw [U32_length]; exact h')] at hu; cases hu
  have hc := h.cell hg k (by simpa using hk)
  rw [U32_at l k hk] at hu
  cases hu
  have hlt : g < W.heap.size := lt_of_cell hc
  refine ⟨_, rfl, hlt, ?_⟩
  rw [at_add, hc]
  simp [List.getD, hk]
theorem tabs_of_laid {W : World} (h : laidMetH Tryd.prog laidL W) : Tabs W := by
  have h' : laidMet Tryd.prog laidL W := h
  exact ⟨rd_tab gConst (Lib.tabIs_of_head (zs := kTab.map fun x : Nat => (x : Int)) gConst gConstT Tryd.underlying109 Tryd.underlying100 Tryd.cellsU32 cells64 h'),
    rd_tab gBegin (Lib.tabIs_of_head (zs := beginN.list.map fun x : Nat => (x : Int)) gBegin gBeginT Tryd.underlying101 Tryd.underlying100 Tryd.cellsU32 cellsOf8 (laidMet.tail h'))⟩
theorem door_met (os : Os) (args : Array Value) : laidMetH Tryd.prog laidL ((World.doorLaid Tryd.prog 400 os).forCall (fun _ _ => 0) ⟨#[], args, []⟩).memory :=
  laidMetH_of_parts3 (fuel := 8) (laidMet_of_run' 8 (by kernel_rfl) (by kernel_rfl)) (by kernel_rfl) (by kernel_rfl)
end Go.Proofs.YtaokhkbfiplfmaaDoor
end
section
namespace Go.Proofs.YtaokhkbfiplfmaaDoor
set_option linter.unusedVariables false
open Go.ChangeShapes Go.WideShapes Go.ChangeAt Go.RowKit

section
variable {H : Type} {enc : TypeId × Value → H} {P : Program}
end
end Go.Proofs.YtaokhkbfiplfmaaDoor
end
section
namespace Go.Proofs.YtaokhkbfiplfmaaDoor
set_option maxRecDepth 100000
set_option linter.unusedVariables false
open Go.ChangeShapes Go.WideShapes Go.ChangeAt Go.RowKit Go.Deep

section
variable {H : Type} {enc : TypeId × Value → H}
theorem bs_of_cells {W : World} {fuel : Nat} {v : Value} {y : DataW H × List MemPlace} (h : DataW.trod enc Tryd.prog W 0 (fun _ => true) true fuel 24 [v] = some y) :
    ∃ S s c, v = .slice S (List.length s) c ∧ Bs W W.heap.size s S c := by
  rcases open_ints Tryd.underlying24 Tryd.underlying5 Tryd.cellsU8 h with ⟨hcs, _⟩ | ⟨a, len, cap, zs, hcs, _, h1, h2, hz, _, hcell, hwf⟩
  · simp at hcs
    exact ⟨none, [], 0, hcs, Bs.empty _ _⟩
  · simp at hcs hz
    have hl : ((zs.take len).map Int.toNat).length = len := by simp; omega
    refine ⟨some a, (zs.take len).map Int.toNat, cap, by rw [hl]; exact hcs, ⟨?_, by simp, by rw [hl]; exact h1, by unfold maxLen at h2; exact h2, ?_⟩⟩
    · intro j u hu
      simp only [U8, List.getElem?_map, Option.map_eq_some_iff] at hu
      obtain ⟨x, ⟨z, hz1, rfl⟩, rfl⟩ := hu
      have hj : j < len := by
        rcases Nat.lt_or_ge j len with h | h
        · exact h
        · rw [List.getElem?_eq_none (by simp; omega)] at hz1; cases hz1
      have hcj := hcell j (by omega)
      rw [List.getElem?_take, if_pos hj] at hz1
      rw [List.getD_eq_getElem?_getD, hz1, Option.getD_some] at hcj
      have hzw := wf_u8 z (hwf z (List.mem_of_getElem? hz1))
      refine ⟨a, rfl, ?_, ?_⟩
      · have := lt_of_cell hcj
        rwa [add_block] at this
      · rw [hcj]
        congr 2
        omega
    · intro x hx
      simp only [List.mem_map] at hx
      obtain ⟨z, hz1, rfl⟩ := hx
      have := wf_u8 z (hwf z (List.mem_of_mem_take hz1))
      omega
theorem int_of_cells {W : World} {fuel : Nat} {v : Value} {y : DataW H × List MemPlace} (h : DataW.trod enc Tryd.prog W 0 (fun _ => true) true fuel 3 [v] = some y) : ∃ z : Int, v = .int .i64 z ∧ -9223372036854775808 ≤ z ∧ z ≤ 9223372036854775807 := by
  obtain ⟨z, e1, _, wz⟩ := DataW.trod_int Tryd.underlying3 h
  simp at e1
  exact ⟨z, e1, wf_i64 z wz⟩
end
end Go.Proofs.YtaokhkbfiplfmaaDoor
end
section
namespace Go.Proofs.YtaokhkbfiplfmaaDoor
set_option maxRecDepth 100000
set_option linter.unusedVariables false
open Go.ChangeShapes Go.WideShapes Go.ChangeAt Go.RowKit Go.Deep

section
variable {H : Type} {enc : TypeId × Value → H}
theorem cellsKey : Tryd.prog.cellsOf 26 = 4 := by kernel_rfl
/-- A key that came in by value. -/
theorem open_key {W : World} {r : Reach} {b0 : Nat} {v : Value} {d : DataW H} {ps : List MemPlace} (hval : Value.okWide Tryd.prog W r b0 26 v) (hd : DataW.Trod enc Tryd.prog W 0 (fun _ => true) true 26 v d ps) :
    ∃ q : KV, v = .agg #[.int .i64 q.k.id, .slice q.S q.k.sec.length q.c, .int .i64 q.k.frm, .int .i64 q.k.til] ∧ Bs W W.heap.size q.k.sec q.S q.c := by
  obtain ⟨v0, v1, v2, v3, y0, y1, y2, y3, n, rfl, _, _, h0, h1, h2, h3⟩ := Go.Joins.open_agg4 Tryd.underlying26 (by kernel_rfl) cellsKey hval hd
  obtain ⟨z0, rfl, _, _⟩ := int_of_cells h0
  obtain ⟨S, s, c, rfl, hb⟩ := bs_of_cells h1
  obtain ⟨z2, rfl, _, _⟩ := int_of_cells h2
  obtain ⟨z3, rfl, _, _⟩ := int_of_cells h3
  exact ⟨⟨⟨z0, s, z2, z3⟩, S, c⟩, rfl, hb⟩
end
end Go.Proofs.YtaokhkbfiplfmaaDoor
end
section
namespace Go.Proofs.YtaokhkbfiplfmaaDoor
set_option linter.unusedVariables false
open Go.ChangeShapes Go.WideShapes Go.ChangeAt Go.RowKit

def InT (t : Tk) : Prop := In64 t.ser ∧ In64 t.kind ∧ In64 t.frm ∧ In64 t.till ∧ In64 t.cls ∧ In64 t.card ∧ In64 t.seat ∧ In64 t.day ∧ In64 t.days ∧ In64 t.uses ∧ In64 t.epoch
end Go.Proofs.YtaokhkbfiplfmaaDoor
end
section
namespace Go.Proofs.YtaokhkbfiplfmaaDoor
set_option maxRecDepth 100000
set_option linter.unusedVariables false
open Go.ChangeShapes Go.WideShapes Go.ChangeAt Go.RowKit Go.Deep

section
variable {H : Type} {enc : TypeId × Value → H}
theorem int_cell {W : World} {fuel : Nat} {v : Value} {y : DataW H × List MemPlace} (h : DataW.trod enc Tryd.prog W 0 (fun _ => true) true fuel 3 [v] = some y) : ∃ z : Int, v = .int .i64 z ∧ In64 z := by
  obtain ⟨z, e1, _, wz⟩ := DataW.trod_int Tryd.underlying3 h
  simp at e1
  exact ⟨z, e1, wf_i64 z wz⟩
/-- A struct all of whose fields are ints, by value, opened. -/
theorem open_ints_agg {W : World} {r : Reach} {b0 : Nat} {t : TypeId} {fs : Array Field} {v : Value} {d : DataW H} {ps : List MemPlace} (hs : Tryd.prog.underlying t = some (.struct fs)) (hone : oneCellFields Tryd.prog fs = true)
    (hty : ∀ (i : Nat) (f : Field), fs[i]? = some f → f.type = 3) (hC : Tryd.prog.cellsOf t = fs.size) (hval : Value.okWide Tryd.prog W r b0 t v) (hd : DataW.Trod enc Tryd.prog W 0 (fun _ => true) true t v d ps) :
    ∃ cs, v = .agg cs ∧ cs.size = fs.size ∧ ∀ i, i < cs.size → ∃ z : Int, cs[i]? = some (.int .i64 z) ∧ In64 z := by
  obtain ⟨cs, rfl, hsz⟩ := okWide_struct hs hval
  obtain ⟨fuel, hf⟩ := hd
  obtain ⟨xs, n, _, _, hl, hlen, hg⟩ := DataW.trod_struct hs hf
  refine ⟨cs, rfl, hsz.trans hC, fun i hi => ?_⟩
  have hif : i < fs.size := by rw [← hC, ← hsz]; exact hi
  have hfi : fs[i]? = some fs[i] := Array.getElem?_eq_getElem hif
  obtain ⟨o, k⟩ := hone_of hone i _ hfi
  have ht := hty i _ hfi
  have h1 := hg i _ hfi
  rw [ht] at k
  rw [ht, o, k] at h1
  obtain ⟨y, hy⟩ : ∃ y, xs[i]? = some y := ⟨_, List.getElem?_eq_getElem (by omega)⟩
  rw [hy] at h1
  have e : ((Value.agg cs).cells.toList.drop i).take 1 = [cs[i]] := by
    have hl2 : i < cs.toList.length := by simpa using hi
    show (cs.toList.drop i).take 1 = _
    rw [List.drop_eq_getElem_cons hl2]
    simp
  rw [e] at h1
  obtain ⟨z, hz, zl⟩ := int_cell h1
  exact ⟨z, by rw [Array.getElem?_eq_getElem hi, hz], zl⟩
theorem array11 {α : Type} {cs : Array α} (h : cs.size = 11) : ∃ c0 c1 c2 c3 c4 c5 c6 c7 c8 c9 c10, cs = #[c0, c1, c2, c3, c4, c5, c6, c7, c8, c9, c10] := by
  obtain ⟨l⟩ := cs
  match l, h with
  | [c0, c1, c2, c3, c4, c5, c6, c7, c8, c9, c10], _ => exact ⟨c0, c1, c2, c3, c4, c5, c6, c7, c8, c9, c10, rfl⟩
theorem all_ints {fs : Array Field} (h : fs.all (fun f : Field => f.type == 3) = true) : ∀ (i : Nat) (f : Field), fs[i]? = some f → f.type = 3 := by
  intro i f hi
  have hlt : i < fs.size := (Array.getElem?_eq_some_iff.1 hi).1
  have := Array.all_eq_true.1 h i hlt
  have he : fs[i] = f := (Array.getElem?_eq_some_iff.1 hi).2
  rw [he] at this
  exact of_decide_eq_true (by simpa using this)
theorem open_ticket {W : World} {r : Reach} {b0 : Nat} {v : Value} {d : DataW H} {ps : List MemPlace} (hval : Value.okWide Tryd.prog W r b0 23 v) (hd : DataW.Trod enc Tryd.prog W 0 (fun _ => true) true 23 v d ps) :
    ∃ t : Tk, v = .agg #[.int .i64 t.ser, .int .i64 t.kind, .int .i64 t.frm, .int .i64 t.till, .int .i64 t.cls, .int .i64 t.card, .int .i64 t.seat, .int .i64 t.day, .int .i64 t.days, .int .i64 t.uses, .int .i64 t.epoch] ∧ InT t := by
  obtain ⟨cs, rfl, hsz, hz⟩ := open_ints_agg Tryd.underlying23 (by kernel_rfl) (all_ints (by kernel_rfl)) (by kernel_rfl) hval hd
  obtain ⟨c0, c1, c2, c3, c4, c5, c6, c7, c8, c9, c10, rfl⟩ := array11 hsz
  obtain ⟨z0, e0, j0⟩ := hz 0 (by show 0 < 11; omega)
  obtain rfl : c0 = .int .i64 z0 := Option.some.inj e0
  obtain ⟨z1, e1, j1⟩ := hz 1 (by show 1 < 11; omega)
  obtain rfl : c1 = .int .i64 z1 := Option.some.inj e1
  obtain ⟨z2, e2, j2⟩ := hz 2 (by show 2 < 11; omega)
  obtain rfl : c2 = .int .i64 z2 := Option.some.inj e2
  obtain ⟨z3, e3, j3⟩ := hz 3 (by show 3 < 11; omega)
  obtain rfl : c3 = .int .i64 z3 := Option.some.inj e3
  obtain ⟨z4, e4, j4⟩ := hz 4 (by show 4 < 11; omega)
  obtain rfl : c4 = .int .i64 z4 := Option.some.inj e4
  obtain ⟨z5, e5, j5⟩ := hz 5 (by show 5 < 11; omega)
  obtain rfl : c5 = .int .i64 z5 := Option.some.inj e5
  obtain ⟨z6, e6, j6⟩ := hz 6 (by show 6 < 11; omega)
  obtain rfl : c6 = .int .i64 z6 := Option.some.inj e6
  obtain ⟨z7, e7, j7⟩ := hz 7 (by show 7 < 11; omega)
  obtain rfl : c7 = .int .i64 z7 := Option.some.inj e7
  obtain ⟨z8, e8, j8⟩ := hz 8 (by show 8 < 11; omega)
  obtain rfl : c8 = .int .i64 z8 := Option.some.inj e8
  obtain ⟨z9, e9, j9⟩ := hz 9 (by show 9 < 11; omega)
  obtain rfl : c9 = .int .i64 z9 := Option.some.inj e9
  obtain ⟨z10, e10, j10⟩ := hz 10 (by show 10 < 11; omega)
  obtain rfl : c10 = .int .i64 z10 := Option.some.inj e10
  exact ⟨⟨z0, z1, z2, z3, z4, z5, z6, z7, z8, z9, z10⟩, rfl, j0, j1, j2, j3, j4, j5, j6, j7, j8, j9, j10⟩
end
end Go.Proofs.YtaokhkbfiplfmaaDoor
end
