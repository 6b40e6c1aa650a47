/-
  Contract for the reference's Put. Conditions: the numbers fit an int.
-/
import Derived.Test.YtpniolinndlepaaGreatDoorLayRefA
import Derived.Test.YtpniolinndlepaaGreatDoorLayB
import Derived.Test.YtpniolinndlepaaGreatDoorBcdRefAll
import Derived.Test.YtpniolinndlepaaGreatDoorLayPPut
import Derived.OwnWalk
namespace Go.Proofs.YtpniolinndlepaaGreatDoor
set_option linter.unusedVariables false
open Go.ChangeShapes Go.WideShapes Go.ChangeAt Go.RowKit

set_option maxRecDepth 100000 in
set_option maxHeartbeats 1600000 in
theorem rput_p1 (r : Rg) (hin : InR r) (E : Int) (p : List Nat) (hE : lputX r = (E, p)) (w : World) (h1 : okT r.t = false) : Calls Tryz.prog 28 #[.agg #[.int .i64 r.t.ser, .int .i64 r.t.kind, .int .i64 r.t.frm, .int .i64 r.t.till, .int .i64 r.t.cls, .int .i64 r.t.card, .int .i64 r.t.seat, .int .i64 r.t.day, .int .i64 r.t.days, .int .i64 r.t.uses, .int .i64 r.t.epoch, .int .i64 r.key, .int .i64 r.left, .int .i64 r.inn, .int .i64 r.ver]] w fun e w' => ∃ A c, e = .returned (.tuple #[.slice A (p.length : Nat) c, .int .i64 E]) ∧ Bs w' w'.heap.size p A c ∧ Below w.heap.size w w' := by
  have ha : argB r = false := by rw [argB, h1]; rfl
  obtain ⟨rfl, rfl⟩ : E = 1 ∧ p = [] := by have := hE; rw [lput_arg ha] at this; exact ⟨(Prod.mk.inj this).1.symm, (Prod.mk.inj this).2.symm⟩
  clear hE
  have H1 := Lib.hid h1
  clear h1 ha
  obtain ⟨w0, hw0⟩ : ∃ w0, w0 = (w.alloc (.cells #[.int .i64 r.t.ser, .int .i64 r.t.kind, .int .i64 r.t.frm, .int .i64 r.t.till, .int .i64 r.t.cls, .int .i64 r.t.card, .int .i64 r.t.seat, .int .i64 r.t.day, .int .i64 r.t.days, .int .i64 r.t.uses, .int .i64 r.t.epoch, .int .i64 r.key, .int .i64 r.left, .int .i64 r.inn, .int .i64 r.ver] 28)).alloc (.cells #[.int .i64 r.t.ser, .int .i64 r.t.kind, .int .i64 r.t.frm, .int .i64 r.t.till, .int .i64 r.t.cls, .int .i64 r.t.card, .int .i64 r.t.seat, .int .i64 r.t.day, .int .i64 r.t.days, .int .i64 r.t.uses, .int .i64 r.t.epoch] 24) := ⟨_, rfl⟩
  have HX : Hid (RBox w0 w.heap.size r) := Lib.hid (by rw [hw0]; exact (RBox.new w r).alloc _)
  have HT : Hid (TBox w0 (w.heap.size + 1) r.t) := Lib.hid (by rw [hw0, show w.heap.size + 1 = (w.alloc (.cells #[.int .i64 r.t.ser, .int .i64 r.t.kind, .int .i64 r.t.frm, .int .i64 r.t.till, .int .i64 r.t.cls, .int .i64 r.t.card, .int .i64 r.t.seat, .int .i64 r.t.day, .int .i64 r.t.days, .int .i64 r.t.uses, .int .i64 r.t.epoch, .int .i64 r.key, .int .i64 r.left, .int .i64 r.inn, .int .i64 r.ver] 28)).heap.size by simp]; exact TBox.new _ r.t)
  have HBL : Hid (Below w.heap.size w w0) := Lib.hid (by rw [hw0]; exact ((Below.refl _ _).alloc (Nat.le_refl _) _).alloc (by simp) _)
  have HW := Lib.hid hw0
  clear hw0
  go_enter Tryz.func28, Tryz.ntmps28
  go_wp2_with fail
  rw [← HW.out]
  obtain ⟨e0, e1, e2, e3, e4, e5, e6, e7, e8, e9, e10⟩ := HT.out.cells
  go_wp2_with (first | (go_at_call 69; refine (refis9_any r.t _ H1.out _).mono ?_; rintro e w1 ⟨rfl, hb⟩; clear e0 e1 e2 e3 e4 e5 e6 e7 e8 e9 e10; have HX1 := Lib.hid (HX.out.next hb); have HT1 := Lib.hid (HT.out.next hb); have HBL1 := Lib.hid (HBL.out.trans (hb.mono HBL.out.size)); clear hb; obtain ⟨c0, c1, c2, c3, c4, c5, c6, c7, c8, c9, c10⟩ := HT1.out.cells; obtain ⟨b0, b1, b2, b3, b4, b5, b6, b7, b8, b9, b10, b11, b12, b13, b14⟩ := HX1.out.cells))
  go_ret2
  exact ⟨none, 0, rfl, bbs_nil _, HBL1.out⟩
set_option maxRecDepth 100000 in
set_option maxHeartbeats 1600000 in
theorem rput_p2 (r : Rg) (hin : InR r) (E : Int) (p : List Nat) (hE : lputX r = (E, p)) (w : World) (h1 : okT r.t = true) (h2 : suitB r.t.uses r.left r.inn = false) : Calls Tryz.prog 28 #[.agg #[.int .i64 r.t.ser, .int .i64 r.t.kind, .int .i64 r.t.frm, .int .i64 r.t.till, .int .i64 r.t.cls, .int .i64 r.t.card, .int .i64 r.t.seat, .int .i64 r.t.day, .int .i64 r.t.days, .int .i64 r.t.uses, .int .i64 r.t.epoch, .int .i64 r.key, .int .i64 r.left, .int .i64 r.inn, .int .i64 r.ver]] w fun e w' => ∃ A c, e = .returned (.tuple #[.slice A (p.length : Nat) c, .int .i64 E]) ∧ Bs w' w'.heap.size p A c ∧ Below w.heap.size w w' := by
  have ha : argB r = false := by rw [argB, h1, h2]; rfl
  obtain ⟨rfl, rfl⟩ : E = 1 ∧ p = [] := by have := hE; rw [lput_arg ha] at this; exact ⟨(Prod.mk.inj this).1.symm, (Prod.mk.inj this).2.symm⟩
  clear hE
  have H1 := Lib.hid h1
  have H2 := Lib.hid h2
  clear h1 h2 ha
  obtain ⟨w0, hw0⟩ : ∃ w0, w0 = (w.alloc (.cells #[.int .i64 r.t.ser, .int .i64 r.t.kind, .int .i64 r.t.frm, .int .i64 r.t.till, .int .i64 r.t.cls, .int .i64 r.t.card, .int .i64 r.t.seat, .int .i64 r.t.day, .int .i64 r.t.days, .int .i64 r.t.uses, .int .i64 r.t.epoch, .int .i64 r.key, .int .i64 r.left, .int .i64 r.inn, .int .i64 r.ver] 28)).alloc (.cells #[.int .i64 r.t.ser, .int .i64 r.t.kind, .int .i64 r.t.frm, .int .i64 r.t.till, .int .i64 r.t.cls, .int .i64 r.t.card, .int .i64 r.t.seat, .int .i64 r.t.day, .int .i64 r.t.days, .int .i64 r.t.uses, .int .i64 r.t.epoch] 24) := ⟨_, rfl⟩
  have HX : Hid (RBox w0 w.heap.size r) := Lib.hid (by rw [hw0]; exact (RBox.new w r).alloc _)
  have HT : Hid (TBox w0 (w.heap.size + 1) r.t) := Lib.hid (by rw [hw0, show w.heap.size + 1 = (w.alloc (.cells #[.int .i64 r.t.ser, .int .i64 r.t.kind, .int .i64 r.t.frm, .int .i64 r.t.till, .int .i64 r.t.cls, .int .i64 r.t.card, .int .i64 r.t.seat, .int .i64 r.t.day, .int .i64 r.t.days, .int .i64 r.t.uses, .int .i64 r.t.epoch, .int .i64 r.key, .int .i64 r.left, .int .i64 r.inn, .int .i64 r.ver] 28)).heap.size by simp]; exact TBox.new _ r.t)
  have HBL : Hid (Below w.heap.size w w0) := Lib.hid (by rw [hw0]; exact ((Below.refl _ _).alloc (Nat.le_refl _) _).alloc (by simp) _)
  have HW := Lib.hid hw0
  clear hw0
  go_enter Tryz.func28, Tryz.ntmps28
  go_wp2_with fail
  rw [← HW.out]
  obtain ⟨e0, e1, e2, e3, e4, e5, e6, e7, e8, e9, e10⟩ := HT.out.cells
  go_wp2_with (first | (go_at_call 69; refine (refis9_any r.t _ H1.out _).mono ?_; rintro e w1 ⟨rfl, hb⟩; clear e0 e1 e2 e3 e4 e5 e6 e7 e8 e9 e10; have HX1 := Lib.hid (HX.out.next hb); have HT1 := Lib.hid (HT.out.next hb); have HBL1 := Lib.hid (HBL.out.trans (hb.mono HBL.out.size)); clear hb; obtain ⟨c0, c1, c2, c3, c4, c5, c6, c7, c8, c9, c10⟩ := HT1.out.cells; obtain ⟨b0, b1, b2, b3, b4, b5, b6, b7, b8, b9, b10, b11, b12, b13, b14⟩ := HX1.out.cells) | (go_at_call 70; refine (rsuits_any r.t r.left r.inn _ H2.out _).mono ?_; rintro e w2 ⟨rfl, hb⟩; clear c0 c1 c2 c3 c4 c5 c6 c7 c8 c9 c10 b0 b1 b2 b3 b4 b5 b6 b7 b8 b9 b10 b11 b12 b13 b14; have HX2 := Lib.hid (HX1.out.next hb); have HT2 := Lib.hid (HT1.out.next hb); have HBL2 := Lib.hid (HBL1.out.trans (hb.mono HBL1.out.size)); clear hb; obtain ⟨c0, c1, c2, c3, c4, c5, c6, c7, c8, c9, c10⟩ := HT2.out.cells; obtain ⟨b0, b1, b2, b3, b4, b5, b6, b7, b8, b9, b10, b11, b12, b13, b14⟩ := HX2.out.cells))
  go_ret2
  exact ⟨none, 0, rfl, bbs_nil _, HBL2.out⟩
set_option maxRecDepth 100000 in
set_option maxHeartbeats 1600000 in
theorem rput_p3 (r : Rg) (hin : InR r) (E : Int) (p : List Nat) (hE : lputX r = (E, p)) (w : World) (h1 : okT r.t = true) (h2 : suitB r.t.uses r.left r.inn = true) (h3 : r.key < 0) : Calls Tryz.prog 28 #[.agg #[.int .i64 r.t.ser, .int .i64 r.t.kind, .int .i64 r.t.frm, .int .i64 r.t.till, .int .i64 r.t.cls, .int .i64 r.t.card, .int .i64 r.t.seat, .int .i64 r.t.day, .int .i64 r.t.days, .int .i64 r.t.uses, .int .i64 r.t.epoch, .int .i64 r.key, .int .i64 r.left, .int .i64 r.inn, .int .i64 r.ver]] w fun e w' => ∃ A c, e = .returned (.tuple #[.slice A (p.length : Nat) c, .int .i64 E]) ∧ Bs w' w'.heap.size p A c ∧ Below w.heap.size w w' := by
  have ha : argB r = false := by cases h : argB r with | false => rfl | true => (have := (argB_iff r).1 h; omega)
  obtain ⟨rfl, rfl⟩ : E = 1 ∧ p = [] := by have := hE; rw [lput_arg ha] at this; exact ⟨(Prod.mk.inj this).1.symm, (Prod.mk.inj this).2.symm⟩
  clear hE
  have H1 := Lib.hid h1
  have H2 := Lib.hid h2
  have q3 : decide (r.key < 0) = true := decide_eq_true h3
  clear h1 h2 h3 ha
  obtain ⟨w0, hw0⟩ : ∃ w0, w0 = (w.alloc (.cells #[.int .i64 r.t.ser, .int .i64 r.t.kind, .int .i64 r.t.frm, .int .i64 r.t.till, .int .i64 r.t.cls, .int .i64 r.t.card, .int .i64 r.t.seat, .int .i64 r.t.day, .int .i64 r.t.days, .int .i64 r.t.uses, .int .i64 r.t.epoch, .int .i64 r.key, .int .i64 r.left, .int .i64 r.inn, .int .i64 r.ver] 28)).alloc (.cells #[.int .i64 r.t.ser, .int .i64 r.t.kind, .int .i64 r.t.frm, .int .i64 r.t.till, .int .i64 r.t.cls, .int .i64 r.t.card, .int .i64 r.t.seat, .int .i64 r.t.day, .int .i64 r.t.days, .int .i64 r.t.uses, .int .i64 r.t.epoch] 24) := ⟨_, rfl⟩
  have HX : Hid (RBox w0 w.heap.size r) := Lib.hid (by rw [hw0]; exact (RBox.new w r).alloc _)
  have HT : Hid (TBox w0 (w.heap.size + 1) r.t) := Lib.hid (by rw [hw0, show w.heap.size + 1 = (w.alloc (.cells #[.int .i64 r.t.ser, .int .i64 r.t.kind, .int .i64 r.t.frm, .int .i64 r.t.till, .int .i64 r.t.cls, .int .i64 r.t.card, .int .i64 r.t.seat, .int .i64 r.t.day, .int .i64 r.t.days, .int .i64 r.t.uses, .int .i64 r.t.epoch, .int .i64 r.key, .int .i64 r.left, .int .i64 r.inn, .int .i64 r.ver] 28)).heap.size by simp]; exact TBox.new _ r.t)
  have HBL : Hid (Below w.heap.size w w0) := Lib.hid (by rw [hw0]; exact ((Below.refl _ _).alloc (Nat.le_refl _) _).alloc (by simp) _)
  have HW := Lib.hid hw0
  clear hw0
  go_enter Tryz.func28, Tryz.ntmps28
  go_wp2_with fail
  rw [← HW.out]
  obtain ⟨e0, e1, e2, e3, e4, e5, e6, e7, e8, e9, e10⟩ := HT.out.cells
  go_wp2_with (first | (go_at_call 69; refine (refis9_any r.t _ H1.out _).mono ?_; rintro e w1 ⟨rfl, hb⟩; clear e0 e1 e2 e3 e4 e5 e6 e7 e8 e9 e10; have HX1 := Lib.hid (HX.out.next hb); have HT1 := Lib.hid (HT.out.next hb); have HBL1 := Lib.hid (HBL.out.trans (hb.mono HBL.out.size)); clear hb; obtain ⟨c0, c1, c2, c3, c4, c5, c6, c7, c8, c9, c10⟩ := HT1.out.cells; obtain ⟨b0, b1, b2, b3, b4, b5, b6, b7, b8, b9, b10, b11, b12, b13, b14⟩ := HX1.out.cells) | (go_at_call 70; refine (rsuits_any r.t r.left r.inn _ H2.out _).mono ?_; rintro e w2 ⟨rfl, hb⟩; clear c0 c1 c2 c3 c4 c5 c6 c7 c8 c9 c10 b0 b1 b2 b3 b4 b5 b6 b7 b8 b9 b10 b11 b12 b13 b14; have HX2 := Lib.hid (HX1.out.next hb); have HT2 := Lib.hid (HT1.out.next hb); have HBL2 := Lib.hid (HBL1.out.trans (hb.mono HBL1.out.size)); clear hb; obtain ⟨c0, c1, c2, c3, c4, c5, c6, c7, c8, c9, c10⟩ := HT2.out.cells; obtain ⟨b0, b1, b2, b3, b4, b5, b6, b7, b8, b9, b10, b11, b12, b13, b14⟩ := HX2.out.cells))
  go_ret2
  exact ⟨none, 0, rfl, bbs_nil _, HBL2.out⟩
set_option maxRecDepth 100000 in
set_option maxHeartbeats 1600000 in
theorem rput_p3b (r : Rg) (hin : InR r) (E : Int) (p : List Nat) (hE : lputX r = (E, p)) (w : World) (h1 : okT r.t = true) (h2 : suitB r.t.uses r.left r.inn = true) (h3 : 99 < r.key) : Calls Tryz.prog 28 #[.agg #[.int .i64 r.t.ser, .int .i64 r.t.kind, .int .i64 r.t.frm, .int .i64 r.t.till, .int .i64 r.t.cls, .int .i64 r.t.card, .int .i64 r.t.seat, .int .i64 r.t.day, .int .i64 r.t.days, .int .i64 r.t.uses, .int .i64 r.t.epoch, .int .i64 r.key, .int .i64 r.left, .int .i64 r.inn, .int .i64 r.ver]] w fun e w' => ∃ A c, e = .returned (.tuple #[.slice A (p.length : Nat) c, .int .i64 E]) ∧ Bs w' w'.heap.size p A c ∧ Below w.heap.size w w' := by
  have ha : argB r = false := by cases h : argB r with | false => rfl | true => (have := (argB_iff r).1 h; omega)
  obtain ⟨rfl, rfl⟩ : E = 1 ∧ p = [] := by have := hE; rw [lput_arg ha] at this; exact ⟨(Prod.mk.inj this).1.symm, (Prod.mk.inj this).2.symm⟩
  clear hE
  have H1 := Lib.hid h1
  have H2 := Lib.hid h2
  have q3 : decide (r.key < 0) = false := decide_eq_false (by omega)
  have q3' : decide (99 < r.key) = true := decide_eq_true h3
  clear h1 h2 h3 ha
  obtain ⟨w0, hw0⟩ : ∃ w0, w0 = (w.alloc (.cells #[.int .i64 r.t.ser, .int .i64 r.t.kind, .int .i64 r.t.frm, .int .i64 r.t.till, .int .i64 r.t.cls, .int .i64 r.t.card, .int .i64 r.t.seat, .int .i64 r.t.day, .int .i64 r.t.days, .int .i64 r.t.uses, .int .i64 r.t.epoch, .int .i64 r.key, .int .i64 r.left, .int .i64 r.inn, .int .i64 r.ver] 28)).alloc (.cells #[.int .i64 r.t.ser, .int .i64 r.t.kind, .int .i64 r.t.frm, .int .i64 r.t.till, .int .i64 r.t.cls, .int .i64 r.t.card, .int .i64 r.t.seat, .int .i64 r.t.day, .int .i64 r.t.days, .int .i64 r.t.uses, .int .i64 r.t.epoch] 24) := ⟨_, rfl⟩
  have HX : Hid (RBox w0 w.heap.size r) := Lib.hid (by rw [hw0]; exact (RBox.new w r).alloc _)
  have HT : Hid (TBox w0 (w.heap.size + 1) r.t) := Lib.hid (by rw [hw0, show w.heap.size + 1 = (w.alloc (.cells #[.int .i64 r.t.ser, .int .i64 r.t.kind, .int .i64 r.t.frm, .int .i64 r.t.till, .int .i64 r.t.cls, .int .i64 r.t.card, .int .i64 r.t.seat, .int .i64 r.t.day, .int .i64 r.t.days, .int .i64 r.t.uses, .int .i64 r.t.epoch, .int .i64 r.key, .int .i64 r.left, .int .i64 r.inn, .int .i64 r.ver] 28)).heap.size by simp]; exact TBox.new _ r.t)
  have HBL : Hid (Below w.heap.size w w0) := Lib.hid (by rw [hw0]; exact ((Below.refl _ _).alloc (Nat.le_refl _) _).alloc (by simp) _)
  have HW := Lib.hid hw0
  clear hw0
  go_enter Tryz.func28, Tryz.ntmps28
  go_wp2_with fail
  rw [← HW.out]
  obtain ⟨e0, e1, e2, e3, e4, e5, e6, e7, e8, e9, e10⟩ := HT.out.cells
  go_wp2_with (first | (go_at_call 69; refine (refis9_any r.t _ H1.out _).mono ?_; rintro e w1 ⟨rfl, hb⟩; clear e0 e1 e2 e3 e4 e5 e6 e7 e8 e9 e10; have HX1 := Lib.hid (HX.out.next hb); have HT1 := Lib.hid (HT.out.next hb); have HBL1 := Lib.hid (HBL.out.trans (hb.mono HBL.out.size)); clear hb; obtain ⟨c0, c1, c2, c3, c4, c5, c6, c7, c8, c9, c10⟩ := HT1.out.cells; obtain ⟨b0, b1, b2, b3, b4, b5, b6, b7, b8, b9, b10, b11, b12, b13, b14⟩ := HX1.out.cells) | (go_at_call 70; refine (rsuits_any r.t r.left r.inn _ H2.out _).mono ?_; rintro e w2 ⟨rfl, hb⟩; clear c0 c1 c2 c3 c4 c5 c6 c7 c8 c9 c10 b0 b1 b2 b3 b4 b5 b6 b7 b8 b9 b10 b11 b12 b13 b14; have HX2 := Lib.hid (HX1.out.next hb); have HT2 := Lib.hid (HT1.out.next hb); have HBL2 := Lib.hid (HBL1.out.trans (hb.mono HBL1.out.size)); clear hb; obtain ⟨c0, c1, c2, c3, c4, c5, c6, c7, c8, c9, c10⟩ := HT2.out.cells; obtain ⟨b0, b1, b2, b3, b4, b5, b6, b7, b8, b9, b10, b11, b12, b13, b14⟩ := HX2.out.cells))
  go_ret2
  exact ⟨none, 0, rfl, bbs_nil _, HBL2.out⟩
set_option maxRecDepth 100000 in
set_option maxHeartbeats 1600000 in
theorem rput_p4 (r : Rg) (hin : InR r) (E : Int) (p : List Nat) (hE : lputX r = (E, p)) (w : World) (h1 : okT r.t = true) (h2 : suitB r.t.uses r.left r.inn = true) (h3 : ¬ r.key < 0) (h3b : ¬ 99 < r.key) (h4 : r.ver ≠ 0) : Calls Tryz.prog 28 #[.agg #[.int .i64 r.t.ser, .int .i64 r.t.kind, .int .i64 r.t.frm, .int .i64 r.t.till, .int .i64 r.t.cls, .int .i64 r.t.card, .int .i64 r.t.seat, .int .i64 r.t.day, .int .i64 r.t.days, .int .i64 r.t.uses, .int .i64 r.t.epoch, .int .i64 r.key, .int .i64 r.left, .int .i64 r.inn, .int .i64 r.ver]] w fun e w' => ∃ A c, e = .returned (.tuple #[.slice A (p.length : Nat) c, .int .i64 E]) ∧ Bs w' w'.heap.size p A c ∧ Below w.heap.size w w' := by
  have ha : argB r = false := by cases h : argB r with | false => rfl | true => (have := (argB_iff r).1 h; omega)
  obtain ⟨rfl, rfl⟩ : E = 1 ∧ p = [] := by have := hE; rw [lput_arg ha] at this; exact ⟨(Prod.mk.inj this).1.symm, (Prod.mk.inj this).2.symm⟩
  clear hE
  have H1 := Lib.hid h1
  have H2 := Lib.hid h2
  have q3 : decide (r.key < 0) = false := decide_eq_false h3
  have q3' : decide (99 < r.key) = false := decide_eq_false h3b
  have q4 : (r.ver != 0) = true := by rw [bne_iff_ne]; exact h4
  clear h1 h2 h3 h3b h4 ha
  obtain ⟨w0, hw0⟩ : ∃ w0, w0 = (w.alloc (.cells #[.int .i64 r.t.ser, .int .i64 r.t.kind, .int .i64 r.t.frm, .int .i64 r.t.till, .int .i64 r.t.cls, .int .i64 r.t.card, .int .i64 r.t.seat, .int .i64 r.t.day, .int .i64 r.t.days, .int .i64 r.t.uses, .int .i64 r.t.epoch, .int .i64 r.key, .int .i64 r.left, .int .i64 r.inn, .int .i64 r.ver] 28)).alloc (.cells #[.int .i64 r.t.ser, .int .i64 r.t.kind, .int .i64 r.t.frm, .int .i64 r.t.till, .int .i64 r.t.cls, .int .i64 r.t.card, .int .i64 r.t.seat, .int .i64 r.t.day, .int .i64 r.t.days, .int .i64 r.t.uses, .int .i64 r.t.epoch] 24) := ⟨_, rfl⟩
  have HX : Hid (RBox w0 w.heap.size r) := Lib.hid (by rw [hw0]; exact (RBox.new w r).alloc _)
  have HT : Hid (TBox w0 (w.heap.size + 1) r.t) := Lib.hid (by rw [hw0, show w.heap.size + 1 = (w.alloc (.cells #[.int .i64 r.t.ser, .int .i64 r.t.kind, .int .i64 r.t.frm, .int .i64 r.t.till, .int .i64 r.t.cls, .int .i64 r.t.card, .int .i64 r.t.seat, .int .i64 r.t.day, .int .i64 r.t.days, .int .i64 r.t.uses, .int .i64 r.t.epoch, .int .i64 r.key, .int .i64 r.left, .int .i64 r.inn, .int .i64 r.ver] 28)).heap.size by simp]; exact TBox.new _ r.t)
  have HBL : Hid (Below w.heap.size w w0) := Lib.hid (by rw [hw0]; exact ((Below.refl _ _).alloc (Nat.le_refl _) _).alloc (by simp) _)
  have HW := Lib.hid hw0
  clear hw0
  go_enter Tryz.func28, Tryz.ntmps28
  go_wp2_with fail
  rw [← HW.out]
  obtain ⟨e0, e1, e2, e3, e4, e5, e6, e7, e8, e9, e10⟩ := HT.out.cells
  go_wp2_with (first | (go_at_call 69; refine (refis9_any r.t _ H1.out _).mono ?_; rintro e w1 ⟨rfl, hb⟩; clear e0 e1 e2 e3 e4 e5 e6 e7 e8 e9 e10; have HX1 := Lib.hid (HX.out.next hb); have HT1 := Lib.hid (HT.out.next hb); have HBL1 := Lib.hid (HBL.out.trans (hb.mono HBL.out.size)); clear hb; obtain ⟨c0, c1, c2, c3, c4, c5, c6, c7, c8, c9, c10⟩ := HT1.out.cells; obtain ⟨b0, b1, b2, b3, b4, b5, b6, b7, b8, b9, b10, b11, b12, b13, b14⟩ := HX1.out.cells) | (go_at_call 70; refine (rsuits_any r.t r.left r.inn _ H2.out _).mono ?_; rintro e w2 ⟨rfl, hb⟩; clear c0 c1 c2 c3 c4 c5 c6 c7 c8 c9 c10 b0 b1 b2 b3 b4 b5 b6 b7 b8 b9 b10 b11 b12 b13 b14; have HX2 := Lib.hid (HX1.out.next hb); have HT2 := Lib.hid (HT1.out.next hb); have HBL2 := Lib.hid (HBL1.out.trans (hb.mono HBL1.out.size)); clear hb; obtain ⟨c0, c1, c2, c3, c4, c5, c6, c7, c8, c9, c10⟩ := HT2.out.cells; obtain ⟨b0, b1, b2, b3, b4, b5, b6, b7, b8, b9, b10, b11, b12, b13, b14⟩ := HX2.out.cells))
  go_ret2
  exact ⟨none, 0, rfl, bbs_nil _, HBL2.out⟩
set_option maxRecDepth 100000 in
set_option maxHeartbeats 1600000 in
theorem rput_p5 (r : Rg) (hin : InR r) (E : Int) (p : List Nat) (hE : lputX r = (E, p)) (w : World) (ha : argB r = true) (h5 : r.t.seat ≠ 0) : Calls Tryz.prog 28 #[.agg #[.int .i64 r.t.ser, .int .i64 r.t.kind, .int .i64 r.t.frm, .int .i64 r.t.till, .int .i64 r.t.cls, .int .i64 r.t.card, .int .i64 r.t.seat, .int .i64 r.t.day, .int .i64 r.t.days, .int .i64 r.t.uses, .int .i64 r.t.epoch, .int .i64 r.key, .int .i64 r.left, .int .i64 r.inn, .int .i64 r.ver]] w fun e w' => ∃ A c, e = .returned (.tuple #[.slice A (p.length : Nat) c, .int .i64 E]) ∧ Bs w' w'.heap.size p A c ∧ Below w.heap.size w w' := by
  have hf : fitB r = false := by cases h : fitB r with | false => rfl | true => exact (h5 ((fitB_iff r).1 h).1).elim
  obtain ⟨rfl, rfl⟩ : E = 18 ∧ p = [] := by have := hE; rw [lput_fit ha hf] at this; exact ⟨(Prod.mk.inj this).1.symm, (Prod.mk.inj this).2.symm⟩
  clear hE
  obtain ⟨h1, h2, h3, h3', h4⟩ := (argB_iff r).1 ha
  have H1 := Lib.hid h1
  have H2 := Lib.hid h2
  have q3 : decide (r.key < 0) = false := decide_eq_false (by omega)
  have q3' : decide (99 < r.key) = false := decide_eq_false (by omega)
  have q4 : (r.ver != 0) = false := by rw [h4]; rfl
  have q4' : (r.ver == 0) = true := by rw [h4]; rfl
  clear h1 h2 h3 h3' h4
  have q5 : (r.t.seat != 0) = true := by rw [bne_iff_ne]; exact h5
  clear ha hf h5
  obtain ⟨w0, hw0⟩ : ∃ w0, w0 = (w.alloc (.cells #[.int .i64 r.t.ser, .int .i64 r.t.kind, .int .i64 r.t.frm, .int .i64 r.t.till, .int .i64 r.t.cls, .int .i64 r.t.card, .int .i64 r.t.seat, .int .i64 r.t.day, .int .i64 r.t.days, .int .i64 r.t.uses, .int .i64 r.t.epoch, .int .i64 r.key, .int .i64 r.left, .int .i64 r.inn, .int .i64 r.ver] 28)).alloc (.cells #[.int .i64 r.t.ser, .int .i64 r.t.kind, .int .i64 r.t.frm, .int .i64 r.t.till, .int .i64 r.t.cls, .int .i64 r.t.card, .int .i64 r.t.seat, .int .i64 r.t.day, .int .i64 r.t.days, .int .i64 r.t.uses, .int .i64 r.t.epoch] 24) := ⟨_, rfl⟩
  have HX : Hid (RBox w0 w.heap.size r) := Lib.hid (by rw [hw0]; exact (RBox.new w r).alloc _)
  have HT : Hid (TBox w0 (w.heap.size + 1) r.t) := Lib.hid (by rw [hw0, show w.heap.size + 1 = (w.alloc (.cells #[.int .i64 r.t.ser, .int .i64 r.t.kind, .int .i64 r.t.frm, .int .i64 r.t.till, .int .i64 r.t.cls, .int .i64 r.t.card, .int .i64 r.t.seat, .int .i64 r.t.day, .int .i64 r.t.days, .int .i64 r.t.uses, .int .i64 r.t.epoch, .int .i64 r.key, .int .i64 r.left, .int .i64 r.inn, .int .i64 r.ver] 28)).heap.size by simp]; exact TBox.new _ r.t)
  have HBL : Hid (Below w.heap.size w w0) := Lib.hid (by rw [hw0]; exact ((Below.refl _ _).alloc (Nat.le_refl _) _).alloc (by simp) _)
  have HW := Lib.hid hw0
  clear hw0
  go_enter Tryz.func28, Tryz.ntmps28
  go_wp2_with fail
  rw [← HW.out]
  obtain ⟨e0, e1, e2, e3, e4, e5, e6, e7, e8, e9, e10⟩ := HT.out.cells
  go_wp2_with (first | (go_at_call 69; refine (refis9_any r.t _ H1.out _).mono ?_; rintro e w1 ⟨rfl, hb⟩; clear e0 e1 e2 e3 e4 e5 e6 e7 e8 e9 e10; have HX1 := Lib.hid (HX.out.next hb); have HT1 := Lib.hid (HT.out.next hb); have HBL1 := Lib.hid (HBL.out.trans (hb.mono HBL.out.size)); clear hb; obtain ⟨c0, c1, c2, c3, c4, c5, c6, c7, c8, c9, c10⟩ := HT1.out.cells; obtain ⟨b0, b1, b2, b3, b4, b5, b6, b7, b8, b9, b10, b11, b12, b13, b14⟩ := HX1.out.cells) | (go_at_call 70; refine (rsuits_any r.t r.left r.inn _ H2.out _).mono ?_; rintro e w2 ⟨rfl, hb⟩; clear c0 c1 c2 c3 c4 c5 c6 c7 c8 c9 c10 b0 b1 b2 b3 b4 b5 b6 b7 b8 b9 b10 b11 b12 b13 b14; have HX2 := Lib.hid (HX1.out.next hb); have HT2 := Lib.hid (HT1.out.next hb); have HBL2 := Lib.hid (HBL1.out.trans (hb.mono HBL1.out.size)); clear hb; obtain ⟨c0, c1, c2, c3, c4, c5, c6, c7, c8, c9, c10⟩ := HT2.out.cells; obtain ⟨b0, b1, b2, b3, b4, b5, b6, b7, b8, b9, b10, b11, b12, b13, b14⟩ := HX2.out.cells))
  go_ret2
  exact ⟨none, 0, rfl, bbs_nil _, HBL2.out⟩
set_option maxRecDepth 100000 in
set_option maxHeartbeats 1600000 in
theorem rput_p6 (r : Rg) (hin : InR r) (E : Int) (p : List Nat) (hE : lputX r = (E, p)) (w : World) (ha : argB r = true) (h5 : r.t.seat = 0) (h6 : 9999999 < r.t.ser) : Calls Tryz.prog 28 #[.agg #[.int .i64 r.t.ser, .int .i64 r.t.kind, .int .i64 r.t.frm, .int .i64 r.t.till, .int .i64 r.t.cls, .int .i64 r.t.card, .int .i64 r.t.seat, .int .i64 r.t.day, .int .i64 r.t.days, .int .i64 r.t.uses, .int .i64 r.t.epoch, .int .i64 r.key, .int .i64 r.left, .int .i64 r.inn, .int .i64 r.ver]] w fun e w' => ∃ A c, e = .returned (.tuple #[.slice A (p.length : Nat) c, .int .i64 E]) ∧ Bs w' w'.heap.size p A c ∧ Below w.heap.size w w' := by
  have hf : fitB r = false := by cases h : fitB r with | false => rfl | true => (have := ((fitB_iff r).1 h).2; omega)
  obtain ⟨rfl, rfl⟩ : E = 18 ∧ p = [] := by have := hE; rw [lput_fit ha hf] at this; exact ⟨(Prod.mk.inj this).1.symm, (Prod.mk.inj this).2.symm⟩
  clear hE
  obtain ⟨h1, h2, h3, h3', h4⟩ := (argB_iff r).1 ha
  have H1 := Lib.hid h1
  have H2 := Lib.hid h2
  have q3 : decide (r.key < 0) = false := decide_eq_false (by omega)
  have q3' : decide (99 < r.key) = false := decide_eq_false (by omega)
  have q4 : (r.ver != 0) = false := by rw [h4]; rfl
  have q4' : (r.ver == 0) = true := by rw [h4]; rfl
  clear h1 h2 h3 h3' h4
  have q5 : (r.t.seat != 0) = false := by rw [h5]; rfl
  have q6 : decide (9999999 < r.t.ser) = true := decide_eq_true h6
  clear ha hf h5
  obtain ⟨w0, hw0⟩ : ∃ w0, w0 = (w.alloc (.cells #[.int .i64 r.t.ser, .int .i64 r.t.kind, .int .i64 r.t.frm, .int .i64 r.t.till, .int .i64 r.t.cls, .int .i64 r.t.card, .int .i64 r.t.seat, .int .i64 r.t.day, .int .i64 r.t.days, .int .i64 r.t.uses, .int .i64 r.t.epoch, .int .i64 r.key, .int .i64 r.left, .int .i64 r.inn, .int .i64 r.ver] 28)).alloc (.cells #[.int .i64 r.t.ser, .int .i64 r.t.kind, .int .i64 r.t.frm, .int .i64 r.t.till, .int .i64 r.t.cls, .int .i64 r.t.card, .int .i64 r.t.seat, .int .i64 r.t.day, .int .i64 r.t.days, .int .i64 r.t.uses, .int .i64 r.t.epoch] 24) := ⟨_, rfl⟩
  have HX : Hid (RBox w0 w.heap.size r) := Lib.hid (by rw [hw0]; exact (RBox.new w r).alloc _)
  have HT : Hid (TBox w0 (w.heap.size + 1) r.t) := Lib.hid (by rw [hw0, show w.heap.size + 1 = (w.alloc (.cells #[.int .i64 r.t.ser, .int .i64 r.t.kind, .int .i64 r.t.frm, .int .i64 r.t.till, .int .i64 r.t.cls, .int .i64 r.t.card, .int .i64 r.t.seat, .int .i64 r.t.day, .int .i64 r.t.days, .int .i64 r.t.uses, .int .i64 r.t.epoch, .int .i64 r.key, .int .i64 r.left, .int .i64 r.inn, .int .i64 r.ver] 28)).heap.size by simp]; exact TBox.new _ r.t)
  have HBL : Hid (Below w.heap.size w w0) := Lib.hid (by rw [hw0]; exact ((Below.refl _ _).alloc (Nat.le_refl _) _).alloc (by simp) _)
  have HW := Lib.hid hw0
  clear hw0
  go_enter Tryz.func28, Tryz.ntmps28
  go_wp2_with fail
  rw [← HW.out]
  obtain ⟨e0, e1, e2, e3, e4, e5, e6, e7, e8, e9, e10⟩ := HT.out.cells
  go_wp2_with (first | (go_at_call 69; refine (refis9_any r.t _ H1.out _).mono ?_; rintro e w1 ⟨rfl, hb⟩; clear e0 e1 e2 e3 e4 e5 e6 e7 e8 e9 e10; have HX1 := Lib.hid (HX.out.next hb); have HT1 := Lib.hid (HT.out.next hb); have HBL1 := Lib.hid (HBL.out.trans (hb.mono HBL.out.size)); clear hb; obtain ⟨c0, c1, c2, c3, c4, c5, c6, c7, c8, c9, c10⟩ := HT1.out.cells; obtain ⟨b0, b1, b2, b3, b4, b5, b6, b7, b8, b9, b10, b11, b12, b13, b14⟩ := HX1.out.cells) | (go_at_call 70; refine (rsuits_any r.t r.left r.inn _ H2.out _).mono ?_; rintro e w2 ⟨rfl, hb⟩; clear c0 c1 c2 c3 c4 c5 c6 c7 c8 c9 c10 b0 b1 b2 b3 b4 b5 b6 b7 b8 b9 b10 b11 b12 b13 b14; have HX2 := Lib.hid (HX1.out.next hb); have HT2 := Lib.hid (HT1.out.next hb); have HBL2 := Lib.hid (HBL1.out.trans (hb.mono HBL1.out.size)); clear hb; obtain ⟨c0, c1, c2, c3, c4, c5, c6, c7, c8, c9, c10⟩ := HT2.out.cells; obtain ⟨b0, b1, b2, b3, b4, b5, b6, b7, b8, b9, b10, b11, b12, b13, b14⟩ := HX2.out.cells))
  go_ret2
  exact ⟨none, 0, rfl, bbs_nil _, HBL2.out⟩
end Go.Proofs.YtpniolinndlepaaGreatDoor
