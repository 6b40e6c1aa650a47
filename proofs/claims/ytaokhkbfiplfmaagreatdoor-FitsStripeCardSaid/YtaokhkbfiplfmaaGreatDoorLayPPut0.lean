/-
  Contract for the landed Put of layout. Conditions: the numbers fit an int.
  Contract for the landed Put of layout: what fits. Conditions: the numbers fit an int.
  Five bits in a box of their own. No program of its own; conditions: the block is there.
  Contracts for the reference's ones and Value. Conditions: none.
  Contract for the reference's Sum. Conditions: the slice reads as ints.
  Values as ints, characters as five bits; a box of five bits beside a row of bits. Conditions: none.
  Plain facts for Put and Get: the values as they are gathered, what is read step by step. No program here.
  Plain facts about counting and joining five bits. No program of its own; conditions: none.
  Contracts for the landed isValue and split. Conditions: none.
-/
import Derived.Test.YtaokhkbfiplfmaaGreatDoorApart
import Derived.Test.YtaokhkbfiplfmaaGreatDoorMacTag
import Derived.Test.YtaokhkbfiplfmaaGreatDoorTicketPRightK
import Derived.OwnWalk
import Derived.Test.YtaokhkbfiplfmaaGreatDoorMem
import Derived.Test.YtaokhkbfiplfmaaGreatDoorMath
import Derived.Test.YtaokhkbfiplfmaaGreatDoorFitsP
section
namespace Go.Proofs.YtaokhkbfiplfmaaGreatDoor
set_option linter.unusedVariables false
open Go.ChangeShapes Go.WideShapes Go.ChangeAt Go.RowKit

theorem lput_arg {r : Rg} (h : argB r = false) : lputX r = (1, []) := by rw [lputX, if_pos h]
theorem lput_fit {r : Rg} (h : argB r = true) (h2 : fitB r = false) : lputX r = (18, []) := by rw [lputX, if_neg (by rw [h]; decide), if_pos h2]
theorem lput_join {r : Rg} (h : argB r = true) (h2 : fitB r = true) : lputX r = joinX (valL r) (widL r.t.kind) := by rw [lputX, if_neg (by rw [h]; decide), if_neg (by rw [h2]; decide)]
set_option maxRecDepth 100000 in
set_option maxHeartbeats 1600000 in
theorem lput_p1 (r : Rg) (hin : InR r) (E : Int) (p : List Nat) (hE : lputX r = (E, p)) (w : World) (h1 : okT r.t = false) : Calls Tryz.prog 13 #[.agg #[.int .i64 r.t.ser, .int .i64 r.t.kind, .int .i64 r.t.frm, .int .i64 r.t.till, .int .i64 r.t.cls, .int .i64 r.t.card, .int .i64 r.t.seat, .int .i64 r.t.day, .int .i64 r.t.days, .int .i64 r.t.uses, .int .i64 r.t.epoch, .int .i64 r.key, .int .i64 r.left, .int .i64 r.inn, .int .i64 r.ver]] w fun e w' => ∃ A c, e = .returned (.tuple #[.slice A (p.length : Nat) c, .int .i64 E]) ∧ Bs w' w'.heap.size p A c ∧ Below w.heap.size w w' := by
  have ha : argB r = false := by rw [argB, h1]; rfl
  obtain ⟨rfl, rfl⟩ : E = 1 ∧ p = [] := by have := hE; rw [lput_arg ha] at this; exact ⟨(Prod.mk.inj this).1.symm, (Prod.mk.inj this).2.symm⟩
  clear hE
  have H1 := Lib.hid h1
  clear h1 ha
  obtain ⟨w0, hw0⟩ : ∃ w0, w0 = w.alloc (.cells #[.int .i64 r.t.ser, .int .i64 r.t.kind, .int .i64 r.t.frm, .int .i64 r.t.till, .int .i64 r.t.cls, .int .i64 r.t.card, .int .i64 r.t.seat, .int .i64 r.t.day, .int .i64 r.t.days, .int .i64 r.t.uses, .int .i64 r.t.epoch, .int .i64 r.key, .int .i64 r.left, .int .i64 r.inn, .int .i64 r.ver] 36) := ⟨_, rfl⟩
  have HX : Hid (RBox w0 w.heap.size r) := Lib.hid (by rw [hw0]; exact RBox.new w r)
  have HBL : Hid (Below w.heap.size w w0) := Lib.hid (by rw [hw0]; exact below_lit w _ _)
  have HW := Lib.hid hw0
  clear hw0
  go_enter Tryz.func13, Tryz.ntmps13
  go_wp2_with fail
  rw [← HW.out]
  obtain ⟨e0, e1, e2, e3, e4, e5, e6, e7, e8, e9, e10, e11, e12, e13, e14⟩ := HX.out.cells
  go_wp2_with (first | (go_at_call 17; refine (pis9_any r.t _ H1.out _).mono ?_; rintro e w1 ⟨rfl, hb⟩; clear e0 e1 e2 e3 e4 e5 e6 e7 e8 e9 e10 e11 e12 e13 e14; have HX1 := Lib.hid (HX.out.next hb); have HBL1 := Lib.hid (HBL.out.trans (hb.mono HBL.out.size)); clear hb; obtain ⟨c0, c1, c2, c3, c4, c5, c6, c7, c8, c9, c10, c11, c12, c13, c14⟩ := HX1.out.cells))
  go_ret2
  exact ⟨none, 0, rfl, bbs_nil _, HBL1.out⟩
set_option maxRecDepth 100000 in
set_option maxHeartbeats 1600000 in
theorem lput_p2 (r : Rg) (hin : InR r) (E : Int) (p : List Nat) (hE : lputX r = (E, p)) (w : World) (h1 : okT r.t = true) (h2 : suitB r.t.uses r.left r.inn = false) : Calls Tryz.prog 13 #[.agg #[.int .i64 r.t.ser, .int .i64 r.t.kind, .int .i64 r.t.frm, .int .i64 r.t.till, .int .i64 r.t.cls, .int .i64 r.t.card, .int .i64 r.t.seat, .int .i64 r.t.day, .int .i64 r.t.days, .int .i64 r.t.uses, .int .i64 r.t.epoch, .int .i64 r.key, .int .i64 r.left, .int .i64 r.inn, .int .i64 r.ver]] w fun e w' => ∃ A c, e = .returned (.tuple #[.slice A (p.length : Nat) c, .int .i64 E]) ∧ Bs w' w'.heap.size p A c ∧ Below w.heap.size w w' := by
  have ha : argB r = false := by rw [argB, h1, h2]; rfl
  obtain ⟨rfl, rfl⟩ : E = 1 ∧ p = [] := by have := hE; rw [lput_arg ha] at this; exact ⟨(Prod.mk.inj this).1.symm, (Prod.mk.inj this).2.symm⟩
  clear hE
  have H1 := Lib.hid h1
  have H2 := Lib.hid h2
  clear h1 h2 ha
  obtain ⟨w0, hw0⟩ : ∃ w0, w0 = w.alloc (.cells #[.int .i64 r.t.ser, .int .i64 r.t.kind, .int .i64 r.t.frm, .int .i64 r.t.till, .int .i64 r.t.cls, .int .i64 r.t.card, .int .i64 r.t.seat, .int .i64 r.t.day, .int .i64 r.t.days, .int .i64 r.t.uses, .int .i64 r.t.epoch, .int .i64 r.key, .int .i64 r.left, .int .i64 r.inn, .int .i64 r.ver] 36) := ⟨_, rfl⟩
  have HX : Hid (RBox w0 w.heap.size r) := Lib.hid (by rw [hw0]; exact RBox.new w r)
  have HBL : Hid (Below w.heap.size w w0) := Lib.hid (by rw [hw0]; exact below_lit w _ _)
  have HW := Lib.hid hw0
  clear hw0
  go_enter Tryz.func13, Tryz.ntmps13
  go_wp2_with fail
  rw [← HW.out]
  obtain ⟨e0, e1, e2, e3, e4, e5, e6, e7, e8, e9, e10, e11, e12, e13, e14⟩ := HX.out.cells
  go_wp2_with (first | (go_at_call 17; refine (pis9_any r.t _ H1.out _).mono ?_; rintro e w1 ⟨rfl, hb⟩; clear e0 e1 e2 e3 e4 e5 e6 e7 e8 e9 e10 e11 e12 e13 e14; have HX1 := Lib.hid (HX.out.next hb); have HBL1 := Lib.hid (HBL.out.trans (hb.mono HBL.out.size)); clear hb; obtain ⟨c0, c1, c2, c3, c4, c5, c6, c7, c8, c9, c10, c11, c12, c13, c14⟩ := HX1.out.cells) | (go_at_call 4; refine (psuits_any r.t r.left r.inn _ H2.out _).mono ?_; rintro e w2 ⟨rfl, hb⟩; have HX2 := Lib.hid (HX1.out.next hb); have HBL2 := Lib.hid (HBL1.out.trans (hb.mono HBL1.out.size)); clear hb c0 c1 c2 c3 c4 c5 c6 c7 c8 c9 c10 c11 c12 c13 c14; obtain ⟨d0, d1, d2, d3, d4, d5, d6, d7, d8, d9, d10, d11, d12, d13, d14⟩ := HX2.out.cells))
  go_ret2
  exact ⟨none, 0, rfl, bbs_nil _, HBL2.out⟩
set_option maxRecDepth 100000 in
set_option maxHeartbeats 1600000 in
theorem lput_p3 (r : Rg) (hin : InR r) (E : Int) (p : List Nat) (hE : lputX r = (E, p)) (w : World) (h1 : okT r.t = true) (h2 : suitB r.t.uses r.left r.inn = true) (h3 : (decide (0 ≤ r.key) && decide (r.key ≤ 99)) = false) : Calls Tryz.prog 13 #[.agg #[.int .i64 r.t.ser, .int .i64 r.t.kind, .int .i64 r.t.frm, .int .i64 r.t.till, .int .i64 r.t.cls, .int .i64 r.t.card, .int .i64 r.t.seat, .int .i64 r.t.day, .int .i64 r.t.days, .int .i64 r.t.uses, .int .i64 r.t.epoch, .int .i64 r.key, .int .i64 r.left, .int .i64 r.inn, .int .i64 r.ver]] w fun e w' => ∃ A c, e = .returned (.tuple #[.slice A (p.length : Nat) c, .int .i64 E]) ∧ Bs w' w'.heap.size p A c ∧ Below w.heap.size w w' := by
  have ha : argB r = false := by rw [argB, h1, h2, Bool.true_and, Bool.true_and, ← Bool.and_assoc, h3]; rfl
  obtain ⟨rfl, rfl⟩ : E = 1 ∧ p = [] := by have := hE; rw [lput_arg ha] at this; exact ⟨(Prod.mk.inj this).1.symm, (Prod.mk.inj this).2.symm⟩
  clear hE
  have H1 := Lib.hid h1
  have H2 := Lib.hid h2
  have H3 := Lib.hid h3
  clear h1 h2 h3 ha
  obtain ⟨w0, hw0⟩ : ∃ w0, w0 = w.alloc (.cells #[.int .i64 r.t.ser, .int .i64 r.t.kind, .int .i64 r.t.frm, .int .i64 r.t.till, .int .i64 r.t.cls, .int .i64 r.t.card, .int .i64 r.t.seat, .int .i64 r.t.day, .int .i64 r.t.days, .int .i64 r.t.uses, .int .i64 r.t.epoch, .int .i64 r.key, .int .i64 r.left, .int .i64 r.inn, .int .i64 r.ver] 36) := ⟨_, rfl⟩
  have HX : Hid (RBox w0 w.heap.size r) := Lib.hid (by rw [hw0]; exact RBox.new w r)
  have HBL : Hid (Below w.heap.size w w0) := Lib.hid (by rw [hw0]; exact below_lit w _ _)
  have HW := Lib.hid hw0
  clear hw0
  go_enter Tryz.func13, Tryz.ntmps13
  go_wp2_with fail
  rw [← HW.out]
  obtain ⟨e0, e1, e2, e3, e4, e5, e6, e7, e8, e9, e10, e11, e12, e13, e14⟩ := HX.out.cells
  go_wp2_with (first | (go_at_call 17; refine (pis9_any r.t _ H1.out _).mono ?_; rintro e w1 ⟨rfl, hb⟩; clear e0 e1 e2 e3 e4 e5 e6 e7 e8 e9 e10 e11 e12 e13 e14; have HX1 := Lib.hid (HX.out.next hb); have HBL1 := Lib.hid (HBL.out.trans (hb.mono HBL.out.size)); clear hb; obtain ⟨c0, c1, c2, c3, c4, c5, c6, c7, c8, c9, c10, c11, c12, c13, c14⟩ := HX1.out.cells) | (go_at_call 4; refine (psuits_any r.t r.left r.inn _ H2.out _).mono ?_; rintro e w2 ⟨rfl, hb⟩; have HX2 := Lib.hid (HX1.out.next hb); have HBL2 := Lib.hid (HBL1.out.trans (hb.mono HBL1.out.size)); clear hb c0 c1 c2 c3 c4 c5 c6 c7 c8 c9 c10 c11 c12 c13 c14; obtain ⟨d0, d1, d2, d3, d4, d5, d6, d7, d8, d9, d10, d11, d12, d13, d14⟩ := HX2.out.cells) | (go_at_call 8; refine (lwithin_any _ _ _ _ H3.out _).mono ?_; rintro e w3 ⟨rfl, rfl⟩))
  go_ret2
  exact ⟨none, 0, rfl, bbs_nil _, HBL2.out⟩
set_option maxRecDepth 100000 in
set_option maxHeartbeats 1600000 in
theorem lput_p4 (r : Rg) (hin : InR r) (E : Int) (p : List Nat) (hE : lputX r = (E, p)) (w : World) (h1 : okT r.t = true) (h2 : suitB r.t.uses r.left r.inn = true) (h3 : (decide (0 ≤ r.key) && decide (r.key ≤ 99)) = true) (h4 : r.ver ≠ 0) : Calls Tryz.prog 13 #[.agg #[.int .i64 r.t.ser, .int .i64 r.t.kind, .int .i64 r.t.frm, .int .i64 r.t.till, .int .i64 r.t.cls, .int .i64 r.t.card, .int .i64 r.t.seat, .int .i64 r.t.day, .int .i64 r.t.days, .int .i64 r.t.uses, .int .i64 r.t.epoch, .int .i64 r.key, .int .i64 r.left, .int .i64 r.inn, .int .i64 r.ver]] w fun e w' => ∃ A c, e = .returned (.tuple #[.slice A (p.length : Nat) c, .int .i64 E]) ∧ Bs w' w'.heap.size p A c ∧ Below w.heap.size w w' := by
  have ha : argB r = false := by cases h : argB r with | false => rfl | true => exact (h4 ((argB_iff r).1 h).2.2.2.2).elim
  obtain ⟨rfl, rfl⟩ : E = 1 ∧ p = [] := by have := hE; rw [lput_arg ha] at this; exact ⟨(Prod.mk.inj this).1.symm, (Prod.mk.inj this).2.symm⟩
  clear hE
  have H1 := Lib.hid h1
  have H2 := Lib.hid h2
  have H3 := Lib.hid h3
  have q4 : (r.ver != 0) = true := by rw [bne_iff_ne]; exact h4
  clear h1 h2 h3 h4 ha
  obtain ⟨w0, hw0⟩ : ∃ w0, w0 = w.alloc (.cells #[.int .i64 r.t.ser, .int .i64 r.t.kind, .int .i64 r.t.frm, .int .i64 r.t.till, .int .i64 r.t.cls, .int .i64 r.t.card, .int .i64 r.t.seat, .int .i64 r.t.day, .int .i64 r.t.days, .int .i64 r.t.uses, .int .i64 r.t.epoch, .int .i64 r.key, .int .i64 r.left, .int .i64 r.inn, .int .i64 r.ver] 36) := ⟨_, rfl⟩
  have HX : Hid (RBox w0 w.heap.size r) := Lib.hid (by rw [hw0]; exact RBox.new w r)
  have HBL : Hid (Below w.heap.size w w0) := Lib.hid (by rw [hw0]; exact below_lit w _ _)
  have HW := Lib.hid hw0
  clear hw0
  go_enter Tryz.func13, Tryz.ntmps13
  go_wp2_with fail
  rw [← HW.out]
  obtain ⟨e0, e1, e2, e3, e4, e5, e6, e7, e8, e9, e10, e11, e12, e13, e14⟩ := HX.out.cells
  go_wp2_with (first | (go_at_call 17; refine (pis9_any r.t _ H1.out _).mono ?_; rintro e w1 ⟨rfl, hb⟩; clear e0 e1 e2 e3 e4 e5 e6 e7 e8 e9 e10 e11 e12 e13 e14; have HX1 := Lib.hid (HX.out.next hb); have HBL1 := Lib.hid (HBL.out.trans (hb.mono HBL.out.size)); clear hb; obtain ⟨c0, c1, c2, c3, c4, c5, c6, c7, c8, c9, c10, c11, c12, c13, c14⟩ := HX1.out.cells) | (go_at_call 4; refine (psuits_any r.t r.left r.inn _ H2.out _).mono ?_; rintro e w2 ⟨rfl, hb⟩; have HX2 := Lib.hid (HX1.out.next hb); have HBL2 := Lib.hid (HBL1.out.trans (hb.mono HBL1.out.size)); clear hb c0 c1 c2 c3 c4 c5 c6 c7 c8 c9 c10 c11 c12 c13 c14; obtain ⟨d0, d1, d2, d3, d4, d5, d6, d7, d8, d9, d10, d11, d12, d13, d14⟩ := HX2.out.cells) | (go_at_call 8; refine (lwithin_any _ _ _ _ H3.out _).mono ?_; rintro e w3 ⟨rfl, rfl⟩))
  go_ret2
  exact ⟨none, 0, rfl, bbs_nil _, HBL2.out⟩
set_option maxRecDepth 100000 in
set_option maxHeartbeats 1600000 in
theorem lput_p5 (r : Rg) (hin : InR r) (E : Int) (p : List Nat) (hE : lputX r = (E, p)) (w : World) (ha : argB r = true) (h5 : r.t.seat ≠ 0) : Calls Tryz.prog 13 #[.agg #[.int .i64 r.t.ser, .int .i64 r.t.kind, .int .i64 r.t.frm, .int .i64 r.t.till, .int .i64 r.t.cls, .int .i64 r.t.card, .int .i64 r.t.seat, .int .i64 r.t.day, .int .i64 r.t.days, .int .i64 r.t.uses, .int .i64 r.t.epoch, .int .i64 r.key, .int .i64 r.left, .int .i64 r.inn, .int .i64 r.ver]] w fun e w' => ∃ A c, e = .returned (.tuple #[.slice A (p.length : Nat) c, .int .i64 E]) ∧ Bs w' w'.heap.size p A c ∧ Below w.heap.size w w' := by
  have hf : fitB r = false := by cases h : fitB r with | false => rfl | true => exact (h5 ((fitB_iff r).1 h).1).elim
  obtain ⟨rfl, rfl⟩ : E = 18 ∧ p = [] := by have := hE; rw [lput_fit ha hf] at this; exact ⟨(Prod.mk.inj this).1.symm, (Prod.mk.inj this).2.symm⟩
  clear hE
  obtain ⟨h1, h2, h3, h3', h4⟩ := (argB_iff r).1 ha
  have H1 := Lib.hid h1
  have H2 := Lib.hid h2
  have H3 := Lib.hid (show (decide (0 ≤ r.key) && decide (r.key ≤ 99)) = true by rw [decide_eq_true h3, decide_eq_true h3']; rfl)
  have q4 : (r.ver != 0) = false := by rw [h4]; rfl
  have q4' : (r.ver == 0) = true := by rw [h4]; rfl
  clear h1 h2 h3 h3' h4
  have q5 : (r.t.seat != 0) = true := by rw [bne_iff_ne]; exact h5
  clear ha hf h5
  obtain ⟨w0, hw0⟩ : ∃ w0, w0 = w.alloc (.cells #[.int .i64 r.t.ser, .int .i64 r.t.kind, .int .i64 r.t.frm, .int .i64 r.t.till, .int .i64 r.t.cls, .int .i64 r.t.card, .int .i64 r.t.seat, .int .i64 r.t.day, .int .i64 r.t.days, .int .i64 r.t.uses, .int .i64 r.t.epoch, .int .i64 r.key, .int .i64 r.left, .int .i64 r.inn, .int .i64 r.ver] 36) := ⟨_, rfl⟩
  have HX : Hid (RBox w0 w.heap.size r) := Lib.hid (by rw [hw0]; exact RBox.new w r)
  have HBL : Hid (Below w.heap.size w w0) := Lib.hid (by rw [hw0]; exact below_lit w _ _)
  have HW := Lib.hid hw0
  clear hw0
  go_enter Tryz.func13, Tryz.ntmps13
  go_wp2_with fail
  rw [← HW.out]
  obtain ⟨e0, e1, e2, e3, e4, e5, e6, e7, e8, e9, e10, e11, e12, e13, e14⟩ := HX.out.cells
  go_wp2_with (first | (go_at_call 17; refine (pis9_any r.t _ H1.out _).mono ?_; rintro e w1 ⟨rfl, hb⟩; clear e0 e1 e2 e3 e4 e5 e6 e7 e8 e9 e10 e11 e12 e13 e14; have HX1 := Lib.hid (HX.out.next hb); have HBL1 := Lib.hid (HBL.out.trans (hb.mono HBL.out.size)); clear hb; obtain ⟨c0, c1, c2, c3, c4, c5, c6, c7, c8, c9, c10, c11, c12, c13, c14⟩ := HX1.out.cells) | (go_at_call 4; refine (psuits_any r.t r.left r.inn _ H2.out _).mono ?_; rintro e w2 ⟨rfl, hb⟩; have HX2 := Lib.hid (HX1.out.next hb); have HBL2 := Lib.hid (HBL1.out.trans (hb.mono HBL1.out.size)); clear hb c0 c1 c2 c3 c4 c5 c6 c7 c8 c9 c10 c11 c12 c13 c14; obtain ⟨d0, d1, d2, d3, d4, d5, d6, d7, d8, d9, d10, d11, d12, d13, d14⟩ := HX2.out.cells) | (go_at_call 8; refine (lwithin_any _ _ _ _ H3.out _).mono ?_; rintro e w3 ⟨rfl, rfl⟩))
  go_ret2
  exact ⟨none, 0, rfl, bbs_nil _, HBL2.out⟩
set_option maxRecDepth 100000 in
set_option maxHeartbeats 1600000 in
theorem lput_p6 (r : Rg) (hin : InR r) (E : Int) (p : List Nat) (hE : lputX r = (E, p)) (w : World) (ha : argB r = true) (h5 : r.t.seat = 0) (h6 : 9999999 < r.t.ser) : Calls Tryz.prog 13 #[.agg #[.int .i64 r.t.ser, .int .i64 r.t.kind, .int .i64 r.t.frm, .int .i64 r.t.till, .int .i64 r.t.cls, .int .i64 r.t.card, .int .i64 r.t.seat, .int .i64 r.t.day, .int .i64 r.t.days, .int .i64 r.t.uses, .int .i64 r.t.epoch, .int .i64 r.key, .int .i64 r.left, .int .i64 r.inn, .int .i64 r.ver]] w fun e w' => ∃ A c, e = .returned (.tuple #[.slice A (p.length : Nat) c, .int .i64 E]) ∧ Bs w' w'.heap.size p A c ∧ Below w.heap.size w w' := by
  have hf : fitB r = false := by cases h : fitB r with | false => rfl | true => (have := ((fitB_iff r).1 h).2; omega)
  obtain ⟨rfl, rfl⟩ : E = 18 ∧ p = [] := by have := hE; rw [lput_fit ha hf] at this; exact ⟨(Prod.mk.inj this).1.symm, (Prod.mk.inj this).2.symm⟩
  clear hE
  obtain ⟨h1, h2, h3, h3', h4⟩ := (argB_iff r).1 ha
  have H1 := Lib.hid h1
  have H2 := Lib.hid h2
  have H3 := Lib.hid (show (decide (0 ≤ r.key) && decide (r.key ≤ 99)) = true by rw [decide_eq_true h3, decide_eq_true h3']; rfl)
  have q4 : (r.ver != 0) = false := by rw [h4]; rfl
  have q4' : (r.ver == 0) = true := by rw [h4]; rfl
  clear h1 h2 h3 h3' h4
  have q5 : (r.t.seat != 0) = false := by rw [h5]; rfl
  have q6 : decide (9999999 < r.t.ser) = true := decide_eq_true h6
  clear ha hf h5
  obtain ⟨w0, hw0⟩ : ∃ w0, w0 = w.alloc (.cells #[.int .i64 r.t.ser, .int .i64 r.t.kind, .int .i64 r.t.frm, .int .i64 r.t.till, .int .i64 r.t.cls, .int .i64 r.t.card, .int .i64 r.t.seat, .int .i64 r.t.day, .int .i64 r.t.days, .int .i64 r.t.uses, .int .i64 r.t.epoch, .int .i64 r.key, .int .i64 r.left, .int .i64 r.inn, .int .i64 r.ver] 36) := ⟨_, rfl⟩
  have HX : Hid (RBox w0 w.heap.size r) := Lib.hid (by rw [hw0]; exact RBox.new w r)
  have HBL : Hid (Below w.heap.size w w0) := Lib.hid (by rw [hw0]; exact below_lit w _ _)
  have HW := Lib.hid hw0
  clear hw0
  go_enter Tryz.func13, Tryz.ntmps13
  go_wp2_with fail
  rw [← HW.out]
  obtain ⟨e0, e1, e2, e3, e4, e5, e6, e7, e8, e9, e10, e11, e12, e13, e14⟩ := HX.out.cells
  go_wp2_with (first | (go_at_call 17; refine (pis9_any r.t _ H1.out _).mono ?_; rintro e w1 ⟨rfl, hb⟩; clear e0 e1 e2 e3 e4 e5 e6 e7 e8 e9 e10 e11 e12 e13 e14; have HX1 := Lib.hid (HX.out.next hb); have HBL1 := Lib.hid (HBL.out.trans (hb.mono HBL.out.size)); clear hb; obtain ⟨c0, c1, c2, c3, c4, c5, c6, c7, c8, c9, c10, c11, c12, c13, c14⟩ := HX1.out.cells) | (go_at_call 4; refine (psuits_any r.t r.left r.inn _ H2.out _).mono ?_; rintro e w2 ⟨rfl, hb⟩; have HX2 := Lib.hid (HX1.out.next hb); have HBL2 := Lib.hid (HBL1.out.trans (hb.mono HBL1.out.size)); clear hb c0 c1 c2 c3 c4 c5 c6 c7 c8 c9 c10 c11 c12 c13 c14; obtain ⟨d0, d1, d2, d3, d4, d5, d6, d7, d8, d9, d10, d11, d12, d13, d14⟩ := HX2.out.cells) | (go_at_call 8; refine (lwithin_any _ _ _ _ H3.out _).mono ?_; rintro e w3 ⟨rfl, rfl⟩))
  go_ret2
  exact ⟨none, 0, rfl, bbs_nil _, HBL2.out⟩
end Go.Proofs.YtaokhkbfiplfmaaGreatDoor
end
section
namespace Go.Proofs.YtaokhkbfiplfmaaGreatDoor
set_option linter.unusedVariables false
open Go.ChangeShapes Go.WideShapes Go.ChangeAt Go.RowKit

theorem own_other {a b : Value} (h : ∀ g, a.ownBlock = some g → b.ownBlock ≠ some g) : b.ownBlock = none ∨ b.ownBlock ≠ a.ownBlock := by
  cases hb : b.ownBlock with
  | none => exact .inl rfl
  | some g =>
    refine .inr fun e => ?_
    exact h g e.symm hb
theorem own_other' {a b : Value} (h : ∀ g, a.ownBlock = some g → b.ownBlock ≠ some g) : a.ownBlock = none ∨ a.ownBlock ≠ b.ownBlock := by
  cases ha : a.ownBlock with
  | none => exact .inl rfl
  | some g =>
    refine .inr fun e => ?_
    exact h g ha e.symm
/-- Two rows that stand side by side, one behind an append, stand side by side still. -/
theorem own_apart2 {w w5 : World} {base m size : Nat} {e : TypeId} {v v' u : Value} {ys : List Value} (hd : ∀ g, v'.ownBlock = some g → v.ownBlock = some g ∨ w5.heap.size ≤ g) (hu : w.ownsRow base e size u m ys) (hw : w.heap.size ≤ w5.heap.size) (h : ∀ g, v.ownBlock = some g → u.ownBlock ≠ some g) : ∀ g, v'.ownBlock = some g → u.ownBlock ≠ some g := by
  intro g hg hug
  rcases hd g hg with h1 | h1
  · exact h g h1 hug
  · have := own_lt hu hug
    omega
theorem own_apart3 {w w5 : World} {base m size : Nat} {e : TypeId} {v u' u : Value} {ys : List Value} (hd : ∀ g, u'.ownBlock = some g → u.ownBlock = some g ∨ w5.heap.size ≤ g) (hv : w.ownsRow base e size v m ys) (hw : w.heap.size ≤ w5.heap.size) (h : ∀ g, v.ownBlock = some g → u.ownBlock ≠ some g) : ∀ g, v.ownBlock = some g → u'.ownBlock ≠ some g := by
  intro g hg hug
  rcases hd g hug with h1 | h1
  · exact h g hg h1
  · have := own_lt hv hg
    omega
theorem fd_cell (w : World) (p : Value) (wd : Int) (o : Obj) : ((w.alloc (.cells #[p, .int .i64 wd] 57)).alloc o).cell? ⟨w.heap.size, 1, none⟩ = some (.int .i64 wd) := by
  rw [World.cell?_alloc_lt _ _ _ (by simp), cell_of_row _ _ 1 _ _ (0, 0) (heap_alloc_new w _)]
  rfl
theorem int_lit1 (w : World) (x : Int) : ∀ j u, ([.int .i64 x] : List Value)[j]? = some u → (w.alloc (.cells #[.int .i64 x] 3)).cell? ((⟨w.heap.size, 0, none⟩ : Addr).add j) = some u := bint_lit w x
set_option maxRecDepth 100000 in
set_option maxHeartbeats 1600000 in
theorem lput_yes (r : Rg) (hin : InR r) (E : Int) (p : List Nat) (hE : lputX r = (E, p)) (w : World) (ha : argB r = true) (hf : fitB r = true) : Calls Tryz.prog 13 #[.agg #[.int .i64 r.t.ser, .int .i64 r.t.kind, .int .i64 r.t.frm, .int .i64 r.t.till, .int .i64 r.t.cls, .int .i64 r.t.card, .int .i64 r.t.seat, .int .i64 r.t.day, .int .i64 r.t.days, .int .i64 r.t.uses, .int .i64 r.t.epoch, .int .i64 r.key, .int .i64 r.left, .int .i64 r.inn, .int .i64 r.ver]] w fun e w' => ∃ A c, e = .returned (.tuple #[.slice A (p.length : Nat) c, .int .i64 E]) ∧ Bs w' w'.heap.size p A c ∧ Below w.heap.size w w' := by
  rw [lput_join ha hf] at hE
  have HJ := Lib.hid hE
  have hk := kind_in ((argB_iff r).1 ha).1
  have hvl := valL_len hk
  obtain ⟨h1, h2, h3, h3', h4⟩ := (argB_iff r).1 ha
  have H1 := Lib.hid h1
  have H2 := Lib.hid h2
  have H3 := Lib.hid (show (decide (0 ≤ r.key) && decide (r.key ≤ 99)) = true by rw [decide_eq_true h3, decide_eq_true h3']; rfl)
  have q4 : (r.ver != 0) = false := by rw [h4]; rfl
  have q4' : (r.ver == 0) = true := by rw [h4]; rfl
  clear h1 h2 h3 h3' h4
  obtain ⟨h5, h6⟩ := (fitB_iff r).1 hf
  have q5 : (r.t.seat != 0) = false := by rw [h5]; rfl
  have q6 : decide (9999999 < r.t.ser) = false := decide_eq_false (by omega)
  have q5' : (r.t.seat == 0) = true := by rw [h5]; rfl
  have q6' : decide (r.t.ser ≤ 9999999) = true := decide_eq_true h6
  obtain ⟨n, hn⟩ : ∃ n, n = (widL r.t.kind).length := ⟨_, rfl⟩
  have h13 : n ≤ 13 := by rw [hn]; exact widL_le r.t.kind
  have hnf : n = (fieldsL r.t.kind).length := by rw [fieldsL_len, hn]
  have HN := Lib.hid hn
  have HF := Lib.hid hnf
  have HVL := Lib.hid hvl
  have HIN := Lib.hid hin
  have HK := Lib.hid hk
  obtain ⟨i0, hi, hz0, hz1, hz2⟩ := info_parts infoInt
  clear ha hf h5 h6 hE hvl hn hnf hin hk
  obtain ⟨w0, hw0⟩ : ∃ w0, w0 = w.alloc (.cells #[.int .i64 r.t.ser, .int .i64 r.t.kind, .int .i64 r.t.frm, .int .i64 r.t.till, .int .i64 r.t.cls, .int .i64 r.t.card, .int .i64 r.t.seat, .int .i64 r.t.day, .int .i64 r.t.days, .int .i64 r.t.uses, .int .i64 r.t.epoch, .int .i64 r.key, .int .i64 r.left, .int .i64 r.inn, .int .i64 r.ver] 36) := ⟨_, rfl⟩
  have HX : Hid (RBox w0 w.heap.size r) := Lib.hid (by rw [hw0]; exact RBox.new w r)
  have HBL : Hid (Below w.heap.size w w0) := Lib.hid (by rw [hw0]; exact below_lit w _ _)
  have HW := Lib.hid hw0
  clear hw0
  go_enter Tryz.func13, Tryz.ntmps13
  go_wp2_with fail
  rw [← HW.out]
  obtain ⟨e0, e1, e2, e3, e4, e5, e6, e7, e8, e9, e10, e11, e12, e13, e14⟩ := HX.out.cells
  go_wp2_with (first | (go_at_call 17; refine (pis9_any r.t _ H1.out _).mono ?_; rintro e w1 ⟨rfl, hb⟩; clear e0 e1 e2 e3 e4 e5 e6 e7 e8 e9 e10 e11 e12 e13 e14; have HX1 := Lib.hid (HX.out.next hb); have HBL1 := Lib.hid (HBL.out.trans (hb.mono HBL.out.size)); clear hb; obtain ⟨c0, c1, c2, c3, c4, c5, c6, c7, c8, c9, c10, c11, c12, c13, c14⟩ := HX1.out.cells) | (go_at_call 4; refine (psuits_any r.t r.left r.inn _ H2.out _).mono ?_; rintro e w2 ⟨rfl, hb⟩; have HX2 := Lib.hid (HX1.out.next hb); have HBL2 := Lib.hid (HBL1.out.trans (hb.mono HBL1.out.size)); clear hb c0 c1 c2 c3 c4 c5 c6 c7 c8 c9 c10 c11 c12 c13 c14; obtain ⟨d0, d1, d2, d3, d4, d5, d6, d7, d8, d9, d10, d11, d12, d13, d14⟩ := HX2.out.cells; have dk := (HX2.out.alloc (.cells #[.int .i64 r.t.ser, .int .i64 r.t.kind, .int .i64 r.t.frm, .int .i64 r.t.till, .int .i64 r.t.cls, .int .i64 r.t.card, .int .i64 r.t.seat, .int .i64 r.t.day, .int .i64 r.t.days, .int .i64 r.t.uses, .int .i64 r.t.epoch, .int .i64 r.key, .int .i64 r.left, .int .i64 r.inn, .int .i64 r.ver] 51)).cells.2.1) | (go_at_call 8; refine (lwithin_any _ _ _ _ H3.out _).mono ?_; rintro e w3 ⟨rfl, rfl⟩) | (go_at_call 20; refine (pfields_any r.t.kind n HF.out _ _).mono ?_; rintro e w4 ⟨A, c, rfl, hfs, hb⟩; have HFS := Lib.hid hfs; have HB4 := Lib.hid hb; clear hb hfs))
  obtain ⟨X, hX⟩ : ∃ X, X = w2.heap.size := ⟨_, rfl⟩
  have HS4 : Hid (SBox w4 X r) := Lib.hid (by rw [hX]; exact (SBox.new w2 r).next HB4.out)
  have hX4 : X < w4.heap.size := HS4.out.lt
  have HFS4 : Hid (Fs w4 w4.heap.size X (fieldsL r.t.kind) A c) := Lib.hid (by rw [hX]; exact HFS.out)
  have HBL4 : Hid (Below w.heap.size w w4) := Lib.hid (HBL2.out.trans (((below_lit w2 _ _).trans (HB4.out.mono (by simp))).mono HBL2.out.size))
  rw [← hX]
  clear dk HFS HB4 HX HX1 HX2 d0 d1 d2 d3 d4 d5 d6 d7 d8 d9 d10 d11 d12 d13 d14 hX
  go_loopw [5, 6, 8, 48] (fun v u _ i wr => ∃ j : Nat, j ≤ n ∧ i = .int .i64 j ∧ wr.ownsRow w4.heap.size 3 1 v j (I64 ((valL r).take j)) ∧ wr.ownsRow w4.heap.size 3 1 u j (I64 ((widL r.t.kind).take j)) ∧ (∀ g, v.ownBlock = some g → u.ownBlock ≠ some g) ∧ Below w4.heap.size w4 wr) (fun _ _ _ i _ => n - (intOf i).toNat)
  case atStart => exact ⟨0, Nat.zero_le _, rfl, ⟨rfl, .inl ⟨rfl, rfl⟩⟩, ⟨rfl, .inl ⟨rfl, rfl⟩⟩, (fun g hg => by cases hg), Below.refl _ _⟩
  case round =>
    obtain ⟨j, hj, rfl, hv, hu, hap, hbel⟩ := hrel
    have HV := Lib.hid hv
    have HU := Lib.hid hu
    have HAP := Lib.hid hap
    have HB := Lib.hid hbel
    clear hv hu hap hbel
    by_cases hlt : j < n
    · have hjl : j < (fieldsL r.t.kind).length := by rw [← HF.out]; exact hlt
      obtain ⟨⟨o, wd⟩, hx⟩ : ∃ x, (fieldsL r.t.kind)[j]? = some x := ⟨_, List.getElem?_eq_getElem hjl⟩
      obtain ⟨g, rfl, hb, hc, hc'⟩ := (HFS4.out.next HB.out).at hx
      obtain ⟨x, hxv, hxr⟩ := fields_val HK.out hx
      have hw : (widL r.t.kind)[j]? = some wd := by rw [← fieldsL_wid, List.getElem?_map, hx]; rfl
      have hSr : SBox wr X r := HS4.out.below hX4 HB.out
      have hcx : (wr.alloc (.cells #[.pointer (some ⟨X, o, none⟩), .int .i64 wd] 57)).cell? ⟨X, o, none⟩ = some (.int .i64 x) := (hSr.alloc _).at hxr
      have HW := Lib.hid hw
      have HXV := Lib.hid hxv
      have hs0 := HB.out.size
      have b1 : (0 : Int) ≤ (j : Int) := by omega
      have b2 : (j : Int) < (n : Int) := by omega
      clear hjl hx hw hxv hxr hSr
      go_wp2_with (first
        | (at_builtin; refine wpList_append_side _ rfl (.tmp 52) (.tmp 57) 52 rfl w4.heap.size 3 i0 (.int .i64 0) 8 Tryz.underlying52 hi hz0 hz1 hz2 rfl _ j _ rfl ((HV.out.alloc _).alloc _) ⟨wr.heap.size + 1, 0, none⟩ 1 1 [.int .i64 x] rfl rfl (by omega) (int_lit2 _ _ _) (one_int _) (by unfold maxLen; omega) (by omega) (by simp; omega) ?_; intro v' w5 hown hg hd; have HV5 := Lib.hid hown; have HG5 := Lib.hid hg; have HD5 := Lib.hid hd; have hc3 := hg.cell (fd_cell wr _ wd _) (own_ne HV.out (Nat.le_refl _)); have HU5 := Lib.hid (((HU.out.alloc _).alloc _).kept hg (own_other HAP.out)); have hs5 := hg.size; simp at hs5; clear hown hg hd)
        | (at_builtin; refine wpList_append_side _ rfl (.tmp 59) (.tmp 62) 52 rfl w4.heap.size 3 i0 (.int .i64 0) 8 Tryz.underlying52 hi hz0 hz1 hz2 rfl _ j _ rfl (HU5.out.alloc _) ⟨w5.heap.size, 0, none⟩ 1 1 [.int .i64 wd] rfl rfl (by omega) (int_lit1 _ _) (one_int _) (by unfold maxLen; omega) (by omega) (by simp; omega) ?_; intro u' w6 hown hg hd; have HU6 := Lib.hid hown; have HG6 := Lib.hid hg; have HD6 := Lib.hid hd; clear hown hg hd))
      have hB5 : Below w4.heap.size w4 w5 := (((HB.out.alloc hs0 _).alloc (by simp; omega) _)).grown HG5.out (by simp; omega) (fun j hj => own_ge HV.out hj)
      have hB6 : Below w4.heap.size w4 w6 := (hB5.alloc (by omega) _).grown HG6.out (by simp; omega) (fun j hj => own_ge HU5.out hj)
      have hA5 := own_apart2 HD5.out (((HU.out.alloc (.cells #[] 3)).alloc (.cells #[] 3))) (by simp) HAP.out
      have hV6 := (HV5.out.alloc (.cells #[.int .i64 wd] 3)).kept HG6.out (own_other' hA5)
      have hA6 := own_apart3 HD6.out (HV5.out.alloc (.cells #[.int .i64 wd] 3)) (by simp) hA5
      have HV7 := Lib.hid (show w6.ownsRow w4.heap.size 3 1 v' (j + 1) (I64 ((valL r).take (j + 1))) by rw [ltake_snoc HXV.out, I64_append]; exact hV6)
      have HU7 := Lib.hid (show w6.ownsRow w4.heap.size 3 1 u' (j + 1) (I64 ((widL r.t.kind).take (j + 1))) by rw [ltake_snoc HW.out, I64_append]; exact HU6.out)
      have HA7 := Lib.hid hA6
      have HB7 := Lib.hid hB6
      clear hB5 hB6 hA5 hV6 hA6
      go_wp2
      go_roundw
      case rel => exact ⟨j + 1, by omega, by go_num, HV7.out, HU7.out, HA7.out, HB7.out⟩
      case measure => simp [intOf]; omega
    · have e1 : j = n := by omega
      subst e1
      have e2 : (valL r).take j = valL r := List.take_of_length_le (by rw [HVL.out, ← HN.out]; omega)
      have e3 : (widL r.t.kind).take j = widL r.t.kind := List.take_of_length_le (by rw [← HN.out]; omega)
      have ho := HV.out
      have hu := HU.out
      rw [e2] at ho
      rw [e3] at hu
      obtain ⟨A2, c2, rfl, hl2, hzs⟩ := zs_of_own ho
      obtain ⟨A3, c3, rfl, hl3, hzu⟩ := zs_of_own hu
      have HZ := Lib.hid hzs
      have HZU := Lib.hid hzu
      have HL2 := Lib.hid hl2
      have HL3 := Lib.hid hl3
      have HB3 := Lib.hid (HBL4.out.trans (HB.out.mono HBL4.out.size))
      clear e2 e3 ho hzs hu hzu hl2 hl3
      go_wp2_with (go_at_call 21; refine (pjoin_any (valL r) (widL r.t.kind) j j HL2.out HL3.out E p HJ.out A2 A3 c2 c3 _ HZ.out HZU.out (valL_in HIN.out)).mono ?_; rintro e w7 ⟨A7, c7, rfl, hbs, hb⟩; have HBS := Lib.hid hbs; have HB9 := Lib.hid (HB3.out.trans (hb.mono HB3.out.size)); clear hbs hb)
      go_ret2
      exact ⟨A7, c7, rfl, HBS.out, HB9.out⟩
theorem lput_any (r : Rg) (hin : InR r) (E : Int) (p : List Nat) (hE : lputX r = (E, p)) (w : World) : Calls Tryz.prog 13 #[.agg #[.int .i64 r.t.ser, .int .i64 r.t.kind, .int .i64 r.t.frm, .int .i64 r.t.till, .int .i64 r.t.cls, .int .i64 r.t.card, .int .i64 r.t.seat, .int .i64 r.t.day, .int .i64 r.t.days, .int .i64 r.t.uses, .int .i64 r.t.epoch, .int .i64 r.key, .int .i64 r.left, .int .i64 r.inn, .int .i64 r.ver]] w fun e w' => ∃ A c, e = .returned (.tuple #[.slice A (p.length : Nat) c, .int .i64 E]) ∧ Bs w' w'.heap.size p A c ∧ Below w.heap.size w w' := by
  by_cases h1 : okT r.t = true
  · by_cases h2 : suitB r.t.uses r.left r.inn = true
    · cases h3 : (decide (0 ≤ r.key) && decide (r.key ≤ 99)) with
      | false => exact lput_p3 r hin E p hE w h1 h2 h3
      | true =>
        by_cases h4 : r.ver = 0
        · have ha : argB r = true := (argB_iff r).2 ⟨h1, h2, by simp at h3; exact h3.1, by simp at h3; exact h3.2, h4⟩
          by_cases h5 : r.t.seat = 0
          · by_cases h6 : 9999999 < r.t.ser
            · exact lput_p6 r hin E p hE w ha h5 h6
            · exact lput_yes r hin E p hE w ha ((fitB_iff r).2 ⟨h5, by omega⟩)
          · exact lput_p5 r hin E p hE w ha h5
        · exact lput_p4 r hin E p hE w h1 h2 h3 h4
    · exact lput_p2 r hin E p hE w h1 (by simpa using h2)
  · exact lput_p1 r hin E p hE w (by simpa using h1)
end Go.Proofs.YtaokhkbfiplfmaaGreatDoor
end
section
namespace Go.Proofs.YtaokhkbfiplfmaaGreatDoor
set_option linter.unusedVariables false
open Go.ChangeShapes Go.WideShapes Go.ChangeAt Go.RowKit

theorem infoB5 : (Tryz.prog.info? 86).map (·.size) = some 5 := by kernel_rfl
theorem b5_one (x0 x1 x2 x3 x4 : Bool) : (#[Value.bool x0, .bool x1, .bool x2, .bool x3, .bool x4] : Array Value).all (·.oneCell') = true := by
  rw [Array.all_eq_true_iff_forall_mem]
  intro u hu
  simp at hu
  rcases hu with rfl | rfl | rfl | rfl | rfl <;> rfl
def BBox (w : World) (b : Nat) (d : B5) : Prop := w.heap[b]? = some (.cells #[.bool d.b0, .bool d.b1, .bool d.b2, .bool d.b3, .bool d.b4] 86 (0, 0))
theorem BBox.lt {w : World} {b : Nat} {d : B5} (h : BBox w b d) : b < w.heap.size := (Array.getElem?_eq_some_iff.1 h).1
theorem BBox.next {w w' : World} {b : Nat} {d : B5} (h : BBox w b d) (hb : Below w.heap.size w w') : BBox w' b d := (hb.block _ h.lt).trans h
theorem BBox.cells {w : World} {b : Nat} {d : B5} (h : BBox w b d) : w.cell? ⟨b, 0, none⟩ = some (.bool d.b0) ∧ w.cell? ⟨b, 1, none⟩ = some (.bool d.b1) ∧ w.cell? ⟨b, 2, none⟩ = some (.bool d.b2) ∧ w.cell? ⟨b, 3, none⟩ = some (.bool d.b3) ∧ w.cell? ⟨b, 4, none⟩ = some (.bool d.b4) :=
  ⟨by rw [cell_of_row w b 0 _ _ (0, 0) h]; rfl, by rw [cell_of_row w b 1 _ _ (0, 0) h]; rfl, by rw [cell_of_row w b 2 _ _ (0, 0) h]; rfl, by rw [cell_of_row w b 3 _ _ (0, 0) h]; rfl, by rw [cell_of_row w b 4 _ _ (0, 0) h]; rfl⟩
theorem BBox.some {w : World} {b : Nat} {d : B5} (h : BBox w b d) (j : Nat) (hj : j < 5) : (w.cell? ⟨b, j, none⟩).isSome = true := by
  rcases (show j = 0 ∨ j = 1 ∨ j = 2 ∨ j = 3 ∨ j = 4 by omega) with rfl | rfl | rfl | rfl | rfl
  · rw [h.cells.1]; rfl
  · rw [h.cells.2.1]; rfl
  · rw [h.cells.2.2.1]; rfl
  · rw [h.cells.2.2.2.1]; rfl
  · rw [h.cells.2.2.2.2]; rfl
theorem BBox.frozen {w : World} {b : Nat} {d : B5} (h : BBox w b d) (j : Nat) : w.frozen? ⟨b, j, none⟩ = false := frozen_of_row w b j _ _ h
def setB (d : B5) (v : Bool) : Nat → B5
  | 0 => { d with b0 := v }
  | 1 => { d with b1 := v }
  | 2 => { d with b2 := v }
  | 3 => { d with b3 := v }
  | _ => { d with b4 := v }
def getB (d : B5) : Nat → Bool
  | 0 => d.b0
  | 1 => d.b1
  | 2 => d.b2
  | 3 => d.b3
  | _ => d.b4
theorem BBox.set {w : World} {b : Nat} {d : B5} (h : BBox w b d) (v : Bool) (j : Nat) (hj : j < 5) : BBox (w.setCell ⟨b, j, none⟩ (.bool v)) b (setB d v j) := by
  rcases (show j = 0 ∨ j = 1 ∨ j = 2 ∨ j = 3 ∨ j = 4 by omega) with rfl | rfl | rfl | rfl | rfl <;> exact heap_setCell_same w b _ _ _ _ h
theorem BBox.get {w : World} {b : Nat} {d : B5} (h : BBox w b d) (j : Nat) (hj : j < 5) : w.cell? ⟨b, j, none⟩ = Option.some (.bool (getB d j)) := by
  rcases (show j = 0 ∨ j = 1 ∨ j = 2 ∨ j = 3 ∨ j = 4 by omega) with rfl | rfl | rfl | rfl | rfl
  · exact h.cells.1
  · exact h.cells.2.1
  · exact h.cells.2.2.1
  · exact h.cells.2.2.2.1
  · exact h.cells.2.2.2.2
theorem BBox.setAt {w : World} {b b' j : Nat} {d : B5} (h : BBox w b d) (v : Value) (hne : b ≠ b') : BBox (w.setCell ⟨b', j, none⟩ v) b d := (heap_setCell_other w _ _ v hne).trans h
theorem BBox.new (w : World) (d : B5) : BBox (w.alloc (.cells #[.bool d.b0, .bool d.b1, .bool d.b2, .bool d.b3, .bool d.b4] 86)) w.heap.size d := heap_alloc_new w _
/-- The first k bits of n, the others not set. -/
def upB (n k : Nat) : B5 := ⟨decide (0 < k) && bitB n 0, decide (1 < k) && bitB n 1, decide (2 < k) && bitB n 2, decide (3 < k) && bitB n 3, decide (4 < k) && bitB n 4⟩
theorem upB_step (n k : Nat) (hk : k < 5) : setB (upB n k) (bitB n k) k = upB n (k + 1) := by
  rcases (show k = 0 ∨ k = 1 ∨ k = 2 ∨ k = 3 ∨ k = 4 by omega) with rfl | rfl | rfl | rfl | rfl <;> simp [setB, upB]
theorem upB_all {c : Int} (h : isC c = true) : upB c.toNat 5 = bitsB c := by rw [bitsB, if_pos h]; simp [upB]
end Go.Proofs.YtaokhkbfiplfmaaGreatDoor
end
section
namespace Go.Proofs.YtaokhkbfiplfmaaGreatDoor
set_option linter.unusedVariables false
open Go.ChangeShapes Go.WideShapes Go.ChangeAt Go.RowKit
end Go.Proofs.YtaokhkbfiplfmaaGreatDoor
end
section
namespace Go.Proofs.YtaokhkbfiplfmaaGreatDoor
set_option linter.unusedVariables false
open Go.ChangeShapes Go.WideShapes Go.ChangeAt Go.RowKit

theorem xor_small : ∀ a : Nat, a < 16 → ∀ b : Nat, b < 16 → bits BinOp.xor IntKind.i64 (a : Int) (b : Int) = ((a ^^^ b : Nat) : Int) := by decide
theorem sum_bad {l : List Int} {k : Nat} {z : Int} (hz : l[k]? = some z) (h : isV z = false) : sumOk l = false := by
  cases hs : sumOk l with
  | false => rfl
  | true =>
    have := (List.all_eq_true.1 hs) z (List.mem_of_getElem? hz)
    rw [h] at this; cases this
end Go.Proofs.YtaokhkbfiplfmaaGreatDoor
end
section
namespace Go.Proofs.YtaokhkbfiplfmaaGreatDoor
set_option linter.unusedVariables false
open Go.ChangeShapes Go.WideShapes Go.ChangeAt Go.RowKit

def NZ (vs : List Nat) : List Int := vs.map fun x : Nat => (x : Int)
theorem NZ_len (vs : List Nat) : (NZ vs).length = vs.length := by simp [NZ]
theorem NZ_at {vs : List Nat} {k v : Nat} (h : vs[k]? = some v) : (NZ vs)[k]? = some ((v : Int)) := by simp [NZ, h]
theorem sumX_nz (vs : List Nat) : sumX (NZ vs) = xorL vs := by
  unfold sumX NZ xorL
  rw [List.foldl_map]
  rfl
theorem sumOk_nz {vs : List Nat} (h : ∀ v ∈ vs, v < 16) : sumOk (NZ vs) = true := by
  rw [sumOk, List.all_eq_true]
  intro z hz
  simp only [NZ, List.mem_map] at hz
  obtain ⟨x, hx, rfl⟩ := hz
  exact (isV_iff _).2 ⟨by omega, by have := h x hx; omega⟩
theorem sum_nz {vs : List Nat} (h : ∀ v ∈ vs, v < 16) : sumV (NZ vs) = ((xorL vs : Nat) : Int) ∧ sumE (NZ vs) = 0 := by
  rw [sumV, sumE, if_pos (sumOk_nz h), if_pos (sumOk_nz h), sumX_nz]
  exact ⟨rfl, rfl⟩
def B5L (b : B5) : List Bool := [b.b0, b.b1, b.b2, b.b3, b.b4]
theorem char_facts : ∀ v : Nat, v < 16 → charV (v : Int) = ((charN v : Nat) : Int) ∧ charE (v : Int) = 0 ∧ bitsE ((charN v : Nat) : Int) = 0 ∧ B5L (bitsB ((charN v : Nat) : Int)) = cBits v := by decide
theorem charsL_take {vs : List Nat} {k v : Nat} (h : vs[k]? = some v) : charsL (vs.take (k + 1)) = charsL (vs.take k) ++ cBits v := by
  rw [List.take_add_one, h, charsL_append]; simp [charsL]
/-- A box of five bits is kept while a row of bits grows. -/
theorem BBox.grown {w w' : World} {base n X : Nat} {v : Value} {xs : List Value} {d : B5} (h : BBox w X d) (hown : w.ownsRow base 4 1 v n xs) (hg : w.grownBy w' v.ownBlock) : BBox w' X d := by
  refine (hg.block X h.lt ?_).trans h
  intro e
  rcases hown.2 with ⟨rfl, _⟩ | ⟨g, cap, cur, rfl, _, hgg, _⟩
  · cases e
  · have e2 : X = g := by simpa [Value.ownBlock] using e
    subst e2
    rw [BBox, hgg] at h
    simp at h
theorem bbox_rd {w : World} {X : Nat} {d : B5} (h : BBox w X d) : ∀ j u, (BL (B5L d))[j]? = some u → w.cell? ((⟨X, 0, none⟩ : Addr).add j) = some u := by
  obtain ⟨h0, h1, h2, h3, h4⟩ := h.cells
  intro j u hu
  rw [at_add]
  match j, hu with
  | 0, hu => cases hu; exact h0
  | 1, hu => cases hu; exact h1
  | 2, hu => cases hu; exact h2
  | 3, hu => cases hu; exact h3
  | 4, hu => cases hu; exact h4
  | j + 5, hu => simp [BL, B5L] at hu
end Go.Proofs.YtaokhkbfiplfmaaGreatDoor
end
section
namespace Go.Proofs.YtaokhkbfiplfmaaGreatDoor
set_option linter.unusedVariables false
open Go.ChangeShapes Go.WideShapes Go.ChangeAt Go.RowKit

theorem digits_take {d : List Nat} {k x : Nat} (h : d[k]? = some x) : digitsOk (d.take (k + 1)) = (digitsOk (d.take k) && decide (x ≤ 9)) := by
  rw [List.take_add_one, h, digitsOk, digitsOk, List.all_append]; simp
theorem digits_bad {d : List Nat} {k x : Nat} (h : d[k]? = some x) (hx : ¬ x ≤ 9) : digitsOk d = false := by
  cases hs : digitsOk d with
  | false => rfl
  | true =>
    have := (List.all_eq_true.1 hs) x (List.mem_of_getElem? h)
    simp at this
    omega
theorem pv_lt {d : List Nat} (h : digitsOk d = true) : ∀ v ∈ putVals d, v < 16 := by
  intro v hv
  simp only [putVals, List.mem_cons, List.mem_append, List.not_mem_nil, or_false] at hv
  rcases hv with rfl | hv | rfl
  · omega
  · have := (List.all_eq_true.1 h) v hv
    simp at this
    omega
  · omega
theorem tv_lt {d : List Nat} (h : digitsOk d = true) : ∀ v ∈ trackV d, v < 16 := by
  intro v hv
  simp only [trackV, List.mem_append, List.mem_singleton] at hv
  rcases hv with hv | rfl
  · exact pv_lt h v hv
  · exact xorL_lt _ (pv_lt h)
theorem nz_step {d : List Nat} {k x : Nat} (h : d[k]? = some x) : NZ (11 :: d.take (k + 1)) = NZ (11 :: d.take k) ++ [(x : Int)] := by
  rw [List.take_add_one, h]; simp [NZ]
theorem nz_pv (d : List Nat) : NZ (putVals d) = NZ (11 :: d) ++ [15] := by simp [NZ, putVals]
theorem nz_tv (d : List Nat) : NZ (trackV d) = NZ (putVals d) ++ [((xorL (putVals d) : Nat) : Int)] := by simp [NZ, trackV]
theorem int_lit (w : World) (x : Int) : ∀ j u, (I64 [x])[j]? = some u → (w.alloc (.cells #[.int .i64 x] 3)).cell? ((⟨w.heap.size, 0, none⟩ : Addr).add j) = some u := by
  intro j u hu
  rw [at_add, cell_of_row _ _ j _ 3 (0, 0) (heap_alloc_new w _)]
  simpa [I64] using hu
set_option linter.unusedVariables false
open Go.ChangeShapes Go.WideShapes Go.ChangeAt Go.RowKit

section
variable {l : List Bool} {f i : Nat} {out : List Nat}
variable {b : List Nat}
end
end Go.Proofs.YtaokhkbfiplfmaaGreatDoor
end
section
namespace Go.Proofs.YtaokhkbfiplfmaaGreatDoor

/-- How many of the first k bits are 1. -/
def cntUp (b : B5) : Nat → Nat
  | 0 => 0
  | k + 1 => cntUp b k + (getB b k).toNat
/-- The number of the first k bits. -/
def orUp (b : B5) : Nat → Nat
  | 0 => 0
  | k + 1 => if getB b k = true then orUp b k ||| 2 ^ k else orUp b k
/-- The bits of n below the fifth, and the fifth that makes their number odd. -/
def gB (n : Nat) : B5 := setB (upB n 5) (cntUp (upB n 5) 5 % 2 == 0) 4
theorem cntUp_le (b : B5) (k : Nat) : cntUp b k ≤ k := by
  induction k with
  | zero => exact Nat.le_refl 0
  | succ k ih =>
    show cntUp b k + (getB b k).toNat ≤ k + 1
    cases getB b k
    · show cntUp b k + 0 ≤ k + 1; omega
    · show cntUp b k + 1 ≤ k + 1; omega
theorem orUp_lt (b : B5) {k : Nat} (hk : k ≤ 5) : orUp b k < 32 := by
  obtain ⟨b0, b1, b2, b3, b4⟩ := b
  rcases (show k = 0 ∨ k = 1 ∨ k = 2 ∨ k = 3 ∨ k = 4 ∨ k = 5 by omega) with rfl | rfl | rfl | rfl | rfl | rfl <;> cases b0 <;> cases b1 <;> cases b2 <;> cases b3 <;> cases b4 <;> decide
theorem orUp_all (b : B5) : ((orUp b 5 : Nat) : Int) = ofB b := by
  obtain ⟨b0, b1, b2, b3, b4⟩ := b
  cases b0 <;> cases b1 <;> cases b2 <;> cases b3 <;> cases b4 <;> decide
theorem gB_char : ∀ n : Nat, n < 16 → ofB (gB n) = charV (n : Int) := by decide
theorem or_small : ∀ a : Nat, a < 32 → ∀ k : Nat, k < 5 → bits BinOp.or IntKind.i64 (a : Int) (2 ^ k) = ((a ||| 2 ^ k : Nat) : Int) := by decide
theorem and_small : ∀ n : Nat, n < 32 → ∀ k : Nat, k < 5 → (bits BinOp.and IntKind.i64 ((n : Int) / 2 ^ k) 1 == 1) = bitB n k := by decide
theorem shl_small : ∀ k : Nat, k < 5 → IntKind.i64.wrap ((1 : Int) * 2 ^ k) = 2 ^ k := by decide
end Go.Proofs.YtaokhkbfiplfmaaGreatDoor
end
section
namespace Go.Proofs.YtaokhkbfiplfmaaGreatDoor
set_option linter.unusedVariables false
open Go.ChangeShapes Go.WideShapes Go.ChangeAt Go.RowKit

theorem pisvalue_any (v : Int) (b : Bool) (hb : isV v = b) (w : World) : Calls Tryz.prog 57 #[.int .i64 v] w fun e w' => e = .returned (.bool b) ∧ w' = w := by
  have hb2 : (decide (0 ≤ v) && decide (v < 16)) = b := by
    rw [← hb]
    cases h : isV v
    · rcases Int.lt_or_le v 0 with h1 | h1
      · simp; intro h2; omega
      · rcases Int.lt_or_le v 16 with h2 | h2
        · rw [(isV_iff v).2 ⟨h1, by omega⟩] at h; cases h
        · simp; intro h3; omega
    · have := (isV_iff v).1 h
      simp; omega
  have HB := Lib.hid hb2
  clear hb hb2
  cases h0 : decide (0 ≤ v) <;> cases h1 : decide (v < 16)
  all_goals
    have H0 := Lib.hid h0
    have H1 := Lib.hid h1
    go_enter Tryz.func57, Tryz.ntmps57
    go_wp2
    go_ret
    refine ⟨congrArg Ending.returned (congrArg Value.bool ?_), rfl⟩
    rw [← HB.out, H0.out, H1.out]
    rfl
set_option maxRecDepth 100000 in
set_option maxHeartbeats 1600000 in
theorem psplit_any (n : Nat) (b : B5) (hn : n < 32) (hb : upB n 5 = b) (w : World) : Calls Tryz.prog 55 #[.int .i64 (n : Int)] w fun e w' => e = .returned (.agg #[.bool b.b0, .bool b.b1, .bool b.b2, .bool b.b3, .bool b.b4]) ∧ Below w.heap.size w w' := by
  obtain ⟨w1, hw1⟩ : ∃ w1, w1 = w.alloc (.cells #[.bool false, .bool false, .bool false, .bool false, .bool false] 86) := ⟨_, rfl⟩
  obtain ⟨w2, hw2⟩ : ∃ w2, w2 = w1.alloc (.cells #[.bool false, .bool false, .bool false, .bool false, .bool false] 86) := ⟨_, rfl⟩
  have hsz : w1.heap.size = w.heap.size + 1 := by rw [hw1]; exact Array.size_push ..
  have HB : Hid (Below w.heap.size w w2) := Lib.hid (by rw [hw2, hw1]; exact (below_lit w _ _).trans ((below_lit _ _ _).mono (below_lit w _ _).size))
  have HR : Hid (BBox w2 w.heap.size noB) := Lib.hid (by rw [hw2]; exact BBox.next (by rw [hw1]; exact BBox.new w noB) (below_lit w1 _ _))
  have HX : Hid (BBox w2 (w.heap.size + 1) noB) := Lib.hid (by rw [hw2, ← hsz]; exact BBox.new w1 noB)
  have HW : Hid ((w.alloc (.cells #[.bool false, .bool false, .bool false, .bool false, .bool false] 86)).alloc (.cells #[.bool false, .bool false, .bool false, .bool false, .bool false] 86) = w2) := Lib.hid (by rw [hw2, hw1])
  have HBB := Lib.hid hb
  have HN := Lib.hid hn
  clear hw1 hw2 hsz w1 hb hn
  go_enter Tryz.func55, Tryz.ntmps55
  go_wp2
  rw [HW.out]
  go_loopw [6] (fun i wr => ∃ k : Nat, k ≤ 5 ∧ i = .int .i64 k ∧ BBox wr (w.heap.size + 1) (upB n k) ∧ BBox wr w.heap.size noB ∧ Below w.heap.size w wr) (fun i _ => 5 - (intOf i).toNat)
  case atStart => exact ⟨0, by omega, rfl, HX.out, HR.out, HB.out⟩
  case round =>
    obtain ⟨k, hk, rfl, hx, hr, hbel⟩ := hrel
    replace HX := Lib.hid hx
    replace HR := Lib.hid hr
    replace HB := Lib.hid hbel
    clear hx hr hbel
    by_cases hlt : k < 5
    · have hbit := and_small n HN.out k hlt
      have HBIT := Lib.hid hbit
      have b1 : (k : Int) < 5 := by omega
      have b0 : (0 : Int) ≤ (k : Int) := by omega
      have b2 : (k : Int) ≤ 64 := by omega
      clear hbit
      have fz := HX.out.frozen k
      have hsm := HX.out.get k hlt
      go_wp2
      case roundEnd => exact ⟨⟨k + 1, by omega, by go_num, by rw [HBIT.out, ← upB_step n k hlt]; exact HX.out.set _ k hlt, HR.out.setAt _ (by omega), HB.out.setCell (p := ⟨w.heap.size + 1, k, none⟩) (by simp) _⟩, by simp [intOf]; omega⟩
    · have e : k = 5 := by omega
      subst e
      have hb1 : ¬ (((5 : Nat) : Int) < 5) := by omega
      rw [HBB.out] at HX
      obtain ⟨c0, c1, c2, c3, c4⟩ := HX.out.cells
      clear hlt hk
      go_wp2_with ((with_reducible refine at_store 2 ?_); refine wpList_store_named (o := ⟨none, .store 86 (.tmp 2) (.tmp 17), _, _, _, _⟩) rfl 86 (.tmp 2) (.tmp 17) rfl w.heap.size #[.bool b.b0, .bool b.b1, .bool b.b2, .bool b.b3, .bool b.b4] rfl rfl 86 #[.bool false, .bool false, .bool false, .bool false, .bool false] HR.out infoB5 rfl (b5_one _ _ _ _ _) ?_; intro w5 hw5)
      have hr5 := setRow_heap wr w.heap.size #[.bool false, .bool false, .bool false, .bool false, .bool false] #[.bool b.b0, .bool b.b1, .bool b.b2, .bool b.b3, .bool b.b4] 86 (0, 0) HR.out
      rw [← hw5.out] at hr5
      have hb5 := below_row hw5.out (Nat.le_refl w.heap.size)
      refine bodyPost_ret (results_row Tryz.results55 _ w5 w.heap.size 86 #[.bool b.b0, .bool b.b1, .bool b.b2, .bool b.b3, .bool b.b4] (0, 0) _ rfl hr5 Tryz.underlying86 rfl infoB5) rfl ⟨rfl, HB.out.trans hb5⟩
end Go.Proofs.YtaokhkbfiplfmaaGreatDoor
end
