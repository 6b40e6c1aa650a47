/-
  The landed Put of layout.
-/
import Derived.Test.YtpniolinndlepaaGreatDoorLayA
import Derived.Test.YtpniolinndlepaaGreatDoorLayB
import Derived.Test.YtpniolinndlepaaGreatDoorTicketPIs
import Derived.Test.YtpniolinndlepaaGreatDoorBcdA
import Derived.OwnWalk
namespace Go.Proofs.YtpniolinndlepaaGreatDoor
set_option linter.unusedVariables false
open Go.ChangeShapes Go.WideShapes Go.ChangeAt Go.RowKit

theorem lput_arg {r : Rg} (h : argB r = false) : lputX r = (1, []) := by rw [lputX, if_pos h]
theorem lput_fit {r : Rg} (h : argB r = true) (h2 : fitB r = false) : lputX r = (18, []) := by rw [lputX, if_neg (by rw [h]; decide), if_pos h2]
theorem lput_join {r : Rg} (h : argB r = true) (h2 : fitB r = true) : lputX r = joinX (valL r) (widL r.t.kind) := by rw [lputX, if_neg (by rw [h]; decide), if_neg (by rw [h2]; decide)]
set_option maxRecDepth 100000 in
set_option maxHeartbeats 1600000 in
theorem lput_p1 (r : Rg) (hin : InR r) (E : Int) (p : List Nat) (hE : lputX r = (E, p)) (w : World) (h1 : okT r.t = false) : Calls Tryz.prog 23 #[.agg #[.int .i64 r.t.ser, .int .i64 r.t.kind, .int .i64 r.t.frm, .int .i64 r.t.till, .int .i64 r.t.cls, .int .i64 r.t.card, .int .i64 r.t.seat, .int .i64 r.t.day, .int .i64 r.t.days, .int .i64 r.t.uses, .int .i64 r.t.epoch, .int .i64 r.key, .int .i64 r.left, .int .i64 r.inn, .int .i64 r.ver]] w fun e w' => ∃ A c, e = .returned (.tuple #[.slice A (p.length : Nat) c, .int .i64 E]) ∧ Bs w' w'.heap.size p A c ∧ Below w.heap.size w w' := by
  have ha : argB r = false := by rw [argB, h1]; rfl
  obtain ⟨rfl, rfl⟩ : E = 1 ∧ p = [] := by have := hE; rw [lput_arg ha] at this; exact ⟨(Prod.mk.inj this).1.symm, (Prod.mk.inj this).2.symm⟩
  clear hE
  have H1 := Lib.hid h1
  clear h1 ha
  obtain ⟨w0, hw0⟩ : ∃ w0, w0 = w.alloc (.cells #[.int .i64 r.t.ser, .int .i64 r.t.kind, .int .i64 r.t.frm, .int .i64 r.t.till, .int .i64 r.t.cls, .int .i64 r.t.card, .int .i64 r.t.seat, .int .i64 r.t.day, .int .i64 r.t.days, .int .i64 r.t.uses, .int .i64 r.t.epoch, .int .i64 r.key, .int .i64 r.left, .int .i64 r.inn, .int .i64 r.ver] 28) := ⟨_, rfl⟩
  have HX : Hid (RBox w0 w.heap.size r) := Lib.hid (by rw [hw0]; exact RBox.new w r)
  have HBL : Hid (Below w.heap.size w w0) := Lib.hid (by rw [hw0]; exact below_lit w _ _)
  have HW := Lib.hid hw0
  clear hw0
  go_enter Tryz.func23, Tryz.ntmps23
  go_wp2_with fail
  rw [← HW.out]
  obtain ⟨e0, e1, e2, e3, e4, e5, e6, e7, e8, e9, e10, e11, e12, e13, e14⟩ := HX.out.cells
  go_wp2_with (first | (go_at_call 59; refine (pis9_any r.t _ H1.out _).mono ?_; rintro e w1 ⟨rfl, hb⟩; clear e0 e1 e2 e3 e4 e5 e6 e7 e8 e9 e10 e11 e12 e13 e14; have HX1 := Lib.hid (HX.out.next hb); have HBL1 := Lib.hid (HBL.out.trans (hb.mono HBL.out.size)); clear hb; obtain ⟨c0, c1, c2, c3, c4, c5, c6, c7, c8, c9, c10, c11, c12, c13, c14⟩ := HX1.out.cells))
  go_ret2
  exact ⟨none, 0, rfl, bbs_nil _, HBL1.out⟩
set_option maxRecDepth 100000 in
set_option maxHeartbeats 1600000 in
theorem lput_p2 (r : Rg) (hin : InR r) (E : Int) (p : List Nat) (hE : lputX r = (E, p)) (w : World) (h1 : okT r.t = true) (h2 : suitB r.t.uses r.left r.inn = false) : Calls Tryz.prog 23 #[.agg #[.int .i64 r.t.ser, .int .i64 r.t.kind, .int .i64 r.t.frm, .int .i64 r.t.till, .int .i64 r.t.cls, .int .i64 r.t.card, .int .i64 r.t.seat, .int .i64 r.t.day, .int .i64 r.t.days, .int .i64 r.t.uses, .int .i64 r.t.epoch, .int .i64 r.key, .int .i64 r.left, .int .i64 r.inn, .int .i64 r.ver]] w fun e w' => ∃ A c, e = .returned (.tuple #[.slice A (p.length : Nat) c, .int .i64 E]) ∧ Bs w' w'.heap.size p A c ∧ Below w.heap.size w w' := by
  have ha : argB r = false := by rw [argB, h1, h2]; rfl
  obtain ⟨rfl, rfl⟩ : E = 1 ∧ p = [] := by have := hE; rw [lput_arg ha] at this; exact ⟨(Prod.mk.inj this).1.symm, (Prod.mk.inj this).2.symm⟩
  clear hE
  have H1 := Lib.hid h1
  have H2 := Lib.hid h2
  clear h1 h2 ha
  obtain ⟨w0, hw0⟩ : ∃ w0, w0 = w.alloc (.cells #[.int .i64 r.t.ser, .int .i64 r.t.kind, .int .i64 r.t.frm, .int .i64 r.t.till, .int .i64 r.t.cls, .int .i64 r.t.card, .int .i64 r.t.seat, .int .i64 r.t.day, .int .i64 r.t.days, .int .i64 r.t.uses, .int .i64 r.t.epoch, .int .i64 r.key, .int .i64 r.left, .int .i64 r.inn, .int .i64 r.ver] 28) := ⟨_, rfl⟩
  have HX : Hid (RBox w0 w.heap.size r) := Lib.hid (by rw [hw0]; exact RBox.new w r)
  have HBL : Hid (Below w.heap.size w w0) := Lib.hid (by rw [hw0]; exact below_lit w _ _)
  have HW := Lib.hid hw0
  clear hw0
  go_enter Tryz.func23, Tryz.ntmps23
  go_wp2_with fail
  rw [← HW.out]
  obtain ⟨e0, e1, e2, e3, e4, e5, e6, e7, e8, e9, e10, e11, e12, e13, e14⟩ := HX.out.cells
  go_wp2_with (first | (go_at_call 59; refine (pis9_any r.t _ H1.out _).mono ?_; rintro e w1 ⟨rfl, hb⟩; clear e0 e1 e2 e3 e4 e5 e6 e7 e8 e9 e10 e11 e12 e13 e14; have HX1 := Lib.hid (HX.out.next hb); have HBL1 := Lib.hid (HBL.out.trans (hb.mono HBL.out.size)); clear hb; obtain ⟨c0, c1, c2, c3, c4, c5, c6, c7, c8, c9, c10, c11, c12, c13, c14⟩ := HX1.out.cells) | (go_at_call 60; refine (psuits_any r.t r.left r.inn _ H2.out _).mono ?_; rintro e w2 ⟨rfl, hb⟩; have HX2 := Lib.hid (HX1.out.next hb); have HBL2 := Lib.hid (HBL1.out.trans (hb.mono HBL1.out.size)); clear hb c0 c1 c2 c3 c4 c5 c6 c7 c8 c9 c10 c11 c12 c13 c14; obtain ⟨d0, d1, d2, d3, d4, d5, d6, d7, d8, d9, d10, d11, d12, d13, d14⟩ := HX2.out.cells))
  go_ret2
  exact ⟨none, 0, rfl, bbs_nil _, HBL2.out⟩
set_option maxRecDepth 100000 in
set_option maxHeartbeats 1600000 in
theorem lput_p3 (r : Rg) (hin : InR r) (E : Int) (p : List Nat) (hE : lputX r = (E, p)) (w : World) (h1 : okT r.t = true) (h2 : suitB r.t.uses r.left r.inn = true) (h3 : (decide (0 ≤ r.key) && decide (r.key ≤ 99)) = false) : Calls Tryz.prog 23 #[.agg #[.int .i64 r.t.ser, .int .i64 r.t.kind, .int .i64 r.t.frm, .int .i64 r.t.till, .int .i64 r.t.cls, .int .i64 r.t.card, .int .i64 r.t.seat, .int .i64 r.t.day, .int .i64 r.t.days, .int .i64 r.t.uses, .int .i64 r.t.epoch, .int .i64 r.key, .int .i64 r.left, .int .i64 r.inn, .int .i64 r.ver]] w fun e w' => ∃ A c, e = .returned (.tuple #[.slice A (p.length : Nat) c, .int .i64 E]) ∧ Bs w' w'.heap.size p A c ∧ Below w.heap.size w w' := by
  have ha : argB r = false := by rw [argB, h1, h2, Bool.true_and, Bool.true_and, ← Bool.and_assoc, h3]; rfl
  obtain ⟨rfl, rfl⟩ : E = 1 ∧ p = [] := by have := hE; rw [lput_arg ha] at this; exact ⟨(Prod.mk.inj this).1.symm, (Prod.mk.inj this).2.symm⟩
  clear hE
  have H1 := Lib.hid h1
  have H2 := Lib.hid h2
  have H3 := Lib.hid h3
  clear h1 h2 h3 ha
  obtain ⟨w0, hw0⟩ : ∃ w0, w0 = w.alloc (.cells #[.int .i64 r.t.ser, .int .i64 r.t.kind, .int .i64 r.t.frm, .int .i64 r.t.till, .int .i64 r.t.cls, .int .i64 r.t.card, .int .i64 r.t.seat, .int .i64 r.t.day, .int .i64 r.t.days, .int .i64 r.t.uses, .int .i64 r.t.epoch, .int .i64 r.key, .int .i64 r.left, .int .i64 r.inn, .int .i64 r.ver] 28) := ⟨_, rfl⟩
  have HX : Hid (RBox w0 w.heap.size r) := Lib.hid (by rw [hw0]; exact RBox.new w r)
  have HBL : Hid (Below w.heap.size w w0) := Lib.hid (by rw [hw0]; exact below_lit w _ _)
  have HW := Lib.hid hw0
  clear hw0
  go_enter Tryz.func23, Tryz.ntmps23
  go_wp2_with fail
  rw [← HW.out]
  obtain ⟨e0, e1, e2, e3, e4, e5, e6, e7, e8, e9, e10, e11, e12, e13, e14⟩ := HX.out.cells
  go_wp2_with (first | (go_at_call 59; refine (pis9_any r.t _ H1.out _).mono ?_; rintro e w1 ⟨rfl, hb⟩; clear e0 e1 e2 e3 e4 e5 e6 e7 e8 e9 e10 e11 e12 e13 e14; have HX1 := Lib.hid (HX.out.next hb); have HBL1 := Lib.hid (HBL.out.trans (hb.mono HBL.out.size)); clear hb; obtain ⟨c0, c1, c2, c3, c4, c5, c6, c7, c8, c9, c10, c11, c12, c13, c14⟩ := HX1.out.cells) | (go_at_call 60; refine (psuits_any r.t r.left r.inn _ H2.out _).mono ?_; rintro e w2 ⟨rfl, hb⟩; have HX2 := Lib.hid (HX1.out.next hb); have HBL2 := Lib.hid (HBL1.out.trans (hb.mono HBL1.out.size)); clear hb c0 c1 c2 c3 c4 c5 c6 c7 c8 c9 c10 c11 c12 c13 c14; obtain ⟨d0, d1, d2, d3, d4, d5, d6, d7, d8, d9, d10, d11, d12, d13, d14⟩ := HX2.out.cells) | (go_at_call 61; refine (lwithin_any _ _ _ _ H3.out _).mono ?_; rintro e w3 ⟨rfl, rfl⟩))
  go_ret2
  exact ⟨none, 0, rfl, bbs_nil _, HBL2.out⟩
set_option maxRecDepth 100000 in
set_option maxHeartbeats 1600000 in
theorem lput_p4 (r : Rg) (hin : InR r) (E : Int) (p : List Nat) (hE : lputX r = (E, p)) (w : World) (h1 : okT r.t = true) (h2 : suitB r.t.uses r.left r.inn = true) (h3 : (decide (0 ≤ r.key) && decide (r.key ≤ 99)) = true) (h4 : r.ver ≠ 0) : Calls Tryz.prog 23 #[.agg #[.int .i64 r.t.ser, .int .i64 r.t.kind, .int .i64 r.t.frm, .int .i64 r.t.till, .int .i64 r.t.cls, .int .i64 r.t.card, .int .i64 r.t.seat, .int .i64 r.t.day, .int .i64 r.t.days, .int .i64 r.t.uses, .int .i64 r.t.epoch, .int .i64 r.key, .int .i64 r.left, .int .i64 r.inn, .int .i64 r.ver]] w fun e w' => ∃ A c, e = .returned (.tuple #[.slice A (p.length : Nat) c, .int .i64 E]) ∧ Bs w' w'.heap.size p A c ∧ Below w.heap.size w w' := by
  have ha : argB r = false := by cases h : argB r with | false => rfl | true => exact (h4 ((argB_iff r).1 h).2.2.2.2).elim
  obtain ⟨rfl, rfl⟩ : E = 1 ∧ p = [] := by have := hE; rw [lput_arg ha] at this; exact ⟨(Prod.mk.inj this).1.symm, (Prod.mk.inj this).2.symm⟩
  clear hE
  have H1 := Lib.hid h1
  have H2 := Lib.hid h2
  have H3 := Lib.hid h3
  have q4 : (r.ver != 0) = true := by rw [bne_iff_ne]; exact h4
  clear h1 h2 h3 h4 ha
  obtain ⟨w0, hw0⟩ : ∃ w0, w0 = w.alloc (.cells #[.int .i64 r.t.ser, .int .i64 r.t.kind, .int .i64 r.t.frm, .int .i64 r.t.till, .int .i64 r.t.cls, .int .i64 r.t.card, .int .i64 r.t.seat, .int .i64 r.t.day, .int .i64 r.t.days, .int .i64 r.t.uses, .int .i64 r.t.epoch, .int .i64 r.key, .int .i64 r.left, .int .i64 r.inn, .int .i64 r.ver] 28) := ⟨_, rfl⟩
  have HX : Hid (RBox w0 w.heap.size r) := Lib.hid (by rw [hw0]; exact RBox.new w r)
  have HBL : Hid (Below w.heap.size w w0) := Lib.hid (by rw [hw0]; exact below_lit w _ _)
  have HW := Lib.hid hw0
  clear hw0
  go_enter Tryz.func23, Tryz.ntmps23
  go_wp2_with fail
  rw [← HW.out]
  obtain ⟨e0, e1, e2, e3, e4, e5, e6, e7, e8, e9, e10, e11, e12, e13, e14⟩ := HX.out.cells
  go_wp2_with (first | (go_at_call 59; refine (pis9_any r.t _ H1.out _).mono ?_; rintro e w1 ⟨rfl, hb⟩; clear e0 e1 e2 e3 e4 e5 e6 e7 e8 e9 e10 e11 e12 e13 e14; have HX1 := Lib.hid (HX.out.next hb); have HBL1 := Lib.hid (HBL.out.trans (hb.mono HBL.out.size)); clear hb; obtain ⟨c0, c1, c2, c3, c4, c5, c6, c7, c8, c9, c10, c11, c12, c13, c14⟩ := HX1.out.cells) | (go_at_call 60; refine (psuits_any r.t r.left r.inn _ H2.out _).mono ?_; rintro e w2 ⟨rfl, hb⟩; have HX2 := Lib.hid (HX1.out.next hb); have HBL2 := Lib.hid (HBL1.out.trans (hb.mono HBL1.out.size)); clear hb c0 c1 c2 c3 c4 c5 c6 c7 c8 c9 c10 c11 c12 c13 c14; obtain ⟨d0, d1, d2, d3, d4, d5, d6, d7, d8, d9, d10, d11, d12, d13, d14⟩ := HX2.out.cells) | (go_at_call 61; refine (lwithin_any _ _ _ _ H3.out _).mono ?_; rintro e w3 ⟨rfl, rfl⟩))
  go_ret2
  exact ⟨none, 0, rfl, bbs_nil _, HBL2.out⟩
set_option maxRecDepth 100000 in
set_option maxHeartbeats 1600000 in
theorem lput_p5 (r : Rg) (hin : InR r) (E : Int) (p : List Nat) (hE : lputX r = (E, p)) (w : World) (ha : argB r = true) (h5 : r.t.seat ≠ 0) : Calls Tryz.prog 23 #[.agg #[.int .i64 r.t.ser, .int .i64 r.t.kind, .int .i64 r.t.frm, .int .i64 r.t.till, .int .i64 r.t.cls, .int .i64 r.t.card, .int .i64 r.t.seat, .int .i64 r.t.day, .int .i64 r.t.days, .int .i64 r.t.uses, .int .i64 r.t.epoch, .int .i64 r.key, .int .i64 r.left, .int .i64 r.inn, .int .i64 r.ver]] w fun e w' => ∃ A c, e = .returned (.tuple #[.slice A (p.length : Nat) c, .int .i64 E]) ∧ Bs w' w'.heap.size p A c ∧ Below w.heap.size w w' := by
  have hf : fitB r = false := by cases h : fitB r with | false => rfl | true => exact (h5 ((fitB_iff r).1 h).1).elim
  obtain ⟨rfl, rfl⟩ : E = 18 ∧ p = [] := by have := hE; rw [lput_fit ha hf] at this; exact ⟨(Prod.mk.inj this).1.symm, (Prod.mk.inj this).2.symm⟩
  clear hE
  obtain ⟨h1, h2, h3, h3', h4⟩ := (argB_iff r).1 ha
  have H1 := Lib.hid h1
  have H2 := Lib.hid h2
  have H3 := Lib.hid (show (decide (0 ≤ r.key) && decide (r.key ≤ 99)) = true by rw [decide_eq_true h3, decide_eq_true h3']; rfl)
  have q4 : (r.ver != 0) = false := by rw [h4]; rfl
  have q4' : (r.ver == 0) = true := by rw [h4]; rfl
  clear h1 h2 h3 h3' h4
  have q5 : (r.t.seat != 0) = true := by rw [bne_iff_ne]; exact h5
  clear ha hf h5
  obtain ⟨w0, hw0⟩ : ∃ w0, w0 = w.alloc (.cells #[.int .i64 r.t.ser, .int .i64 r.t.kind, .int .i64 r.t.frm, .int .i64 r.t.till, .int .i64 r.t.cls, .int .i64 r.t.card, .int .i64 r.t.seat, .int .i64 r.t.day, .int .i64 r.t.days, .int .i64 r.t.uses, .int .i64 r.t.epoch, .int .i64 r.key, .int .i64 r.left, .int .i64 r.inn, .int .i64 r.ver] 28) := ⟨_, rfl⟩
  have HX : Hid (RBox w0 w.heap.size r) := Lib.hid (by rw [hw0]; exact RBox.new w r)
  have HBL : Hid (Below w.heap.size w w0) := Lib.hid (by rw [hw0]; exact below_lit w _ _)
  have HW := Lib.hid hw0
  clear hw0
  go_enter Tryz.func23, Tryz.ntmps23
  go_wp2_with fail
  rw [← HW.out]
  obtain ⟨e0, e1, e2, e3, e4, e5, e6, e7, e8, e9, e10, e11, e12, e13, e14⟩ := HX.out.cells
  go_wp2_with (first | (go_at_call 59; refine (pis9_any r.t _ H1.out _).mono ?_; rintro e w1 ⟨rfl, hb⟩; clear e0 e1 e2 e3 e4 e5 e6 e7 e8 e9 e10 e11 e12 e13 e14; have HX1 := Lib.hid (HX.out.next hb); have HBL1 := Lib.hid (HBL.out.trans (hb.mono HBL.out.size)); clear hb; obtain ⟨c0, c1, c2, c3, c4, c5, c6, c7, c8, c9, c10, c11, c12, c13, c14⟩ := HX1.out.cells) | (go_at_call 60; refine (psuits_any r.t r.left r.inn _ H2.out _).mono ?_; rintro e w2 ⟨rfl, hb⟩; have HX2 := Lib.hid (HX1.out.next hb); have HBL2 := Lib.hid (HBL1.out.trans (hb.mono HBL1.out.size)); clear hb c0 c1 c2 c3 c4 c5 c6 c7 c8 c9 c10 c11 c12 c13 c14; obtain ⟨d0, d1, d2, d3, d4, d5, d6, d7, d8, d9, d10, d11, d12, d13, d14⟩ := HX2.out.cells) | (go_at_call 61; refine (lwithin_any _ _ _ _ H3.out _).mono ?_; rintro e w3 ⟨rfl, rfl⟩))
  go_ret2
  exact ⟨none, 0, rfl, bbs_nil _, HBL2.out⟩
set_option maxRecDepth 100000 in
set_option maxHeartbeats 1600000 in
theorem lput_p6 (r : Rg) (hin : InR r) (E : Int) (p : List Nat) (hE : lputX r = (E, p)) (w : World) (ha : argB r = true) (h5 : r.t.seat = 0) (h6 : 9999999 < r.t.ser) : Calls Tryz.prog 23 #[.agg #[.int .i64 r.t.ser, .int .i64 r.t.kind, .int .i64 r.t.frm, .int .i64 r.t.till, .int .i64 r.t.cls, .int .i64 r.t.card, .int .i64 r.t.seat, .int .i64 r.t.day, .int .i64 r.t.days, .int .i64 r.t.uses, .int .i64 r.t.epoch, .int .i64 r.key, .int .i64 r.left, .int .i64 r.inn, .int .i64 r.ver]] w fun e w' => ∃ A c, e = .returned (.tuple #[.slice A (p.length : Nat) c, .int .i64 E]) ∧ Bs w' w'.heap.size p A c ∧ Below w.heap.size w w' := by
  have hf : fitB r = false := by cases h : fitB r with | false => rfl | true => (have := ((fitB_iff r).1 h).2; omega)
  obtain ⟨rfl, rfl⟩ : E = 18 ∧ p = [] := by have := hE; rw [lput_fit ha hf] at this; exact ⟨(Prod.mk.inj this).1.symm, (Prod.mk.inj this).2.symm⟩
  clear hE
  obtain ⟨h1, h2, h3, h3', h4⟩ := (argB_iff r).1 ha
  have H1 := Lib.hid h1
  have H2 := Lib.hid h2
  have H3 := Lib.hid (show (decide (0 ≤ r.key) && decide (r.key ≤ 99)) = true by rw [decide_eq_true h3, decide_eq_true h3']; rfl)
  have q4 : (r.ver != 0) = false := by rw [h4]; rfl
  have q4' : (r.ver == 0) = true := by rw [h4]; rfl
  clear h1 h2 h3 h3' h4
  have q5 : (r.t.seat != 0) = false := by rw [h5]; rfl
  have q6 : decide (9999999 < r.t.ser) = true := decide_eq_true h6
  clear ha hf h5
  obtain ⟨w0, hw0⟩ : ∃ w0, w0 = w.alloc (.cells #[.int .i64 r.t.ser, .int .i64 r.t.kind, .int .i64 r.t.frm, .int .i64 r.t.till, .int .i64 r.t.cls, .int .i64 r.t.card, .int .i64 r.t.seat, .int .i64 r.t.day, .int .i64 r.t.days, .int .i64 r.t.uses, .int .i64 r.t.epoch, .int .i64 r.key, .int .i64 r.left, .int .i64 r.inn, .int .i64 r.ver] 28) := ⟨_, rfl⟩
  have HX : Hid (RBox w0 w.heap.size r) := Lib.hid (by rw [hw0]; exact RBox.new w r)
  have HBL : Hid (Below w.heap.size w w0) := Lib.hid (by rw [hw0]; exact below_lit w _ _)
  have HW := Lib.hid hw0
  clear hw0
  go_enter Tryz.func23, Tryz.ntmps23
  go_wp2_with fail
  rw [← HW.out]
  obtain ⟨e0, e1, e2, e3, e4, e5, e6, e7, e8, e9, e10, e11, e12, e13, e14⟩ := HX.out.cells
  go_wp2_with (first | (go_at_call 59; refine (pis9_any r.t _ H1.out _).mono ?_; rintro e w1 ⟨rfl, hb⟩; clear e0 e1 e2 e3 e4 e5 e6 e7 e8 e9 e10 e11 e12 e13 e14; have HX1 := Lib.hid (HX.out.next hb); have HBL1 := Lib.hid (HBL.out.trans (hb.mono HBL.out.size)); clear hb; obtain ⟨c0, c1, c2, c3, c4, c5, c6, c7, c8, c9, c10, c11, c12, c13, c14⟩ := HX1.out.cells) | (go_at_call 60; refine (psuits_any r.t r.left r.inn _ H2.out _).mono ?_; rintro e w2 ⟨rfl, hb⟩; have HX2 := Lib.hid (HX1.out.next hb); have HBL2 := Lib.hid (HBL1.out.trans (hb.mono HBL1.out.size)); clear hb c0 c1 c2 c3 c4 c5 c6 c7 c8 c9 c10 c11 c12 c13 c14; obtain ⟨d0, d1, d2, d3, d4, d5, d6, d7, d8, d9, d10, d11, d12, d13, d14⟩ := HX2.out.cells) | (go_at_call 61; refine (lwithin_any _ _ _ _ H3.out _).mono ?_; rintro e w3 ⟨rfl, rfl⟩))
  go_ret2
  exact ⟨none, 0, rfl, bbs_nil _, HBL2.out⟩
set_option linter.unusedVariables false
open Go.ChangeShapes Go.WideShapes Go.ChangeAt Go.RowKit

theorem own_other {a b : Value} (h : ∀ g, a.ownBlock = some g → b.ownBlock ≠ some g) : b.ownBlock = none ∨ b.ownBlock ≠ a.ownBlock := by
  cases hb : b.ownBlock with
  | none => exact .inl rfl
  | some g =>
    refine .inr fun e => ?_
    exact h g e.symm hb
theorem own_other' {a b : Value} (h : ∀ g, a.ownBlock = some g → b.ownBlock ≠ some g) : a.ownBlock = none ∨ a.ownBlock ≠ b.ownBlock := by
  cases ha : a.ownBlock with
  | none => exact .inl rfl
  | some g =>
    refine .inr fun e => ?_
    exact h g ha e.symm
/-- Two rows that stand side by side, one behind an append, stand side by side still. -/
theorem own_apart2 {w w5 : World} {base m size : Nat} {e : TypeId} {v v' u : Value} {ys : List Value} (hd : ∀ g, v'.ownBlock = some g → v.ownBlock = some g ∨ w5.heap.size ≤ g) (hu : w.ownsRow base e size u m ys) (hw : w.heap.size ≤ w5.heap.size) (h : ∀ g, v.ownBlock = some g → u.ownBlock ≠ some g) : ∀ g, v'.ownBlock = some g → u.ownBlock ≠ some g := by
  intro g hg hug
  rcases hd g hg with h1 | h1
  · exact h g h1 hug
  · have := own_lt hu hug
    omega
theorem own_apart3 {w w5 : World} {base m size : Nat} {e : TypeId} {v u' u : Value} {ys : List Value} (hd : ∀ g, u'.ownBlock = some g → u.ownBlock = some g ∨ w5.heap.size ≤ g) (hv : w.ownsRow base e size v m ys) (hw : w.heap.size ≤ w5.heap.size) (h : ∀ g, v.ownBlock = some g → u.ownBlock ≠ some g) : ∀ g, v.ownBlock = some g → u'.ownBlock ≠ some g := by
  intro g hg hug
  rcases hd g hug with h1 | h1
  · exact h g hg h1
  · have := own_lt hv hg
    omega
theorem fd_cell (w : World) (p : Value) (wd : Int) (o : Obj) : ((w.alloc (.cells #[p, .int .i64 wd] 87)).alloc o).cell? ⟨w.heap.size, 1, none⟩ = some (.int .i64 wd) := by
  rw [World.cell?_alloc_lt _ _ _ (by simp), cell_of_row _ _ 1 _ _ (0, 0) (heap_alloc_new w _)]
  rfl
theorem int_lit1 (w : World) (x : Int) : ∀ j u, ([.int .i64 x] : List Value)[j]? = some u → (w.alloc (.cells #[.int .i64 x] 3)).cell? ((⟨w.heap.size, 0, none⟩ : Addr).add j) = some u := bint_lit w x
set_option maxRecDepth 100000 in
set_option maxHeartbeats 1600000 in
theorem lput_yes (r : Rg) (hin : InR r) (E : Int) (p : List Nat) (hE : lputX r = (E, p)) (w : World) (ha : argB r = true) (hf : fitB r = true) : Calls Tryz.prog 23 #[.agg #[.int .i64 r.t.ser, .int .i64 r.t.kind, .int .i64 r.t.frm, .int .i64 r.t.till, .int .i64 r.t.cls, .int .i64 r.t.card, .int .i64 r.t.seat, .int .i64 r.t.day, .int .i64 r.t.days, .int .i64 r.t.uses, .int .i64 r.t.epoch, .int .i64 r.key, .int .i64 r.left, .int .i64 r.inn, .int .i64 r.ver]] w fun e w' => ∃ A c, e = .returned (.tuple #[.slice A (p.length : Nat) c, .int .i64 E]) ∧ Bs w' w'.heap.size p A c ∧ Below w.heap.size w w' := by
  rw [lput_join ha hf] at hE
  have HJ := Lib.hid hE
  have hk := kind_in ((argB_iff r).1 ha).1
  have hvl := valL_len hk
  obtain ⟨h1, h2, h3, h3', h4⟩ := (argB_iff r).1 ha
  have H1 := Lib.hid h1
  have H2 := Lib.hid h2
  have H3 := Lib.hid (show (decide (0 ≤ r.key) && decide (r.key ≤ 99)) = true by rw [decide_eq_true h3, decide_eq_true h3']; rfl)
  have q4 : (r.ver != 0) = false := by rw [h4]; rfl
  have q4' : (r.ver == 0) = true := by rw [h4]; rfl
  clear h1 h2 h3 h3' h4
  obtain ⟨h5, h6⟩ := (fitB_iff r).1 hf
  have q5 : (r.t.seat != 0) = false := by rw [h5]; rfl
  have q6 : decide (9999999 < r.t.ser) = false := decide_eq_false (by omega)
  have q5' : (r.t.seat == 0) = true := by rw [h5]; rfl
  have q6' : decide (r.t.ser ≤ 9999999) = true := decide_eq_true h6
  obtain ⟨n, hn⟩ : ∃ n, n = (widL r.t.kind).length := ⟨_, rfl⟩
  have h13 : n ≤ 13 := by rw [hn]; exact widL_le r.t.kind
  have hnf : n = (fieldsL r.t.kind).length := by rw [fieldsL_len, hn]
  have HN := Lib.hid hn
  have HF := Lib.hid hnf
  have HVL := Lib.hid hvl
  have HIN := Lib.hid hin
  have HK := Lib.hid hk
  obtain ⟨i0, hi, hz0, hz1, hz2⟩ := info_parts infoInt
  clear ha hf h5 h6 hE hvl hn hnf hin hk
  obtain ⟨w0, hw0⟩ : ∃ w0, w0 = w.alloc (.cells #[.int .i64 r.t.ser, .int .i64 r.t.kind, .int .i64 r.t.frm, .int .i64 r.t.till, .int .i64 r.t.cls, .int .i64 r.t.card, .int .i64 r.t.seat, .int .i64 r.t.day, .int .i64 r.t.days, .int .i64 r.t.uses, .int .i64 r.t.epoch, .int .i64 r.key, .int .i64 r.left, .int .i64 r.inn, .int .i64 r.ver] 28) := ⟨_, rfl⟩
  have HX : Hid (RBox w0 w.heap.size r) := Lib.hid (by rw [hw0]; exact RBox.new w r)
  have HBL : Hid (Below w.heap.size w w0) := Lib.hid (by rw [hw0]; exact below_lit w _ _)
  have HW := Lib.hid hw0
  clear hw0
  go_enter Tryz.func23, Tryz.ntmps23
  go_wp2_with fail
  rw [← HW.out]
  obtain ⟨e0, e1, e2, e3, e4, e5, e6, e7, e8, e9, e10, e11, e12, e13, e14⟩ := HX.out.cells
  go_wp2_with (first | (go_at_call 59; refine (pis9_any r.t _ H1.out _).mono ?_; rintro e w1 ⟨rfl, hb⟩; clear e0 e1 e2 e3 e4 e5 e6 e7 e8 e9 e10 e11 e12 e13 e14; have HX1 := Lib.hid (HX.out.next hb); have HBL1 := Lib.hid (HBL.out.trans (hb.mono HBL.out.size)); clear hb; obtain ⟨c0, c1, c2, c3, c4, c5, c6, c7, c8, c9, c10, c11, c12, c13, c14⟩ := HX1.out.cells) | (go_at_call 60; refine (psuits_any r.t r.left r.inn _ H2.out _).mono ?_; rintro e w2 ⟨rfl, hb⟩; have HX2 := Lib.hid (HX1.out.next hb); have HBL2 := Lib.hid (HBL1.out.trans (hb.mono HBL1.out.size)); clear hb c0 c1 c2 c3 c4 c5 c6 c7 c8 c9 c10 c11 c12 c13 c14; obtain ⟨d0, d1, d2, d3, d4, d5, d6, d7, d8, d9, d10, d11, d12, d13, d14⟩ := HX2.out.cells; have dk := (HX2.out.alloc (.cells #[.int .i64 r.t.ser, .int .i64 r.t.kind, .int .i64 r.t.frm, .int .i64 r.t.till, .int .i64 r.t.cls, .int .i64 r.t.card, .int .i64 r.t.seat, .int .i64 r.t.day, .int .i64 r.t.days, .int .i64 r.t.uses, .int .i64 r.t.epoch, .int .i64 r.key, .int .i64 r.left, .int .i64 r.inn, .int .i64 r.ver] 81)).cells.2.1) | (go_at_call 61; refine (lwithin_any _ _ _ _ H3.out _).mono ?_; rintro e w3 ⟨rfl, rfl⟩) | (go_at_call 62; refine (pfields_any r.t.kind n HF.out _ _).mono ?_; rintro e w4 ⟨A, c, rfl, hfs, hb⟩; have HFS := Lib.hid hfs; have HB4 := Lib.hid hb; clear hb hfs))
  obtain ⟨X, hX⟩ : ∃ X, X = w2.heap.size := ⟨_, rfl⟩
  have HS4 : Hid (SBox w4 X r) := Lib.hid (by rw [hX]; exact (SBox.new w2 r).next HB4.out)
  have hX4 : X < w4.heap.size := HS4.out.lt
  have HFS4 : Hid (Fs w4 w4.heap.size X (fieldsL r.t.kind) A c) := Lib.hid (by rw [hX]; exact HFS.out)
  have HBL4 : Hid (Below w.heap.size w w4) := Lib.hid (HBL2.out.trans (((below_lit w2 _ _).trans (HB4.out.mono (by simp))).mono HBL2.out.size))
  rw [← hX]
  clear dk HFS HB4 HX HX1 HX2 d0 d1 d2 d3 d4 d5 d6 d7 d8 d9 d10 d11 d12 d13 d14 hX
  go_loopw [5, 6, 8, 48] (fun v u _ i wr => ∃ j : Nat, j ≤ n ∧ i = .int .i64 j ∧ wr.ownsRow w4.heap.size 3 1 v j (I64 ((valL r).take j)) ∧ wr.ownsRow w4.heap.size 3 1 u j (I64 ((widL r.t.kind).take j)) ∧ (∀ g, v.ownBlock = some g → u.ownBlock ≠ some g) ∧ Below w4.heap.size w4 wr) (fun _ _ _ i _ => n - (intOf i).toNat)
  case atStart => exact ⟨0, Nat.zero_le _, rfl, ⟨rfl, .inl ⟨rfl, rfl⟩⟩, ⟨rfl, .inl ⟨rfl, rfl⟩⟩, (fun g hg => by cases hg), Below.refl _ _⟩
  case round =>
    obtain ⟨j, hj, rfl, hv, hu, hap, hbel⟩ := hrel
    have HV := Lib.hid hv
    have HU := Lib.hid hu
    have HAP := Lib.hid hap
    have HB := Lib.hid hbel
    clear hv hu hap hbel
    by_cases hlt : j < n
    · have hjl : j < (fieldsL r.t.kind).length := by rw [← HF.out]; exact hlt
      obtain ⟨⟨o, wd⟩, hx⟩ : ∃ x, (fieldsL r.t.kind)[j]? = some x := ⟨_, List.getElem?_eq_getElem hjl⟩
      obtain ⟨g, rfl, hb, hc, hc'⟩ := (HFS4.out.next HB.out).at hx
      obtain ⟨x, hxv, hxr⟩ := fields_val HK.out hx
      have hw : (widL r.t.kind)[j]? = some wd := by rw [← fieldsL_wid, List.getElem?_map, hx]; rfl
      have hSr : SBox wr X r := HS4.out.below hX4 HB.out
      have hcx : (wr.alloc (.cells #[.pointer (some ⟨X, o, none⟩), .int .i64 wd] 87)).cell? ⟨X, o, none⟩ = some (.int .i64 x) := (hSr.alloc _).at hxr
      have HW := Lib.hid hw
      have HXV := Lib.hid hxv
      have hs0 := HB.out.size
      have b1 : (0 : Int) ≤ (j : Int) := by omega
      have b2 : (j : Int) < (n : Int) := by omega
      clear hjl hx hw hxv hxr hSr
      go_wp2_with (first
        | (at_builtin; refine wpList_append_side _ rfl (.tmp 52) (.tmp 57) 82 rfl w4.heap.size 3 i0 (.int .i64 0) 8 Tryz.underlying82 hi hz0 hz1 hz2 rfl _ j _ rfl ((HV.out.alloc _).alloc _) ⟨wr.heap.size + 1, 0, none⟩ 1 1 [.int .i64 x] rfl rfl (by omega) (int_lit2 _ _ _) (one_int _) (by unfold maxLen; omega) (by omega) (by simp; omega) ?_; intro v' w5 hown hg hd; have HV5 := Lib.hid hown; have HG5 := Lib.hid hg; have HD5 := Lib.hid hd; have hc3 := hg.cell (fd_cell wr _ wd _) (own_ne HV.out (Nat.le_refl _)); have HU5 := Lib.hid (((HU.out.alloc _).alloc _).kept hg (own_other HAP.out)); have hs5 := hg.size; simp at hs5; clear hown hg hd)
        | (at_builtin; refine wpList_append_side _ rfl (.tmp 59) (.tmp 62) 82 rfl w4.heap.size 3 i0 (.int .i64 0) 8 Tryz.underlying82 hi hz0 hz1 hz2 rfl _ j _ rfl (HU5.out.alloc _) ⟨w5.heap.size, 0, none⟩ 1 1 [.int .i64 wd] rfl rfl (by omega) (int_lit1 _ _) (one_int _) (by unfold maxLen; omega) (by omega) (by simp; omega) ?_; intro u' w6 hown hg hd; have HU6 := Lib.hid hown; have HG6 := Lib.hid hg; have HD6 := Lib.hid hd; clear hown hg hd))
      have hB5 : Below w4.heap.size w4 w5 := (((HB.out.alloc hs0 _).alloc (by simp; omega) _)).grown HG5.out (by simp; omega) (fun j hj => own_ge HV.out hj)
      have hB6 : Below w4.heap.size w4 w6 := (hB5.alloc (by omega) _).grown HG6.out (by simp; omega) (fun j hj => own_ge HU5.out hj)
      have hA5 := own_apart2 HD5.out (((HU.out.alloc (.cells #[] 3)).alloc (.cells #[] 3))) (by simp) HAP.out
      have hV6 := (HV5.out.alloc (.cells #[.int .i64 wd] 3)).kept HG6.out (own_other' hA5)
      have hA6 := own_apart3 HD6.out (HV5.out.alloc (.cells #[.int .i64 wd] 3)) (by simp) hA5
      have HV7 := Lib.hid (show w6.ownsRow w4.heap.size 3 1 v' (j + 1) (I64 ((valL r).take (j + 1))) by rw [ltake_snoc HXV.out, I64_append]; exact hV6)
      have HU7 := Lib.hid (show w6.ownsRow w4.heap.size 3 1 u' (j + 1) (I64 ((widL r.t.kind).take (j + 1))) by rw [ltake_snoc HW.out, I64_append]; exact HU6.out)
      have HA7 := Lib.hid hA6
      have HB7 := Lib.hid hB6
      clear hB5 hB6 hA5 hV6 hA6
      go_wp2
      go_roundw
      case rel => exact ⟨j + 1, by omega, by go_num, HV7.out, HU7.out, HA7.out, HB7.out⟩
      case measure => simp [intOf]; omega
    · have e1 : j = n := by omega
      subst e1
      have e2 : (valL r).take j = valL r := List.take_of_length_le (by rw [HVL.out, ← HN.out]; omega)
      have e3 : (widL r.t.kind).take j = widL r.t.kind := List.take_of_length_le (by rw [← HN.out]; omega)
      have ho := HV.out
      have hu := HU.out
      rw [e2] at ho
      rw [e3] at hu
      obtain ⟨A2, c2, rfl, hl2, hzs⟩ := zs_of_own ho
      obtain ⟨A3, c3, rfl, hl3, hzu⟩ := zs_of_own hu
      have HZ := Lib.hid hzs
      have HZU := Lib.hid hzu
      have HL2 := Lib.hid hl2
      have HL3 := Lib.hid hl3
      have HB3 := Lib.hid (HBL4.out.trans (HB.out.mono HBL4.out.size))
      clear e2 e3 ho hzs hu hzu hl2 hl3
      go_wp2_with (go_at_call 63; refine (pjoin_any (valL r) (widL r.t.kind) j j HL2.out HL3.out E p HJ.out A2 A3 c2 c3 _ HZ.out HZU.out (valL_in HIN.out)).mono ?_; rintro e w7 ⟨A7, c7, rfl, hbs, hb⟩; have HBS := Lib.hid hbs; have HB9 := Lib.hid (HB3.out.trans (hb.mono HB3.out.size)); clear hbs hb)
      go_ret2
      exact ⟨A7, c7, rfl, HBS.out, HB9.out⟩
theorem lput_any (r : Rg) (hin : InR r) (E : Int) (p : List Nat) (hE : lputX r = (E, p)) (w : World) : Calls Tryz.prog 23 #[.agg #[.int .i64 r.t.ser, .int .i64 r.t.kind, .int .i64 r.t.frm, .int .i64 r.t.till, .int .i64 r.t.cls, .int .i64 r.t.card, .int .i64 r.t.seat, .int .i64 r.t.day, .int .i64 r.t.days, .int .i64 r.t.uses, .int .i64 r.t.epoch, .int .i64 r.key, .int .i64 r.left, .int .i64 r.inn, .int .i64 r.ver]] w fun e w' => ∃ A c, e = .returned (.tuple #[.slice A (p.length : Nat) c, .int .i64 E]) ∧ Bs w' w'.heap.size p A c ∧ Below w.heap.size w w' := by
  by_cases h1 : okT r.t = true
  · by_cases h2 : suitB r.t.uses r.left r.inn = true
    · cases h3 : (decide (0 ≤ r.key) && decide (r.key ≤ 99)) with
      | false => exact lput_p3 r hin E p hE w h1 h2 h3
      | true =>
        by_cases h4 : r.ver = 0
        · have ha : argB r = true := (argB_iff r).2 ⟨h1, h2, by simp at h3; exact h3.1, by simp at h3; exact h3.2, h4⟩
          by_cases h5 : r.t.seat = 0
          · by_cases h6 : 9999999 < r.t.ser
            · exact lput_p6 r hin E p hE w ha h5 h6
            · exact lput_yes r hin E p hE w ha ((fitB_iff r).2 ⟨h5, by omega⟩)
          · exact lput_p5 r hin E p hE w ha h5
        · exact lput_p4 r hin E p hE w h1 h2 h3 h4
    · exact lput_p2 r hin E p hE w h1 (by simpa using h2)
  · exact lput_p1 r hin E p hE w (by simpa using h1)
end Go.Proofs.YtpniolinndlepaaGreatDoor
