/-
  Contract for the landed Put of layout. Conditions: the numbers fit an int.
-/
import Derived.Test.YtpeccmcojocgkaaLaySide
import Derived.Test.YtpeccmcojocgkaaLayPSmall
import Derived.Test.YtpeccmcojocgkaaTicketPB
import Derived.Test.YtpeccmcojocgkaaBcdPAll
import Derived.OwnWalk
namespace Go.Proofs.Ytpeccmcojocgkaa
set_option linter.unusedVariables false
open Go.ChangeShapes Go.WideShapes Go.ChangeAt Go.RowKit

theorem lput_arg {r : Rg} (h : argB r = false) : lputX r = (1, []) := by rw [lputX, if_pos h]
theorem lput_fit {r : Rg} (h : argB r = true) (h2 : fitB r = false) : lputX r = (18, []) := by rw [lputX, if_neg (by rw [h]; decide), if_pos h2]
theorem lput_join {r : Rg} (h : argB r = true) (h2 : fitB r = true) : lputX r = joinX (valL r) (widL r.t.kind) := by rw [lputX, if_neg (by rw [h]; decide), if_neg (by rw [h2]; decide)]
set_option maxRecDepth 100000 in
set_option maxHeartbeats 1600000 in
theorem lput_p1 (r : Rg) (hin : InR r) (E : Int) (p : List Nat) (hE : lputX r = (E, p)) (w : World) (h1 : okT r.t = false) : Calls Try.prog 8 #[.agg #[.int .i64 r.t.ser, .int .i64 r.t.kind, .int .i64 r.t.frm, .int .i64 r.t.till, .int .i64 r.t.cls, .int .i64 r.t.card, .int .i64 r.t.seat, .int .i64 r.t.day, .int .i64 r.t.days, .int .i64 r.t.uses, .int .i64 r.t.epoch, .int .i64 r.key, .int .i64 r.left, .int .i64 r.inn, .int .i64 r.ver]] w fun e w' => ∃ A c, e = .returned (.tuple #[.slice A (p.length : Nat) c, .int .i64 E]) ∧ Bs w' w'.heap.size p A c ∧ Below w.heap.size w w' := by
  have ha : argB r = false := by rw [argB, h1]; rfl
  obtain ⟨rfl, rfl⟩ : E = 1 ∧ p = [] := by have := hE; rw [lput_arg ha] at this; exact ⟨(Prod.mk.inj this).1.symm, (Prod.mk.inj this).2.symm⟩
  clear hE
  have H1 := Lib.hid h1
  clear h1 ha
  obtain ⟨w0, hw0⟩ : ∃ w0, w0 = w.alloc (.cells #[.int .i64 r.t.ser, .int .i64 r.t.kind, .int .i64 r.t.frm, .int .i64 r.t.till, .int .i64 r.t.cls, .int .i64 r.t.card, .int .i64 r.t.seat, .int .i64 r.t.day, .int .i64 r.t.days, .int .i64 r.t.uses, .int .i64 r.t.epoch, .int .i64 r.key, .int .i64 r.left, .int .i64 r.inn, .int .i64 r.ver] 27) := ⟨_, rfl⟩
  have HX : Hid (RBox w0 w.heap.size r) := Lib.hid (by rw [hw0]; exact RBox.new w r)
  have HBL : Hid (Below w.heap.size w w0) := Lib.hid (by rw [hw0]; exact below_lit w _ _)
  have HW := Lib.hid hw0
  clear hw0
  go_enter Try.func8, Try.ntmps8
  go_wp2_with fail
  rw [← HW.out]
  obtain ⟨e0, e1, e2, e3, e4, e5, e6, e7, e8, e9, e10, e11, e12, e13, e14⟩ := HX.out.cells
  go_wp2_with (first | (go_at_call 19; refine (pis9_any r.t _ H1.out _).mono ?_; rintro e w1 ⟨rfl, hb⟩; clear e0 e1 e2 e3 e4 e5 e6 e7 e8 e9 e10 e11 e12 e13 e14; have HX1 := Lib.hid (HX.out.next hb); have HBL1 := Lib.hid (HBL.out.trans (hb.mono HBL.out.size)); clear hb; obtain ⟨c0, c1, c2, c3, c4, c5, c6, c7, c8, c9, c10, c11, c12, c13, c14⟩ := HX1.out.cells))
  go_ret2
  exact ⟨none, 0, rfl, bs_nil _, HBL1.out⟩
set_option maxRecDepth 100000 in
set_option maxHeartbeats 1600000 in
theorem lput_p2 (r : Rg) (hin : InR r) (E : Int) (p : List Nat) (hE : lputX r = (E, p)) (w : World) (h1 : okT r.t = true) (h2 : suitB r.t.uses r.left r.inn = false) : Calls Try.prog 8 #[.agg #[.int .i64 r.t.ser, .int .i64 r.t.kind, .int .i64 r.t.frm, .int .i64 r.t.till, .int .i64 r.t.cls, .int .i64 r.t.card, .int .i64 r.t.seat, .int .i64 r.t.day, .int .i64 r.t.days, .int .i64 r.t.uses, .int .i64 r.t.epoch, .int .i64 r.key, .int .i64 r.left, .int .i64 r.inn, .int .i64 r.ver]] w fun e w' => ∃ A c, e = .returned (.tuple #[.slice A (p.length : Nat) c, .int .i64 E]) ∧ Bs w' w'.heap.size p A c ∧ Below w.heap.size w w' := by
  have ha : argB r = false := by rw [argB, h1, h2]; rfl
  obtain ⟨rfl, rfl⟩ : E = 1 ∧ p = [] := by have := hE; rw [lput_arg ha] at this; exact ⟨(Prod.mk.inj this).1.symm, (Prod.mk.inj this).2.symm⟩
  clear hE
  have H1 := Lib.hid h1
  have H2 := Lib.hid h2
  clear h1 h2 ha
  obtain ⟨w0, hw0⟩ : ∃ w0, w0 = w.alloc (.cells #[.int .i64 r.t.ser, .int .i64 r.t.kind, .int .i64 r.t.frm, .int .i64 r.t.till, .int .i64 r.t.cls, .int .i64 r.t.card, .int .i64 r.t.seat, .int .i64 r.t.day, .int .i64 r.t.days, .int .i64 r.t.uses, .int .i64 r.t.epoch, .int .i64 r.key, .int .i64 r.left, .int .i64 r.inn, .int .i64 r.ver] 27) := ⟨_, rfl⟩
  have HX : Hid (RBox w0 w.heap.size r) := Lib.hid (by rw [hw0]; exact RBox.new w r)
  have HBL : Hid (Below w.heap.size w w0) := Lib.hid (by rw [hw0]; exact below_lit w _ _)
  have HW := Lib.hid hw0
  clear hw0
  go_enter Try.func8, Try.ntmps8
  go_wp2_with fail
  rw [← HW.out]
  obtain ⟨e0, e1, e2, e3, e4, e5, e6, e7, e8, e9, e10, e11, e12, e13, e14⟩ := HX.out.cells
  go_wp2_with (first | (go_at_call 19; refine (pis9_any r.t _ H1.out _).mono ?_; rintro e w1 ⟨rfl, hb⟩; clear e0 e1 e2 e3 e4 e5 e6 e7 e8 e9 e10 e11 e12 e13 e14; have HX1 := Lib.hid (HX.out.next hb); have HBL1 := Lib.hid (HBL.out.trans (hb.mono HBL.out.size)); clear hb; obtain ⟨c0, c1, c2, c3, c4, c5, c6, c7, c8, c9, c10, c11, c12, c13, c14⟩ := HX1.out.cells) | (go_at_call 15; refine (psuits_any r.t r.left r.inn _ H2.out _).mono ?_; rintro e w2 ⟨rfl, hb⟩; have HX2 := Lib.hid (HX1.out.next hb); have HBL2 := Lib.hid (HBL1.out.trans (hb.mono HBL1.out.size)); clear hb c0 c1 c2 c3 c4 c5 c6 c7 c8 c9 c10 c11 c12 c13 c14; obtain ⟨d0, d1, d2, d3, d4, d5, d6, d7, d8, d9, d10, d11, d12, d13, d14⟩ := HX2.out.cells))
  go_ret2
  exact ⟨none, 0, rfl, bs_nil _, HBL2.out⟩
set_option maxRecDepth 100000 in
set_option maxHeartbeats 1600000 in
theorem lput_p3 (r : Rg) (hin : InR r) (E : Int) (p : List Nat) (hE : lputX r = (E, p)) (w : World) (h1 : okT r.t = true) (h2 : suitB r.t.uses r.left r.inn = true) (h3 : (decide (0 ≤ r.key) && decide (r.key ≤ 99)) = false) : Calls Try.prog 8 #[.agg #[.int .i64 r.t.ser, .int .i64 r.t.kind, .int .i64 r.t.frm, .int .i64 r.t.till, .int .i64 r.t.cls, .int .i64 r.t.card, .int .i64 r.t.seat, .int .i64 r.t.day, .int .i64 r.t.days, .int .i64 r.t.uses, .int .i64 r.t.epoch, .int .i64 r.key, .int .i64 r.left, .int .i64 r.inn, .int .i64 r.ver]] w fun e w' => ∃ A c, e = .returned (.tuple #[.slice A (p.length : Nat) c, .int .i64 E]) ∧ Bs w' w'.heap.size p A c ∧ Below w.heap.size w w' := by
  have ha : argB r = false := by rw [argB, h1, h2, Bool.true_and, Bool.true_and, ← Bool.and_assoc, h3]; rfl
  obtain ⟨rfl, rfl⟩ : E = 1 ∧ p = [] := by have := hE; rw [lput_arg ha] at this; exact ⟨(Prod.mk.inj this).1.symm, (Prod.mk.inj this).2.symm⟩
  clear hE
  have H1 := Lib.hid h1
  have H2 := Lib.hid h2
  have H3 := Lib.hid h3
  clear h1 h2 h3 ha
  obtain ⟨w0, hw0⟩ : ∃ w0, w0 = w.alloc (.cells #[.int .i64 r.t.ser, .int .i64 r.t.kind, .int .i64 r.t.frm, .int .i64 r.t.till, .int .i64 r.t.cls, .int .i64 r.t.card, .int .i64 r.t.seat, .int .i64 r.t.day, .int .i64 r.t.days, .int .i64 r.t.uses, .int .i64 r.t.epoch, .int .i64 r.key, .int .i64 r.left, .int .i64 r.inn, .int .i64 r.ver] 27) := ⟨_, rfl⟩
  have HX : Hid (RBox w0 w.heap.size r) := Lib.hid (by rw [hw0]; exact RBox.new w r)
  have HBL : Hid (Below w.heap.size w w0) := Lib.hid (by rw [hw0]; exact below_lit w _ _)
  have HW := Lib.hid hw0
  clear hw0
  go_enter Try.func8, Try.ntmps8
  go_wp2_with fail
  rw [← HW.out]
  obtain ⟨e0, e1, e2, e3, e4, e5, e6, e7, e8, e9, e10, e11, e12, e13, e14⟩ := HX.out.cells
  go_wp2_with (first | (go_at_call 19; refine (pis9_any r.t _ H1.out _).mono ?_; rintro e w1 ⟨rfl, hb⟩; clear e0 e1 e2 e3 e4 e5 e6 e7 e8 e9 e10 e11 e12 e13 e14; have HX1 := Lib.hid (HX.out.next hb); have HBL1 := Lib.hid (HBL.out.trans (hb.mono HBL.out.size)); clear hb; obtain ⟨c0, c1, c2, c3, c4, c5, c6, c7, c8, c9, c10, c11, c12, c13, c14⟩ := HX1.out.cells) | (go_at_call 15; refine (psuits_any r.t r.left r.inn _ H2.out _).mono ?_; rintro e w2 ⟨rfl, hb⟩; have HX2 := Lib.hid (HX1.out.next hb); have HBL2 := Lib.hid (HBL1.out.trans (hb.mono HBL1.out.size)); clear hb c0 c1 c2 c3 c4 c5 c6 c7 c8 c9 c10 c11 c12 c13 c14; obtain ⟨d0, d1, d2, d3, d4, d5, d6, d7, d8, d9, d10, d11, d12, d13, d14⟩ := HX2.out.cells) | (go_at_call 20; refine (lwithin_any _ _ _ _ H3.out _).mono ?_; rintro e w3 ⟨rfl, rfl⟩))
  go_ret2
  exact ⟨none, 0, rfl, bs_nil _, HBL2.out⟩
set_option maxRecDepth 100000 in
set_option maxHeartbeats 1600000 in
theorem lput_p4 (r : Rg) (hin : InR r) (E : Int) (p : List Nat) (hE : lputX r = (E, p)) (w : World) (h1 : okT r.t = true) (h2 : suitB r.t.uses r.left r.inn = true) (h3 : (decide (0 ≤ r.key) && decide (r.key ≤ 99)) = true) (h4 : r.ver ≠ 0) : Calls Try.prog 8 #[.agg #[.int .i64 r.t.ser, .int .i64 r.t.kind, .int .i64 r.t.frm, .int .i64 r.t.till, .int .i64 r.t.cls, .int .i64 r.t.card, .int .i64 r.t.seat, .int .i64 r.t.day, .int .i64 r.t.days, .int .i64 r.t.uses, .int .i64 r.t.epoch, .int .i64 r.key, .int .i64 r.left, .int .i64 r.inn, .int .i64 r.ver]] w fun e w' => ∃ A c, e = .returned (.tuple #[.slice A (p.length : Nat) c, .int .i64 E]) ∧ Bs w' w'.heap.size p A c ∧ Below w.heap.size w w' := by
  have ha : argB r = false := by cases h : argB r with | false => rfl | true => exact (h4 ((argB_iff r).1 h).2.2.2.2).elim
  obtain ⟨rfl, rfl⟩ : E = 1 ∧ p = [] := by have := hE; rw [lput_arg ha] at this; exact ⟨(Prod.mk.inj this).1.symm, (Prod.mk.inj this).2.symm⟩
  clear hE
  have H1 := Lib.hid h1
  have H2 := Lib.hid h2
  have H3 := Lib.hid h3
  have q4 : (r.ver != 0) = true := by rw [bne_iff_ne]; exact h4
  clear h1 h2 h3 h4 ha
  obtain ⟨w0, hw0⟩ : ∃ w0, w0 = w.alloc (.cells #[.int .i64 r.t.ser, .int .i64 r.t.kind, .int .i64 r.t.frm, .int .i64 r.t.till, .int .i64 r.t.cls, .int .i64 r.t.card, .int .i64 r.t.seat, .int .i64 r.t.day, .int .i64 r.t.days, .int .i64 r.t.uses, .int .i64 r.t.epoch, .int .i64 r.key, .int .i64 r.left, .int .i64 r.inn, .int .i64 r.ver] 27) := ⟨_, rfl⟩
  have HX : Hid (RBox w0 w.heap.size r) := Lib.hid (by rw [hw0]; exact RBox.new w r)
  have HBL : Hid (Below w.heap.size w w0) := Lib.hid (by rw [hw0]; exact below_lit w _ _)
  have HW := Lib.hid hw0
  clear hw0
  go_enter Try.func8, Try.ntmps8
  go_wp2_with fail
  rw [← HW.out]
  obtain ⟨e0, e1, e2, e3, e4, e5, e6, e7, e8, e9, e10, e11, e12, e13, e14⟩ := HX.out.cells
  go_wp2_with (first | (go_at_call 19; refine (pis9_any r.t _ H1.out _).mono ?_; rintro e w1 ⟨rfl, hb⟩; clear e0 e1 e2 e3 e4 e5 e6 e7 e8 e9 e10 e11 e12 e13 e14; have HX1 := Lib.hid (HX.out.next hb); have HBL1 := Lib.hid (HBL.out.trans (hb.mono HBL.out.size)); clear hb; obtain ⟨c0, c1, c2, c3, c4, c5, c6, c7, c8, c9, c10, c11, c12, c13, c14⟩ := HX1.out.cells) | (go_at_call 15; refine (psuits_any r.t r.left r.inn _ H2.out _).mono ?_; rintro e w2 ⟨rfl, hb⟩; have HX2 := Lib.hid (HX1.out.next hb); have HBL2 := Lib.hid (HBL1.out.trans (hb.mono HBL1.out.size)); clear hb c0 c1 c2 c3 c4 c5 c6 c7 c8 c9 c10 c11 c12 c13 c14; obtain ⟨d0, d1, d2, d3, d4, d5, d6, d7, d8, d9, d10, d11, d12, d13, d14⟩ := HX2.out.cells) | (go_at_call 20; refine (lwithin_any _ _ _ _ H3.out _).mono ?_; rintro e w3 ⟨rfl, rfl⟩))
  go_ret2
  exact ⟨none, 0, rfl, bs_nil _, HBL2.out⟩
set_option maxRecDepth 100000 in
set_option maxHeartbeats 1600000 in
theorem lput_p5 (r : Rg) (hin : InR r) (E : Int) (p : List Nat) (hE : lputX r = (E, p)) (w : World) (ha : argB r = true) (h5 : r.t.seat ≠ 0) : Calls Try.prog 8 #[.agg #[.int .i64 r.t.ser, .int .i64 r.t.kind, .int .i64 r.t.frm, .int .i64 r.t.till, .int .i64 r.t.cls, .int .i64 r.t.card, .int .i64 r.t.seat, .int .i64 r.t.day, .int .i64 r.t.days, .int .i64 r.t.uses, .int .i64 r.t.epoch, .int .i64 r.key, .int .i64 r.left, .int .i64 r.inn, .int .i64 r.ver]] w fun e w' => ∃ A c, e = .returned (.tuple #[.slice A (p.length : Nat) c, .int .i64 E]) ∧ Bs w' w'.heap.size p A c ∧ Below w.heap.size w w' := by
  have hf : fitB r = false := by cases h : fitB r with | false => rfl | true => exact (h5 ((fitB_iff r).1 h).1).elim
  obtain ⟨rfl, rfl⟩ : E = 18 ∧ p = [] := by have := hE; rw [lput_fit ha hf] at this; exact ⟨(Prod.mk.inj this).1.symm, (Prod.mk.inj this).2.symm⟩
  clear hE
  obtain ⟨h1, h2, h3, h3', h4⟩ := (argB_iff r).1 ha
  have H1 := Lib.hid h1
  have H2 := Lib.hid h2
  have H3 := Lib.hid (show (decide (0 ≤ r.key) && decide (r.key ≤ 99)) = true by rw [decide_eq_true h3, decide_eq_true h3']; rfl)
  have q4 : (r.ver != 0) = false := by rw [h4]; rfl
  have q4' : (r.ver == 0) = true := by rw [h4]; rfl
  clear h1 h2 h3 h3' h4
  have q5 : (r.t.seat != 0) = true := by rw [bne_iff_ne]; exact h5
  clear ha hf h5
  obtain ⟨w0, hw0⟩ : ∃ w0, w0 = w.alloc (.cells #[.int .i64 r.t.ser, .int .i64 r.t.kind, .int .i64 r.t.frm, .int .i64 r.t.till, .int .i64 r.t.cls, .int .i64 r.t.card, .int .i64 r.t.seat, .int .i64 r.t.day, .int .i64 r.t.days, .int .i64 r.t.uses, .int .i64 r.t.epoch, .int .i64 r.key, .int .i64 r.left, .int .i64 r.inn, .int .i64 r.ver] 27) := ⟨_, rfl⟩
  have HX : Hid (RBox w0 w.heap.size r) := Lib.hid (by rw [hw0]; exact RBox.new w r)
  have HBL : Hid (Below w.heap.size w w0) := Lib.hid (by rw [hw0]; exact below_lit w _ _)
  have HW := Lib.hid hw0
  clear hw0
  go_enter Try.func8, Try.ntmps8
  go_wp2_with fail
  rw [← HW.out]
  obtain ⟨e0, e1, e2, e3, e4, e5, e6, e7, e8, e9, e10, e11, e12, e13, e14⟩ := HX.out.cells
  go_wp2_with (first | (go_at_call 19; refine (pis9_any r.t _ H1.out _).mono ?_; rintro e w1 ⟨rfl, hb⟩; clear e0 e1 e2 e3 e4 e5 e6 e7 e8 e9 e10 e11 e12 e13 e14; have HX1 := Lib.hid (HX.out.next hb); have HBL1 := Lib.hid (HBL.out.trans (hb.mono HBL.out.size)); clear hb; obtain ⟨c0, c1, c2, c3, c4, c5, c6, c7, c8, c9, c10, c11, c12, c13, c14⟩ := HX1.out.cells) | (go_at_call 15; refine (psuits_any r.t r.left r.inn _ H2.out _).mono ?_; rintro e w2 ⟨rfl, hb⟩; have HX2 := Lib.hid (HX1.out.next hb); have HBL2 := Lib.hid (HBL1.out.trans (hb.mono HBL1.out.size)); clear hb c0 c1 c2 c3 c4 c5 c6 c7 c8 c9 c10 c11 c12 c13 c14; obtain ⟨d0, d1, d2, d3, d4, d5, d6, d7, d8, d9, d10, d11, d12, d13, d14⟩ := HX2.out.cells) | (go_at_call 20; refine (lwithin_any _ _ _ _ H3.out _).mono ?_; rintro e w3 ⟨rfl, rfl⟩))
  go_ret2
  exact ⟨none, 0, rfl, bs_nil _, HBL2.out⟩
set_option maxRecDepth 100000 in
set_option maxHeartbeats 1600000 in
theorem lput_p6 (r : Rg) (hin : InR r) (E : Int) (p : List Nat) (hE : lputX r = (E, p)) (w : World) (ha : argB r = true) (h5 : r.t.seat = 0) (h6 : 9999999 < r.t.ser) : Calls Try.prog 8 #[.agg #[.int .i64 r.t.ser, .int .i64 r.t.kind, .int .i64 r.t.frm, .int .i64 r.t.till, .int .i64 r.t.cls, .int .i64 r.t.card, .int .i64 r.t.seat, .int .i64 r.t.day, .int .i64 r.t.days, .int .i64 r.t.uses, .int .i64 r.t.epoch, .int .i64 r.key, .int .i64 r.left, .int .i64 r.inn, .int .i64 r.ver]] w fun e w' => ∃ A c, e = .returned (.tuple #[.slice A (p.length : Nat) c, .int .i64 E]) ∧ Bs w' w'.heap.size p A c ∧ Below w.heap.size w w' := by
  have hf : fitB r = false := by cases h : fitB r with | false => rfl | true => (have := ((fitB_iff r).1 h).2; omega)
  obtain ⟨rfl, rfl⟩ : E = 18 ∧ p = [] := by have := hE; rw [lput_fit ha hf] at this; exact ⟨(Prod.mk.inj this).1.symm, (Prod.mk.inj this).2.symm⟩
  clear hE
  obtain ⟨h1, h2, h3, h3', h4⟩ := (argB_iff r).1 ha
  have H1 := Lib.hid h1
  have H2 := Lib.hid h2
  have H3 := Lib.hid (show (decide (0 ≤ r.key) && decide (r.key ≤ 99)) = true by rw [decide_eq_true h3, decide_eq_true h3']; rfl)
  have q4 : (r.ver != 0) = false := by rw [h4]; rfl
  have q4' : (r.ver == 0) = true := by rw [h4]; rfl
  clear h1 h2 h3 h3' h4
  have q5 : (r.t.seat != 0) = false := by rw [h5]; rfl
  have q6 : decide (9999999 < r.t.ser) = true := decide_eq_true h6
  clear ha hf h5
  obtain ⟨w0, hw0⟩ : ∃ w0, w0 = w.alloc (.cells #[.int .i64 r.t.ser, .int .i64 r.t.kind, .int .i64 r.t.frm, .int .i64 r.t.till, .int .i64 r.t.cls, .int .i64 r.t.card, .int .i64 r.t.seat, .int .i64 r.t.day, .int .i64 r.t.days, .int .i64 r.t.uses, .int .i64 r.t.epoch, .int .i64 r.key, .int .i64 r.left, .int .i64 r.inn, .int .i64 r.ver] 27) := ⟨_, rfl⟩
  have HX : Hid (RBox w0 w.heap.size r) := Lib.hid (by rw [hw0]; exact RBox.new w r)
  have HBL : Hid (Below w.heap.size w w0) := Lib.hid (by rw [hw0]; exact below_lit w _ _)
  have HW := Lib.hid hw0
  clear hw0
  go_enter Try.func8, Try.ntmps8
  go_wp2_with fail
  rw [← HW.out]
  obtain ⟨e0, e1, e2, e3, e4, e5, e6, e7, e8, e9, e10, e11, e12, e13, e14⟩ := HX.out.cells
  go_wp2_with (first | (go_at_call 19; refine (pis9_any r.t _ H1.out _).mono ?_; rintro e w1 ⟨rfl, hb⟩; clear e0 e1 e2 e3 e4 e5 e6 e7 e8 e9 e10 e11 e12 e13 e14; have HX1 := Lib.hid (HX.out.next hb); have HBL1 := Lib.hid (HBL.out.trans (hb.mono HBL.out.size)); clear hb; obtain ⟨c0, c1, c2, c3, c4, c5, c6, c7, c8, c9, c10, c11, c12, c13, c14⟩ := HX1.out.cells) | (go_at_call 15; refine (psuits_any r.t r.left r.inn _ H2.out _).mono ?_; rintro e w2 ⟨rfl, hb⟩; have HX2 := Lib.hid (HX1.out.next hb); have HBL2 := Lib.hid (HBL1.out.trans (hb.mono HBL1.out.size)); clear hb c0 c1 c2 c3 c4 c5 c6 c7 c8 c9 c10 c11 c12 c13 c14; obtain ⟨d0, d1, d2, d3, d4, d5, d6, d7, d8, d9, d10, d11, d12, d13, d14⟩ := HX2.out.cells) | (go_at_call 20; refine (lwithin_any _ _ _ _ H3.out _).mono ?_; rintro e w3 ⟨rfl, rfl⟩))
  go_ret2
  exact ⟨none, 0, rfl, bs_nil _, HBL2.out⟩
end Go.Proofs.Ytpeccmcojocgkaa
