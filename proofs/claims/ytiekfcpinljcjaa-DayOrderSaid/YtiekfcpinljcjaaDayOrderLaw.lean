/-
  DayOrder walked, out of the four contracts: it answers true. Conditions: the numbers fit an int.
-/
import Derived.Test.YtiekfcpinljcjaaDated
namespace Go.Proofs.Ytiekfcpinljcjaa
set_option linter.unusedVariables false
open Go.ChangeShapes Go.WideShapes Go.ChangeAt Go.RowKit

set_option maxRecDepth 100000 in
set_option maxHeartbeats 1600000 in
theorem order_any (C : DC) (a b : D) (i1 : In64 a.y) (i2 : In64 a.m) (i3 : In64 a.d) (j1 : In64 b.y) (j2 : In64 b.m) (j3 : In64 b.d) (w : World) :
    Calls Try.prog 6 #[.agg #[.int .i64 a.y, .int .i64 a.m, .int .i64 a.d], .agg #[.int .i64 b.y, .int .i64 b.m, .int .i64 b.d]] w fun e w' => e = .returned (.bool true) ∧ Below w.heap.size w w' := by
  have A1 := Lib.hid i1
  have A2 := Lib.hid i2
  have A3 := Lib.hid i3
  have B1 := Lib.hid j1
  have B2 := Lib.hid j2
  have B3 := Lib.hid j3
  clear i1 i2 i3 j1 j2 j3
  obtain ⟨w0, hw0⟩ : ∃ w0, w0 = (w.alloc (.cells #[.int .i64 a.y, .int .i64 a.m, .int .i64 a.d] 23)).alloc (.cells #[.int .i64 b.y, .int .i64 b.m, .int .i64 b.d] 23) := ⟨_, rfl⟩
  have X2 : Hid (DBox w0 w.heap.size a) := Lib.hid (by rw [hw0]; exact (DBox.new w a).next (below_lit _ _ _))
  have X3 : Hid (DBox w0 (w.heap.size + 1) b) := Lib.hid (by
    have := DBox.new (w.alloc (.cells #[.int .i64 a.y, .int .i64 a.m, .int .i64 a.d] 23)) b
    rw [hw0]
    simpa using this)
  have HBL : Hid (Below w.heap.size w w0) := Lib.hid (by rw [hw0]; exact ((Below.refl _ w).alloc (Nat.le_refl _) _).alloc (by simp) _)
  have HW := Lib.hid hw0
  clear hw0
  obtain ⟨M, hM⟩ : ∃ M, ofN a = M := ⟨_, rfl⟩
  obtain ⟨N, hN⟩ : ∃ N, ofN b = N := ⟨_, rfl⟩
  have HM := Lib.hid hM
  have HN := Lib.hid hN
  cases ha : okD a with
  | false =>
    have HE := Lib.hid (show ofE a = 1 by rw [ofE, if_neg (by rw [ha]; decide)])
    obtain ⟨F, hF⟩ : ∃ F, ofE b = F := ⟨_, rfl⟩
    have HF := Lib.hid hF
    clear ha hF hM hN
    go_enter Try.func6, Try.ntmps6
    have c0 : w0.cell? ⟨_, 0, none⟩ = some (.int .i64 (a.y)) := X2.out.cells.1
    have c1 : w0.cell? ⟨_, 1, none⟩ = some (.int .i64 (a.m)) := X2.out.cells.2.1
    have c2 : w0.cell? ⟨_, 2, none⟩ = some (.int .i64 (a.d)) := X2.out.cells.2.2
    go_wp2_with fail
    rw [← HW.out]
    clear c0 c1 c2
    have c0 : w0.cell? ⟨_, 0, none⟩ = some (.int .i64 (a.y)) := X2.out.cells.1
    have c1 : w0.cell? ⟨_, 1, none⟩ = some (.int .i64 (a.m)) := X2.out.cells.2.1
    have c2 : w0.cell? ⟨_, 2, none⟩ = some (.int .i64 (a.d)) := X2.out.cells.2.2
    skip
    refine (C.of a M 1 w0 A1.out A2.out A3.out HM.out HE.out).mono ?_
    rintro e w1 ⟨rfl, hb⟩
    replace X2 := Lib.hid (X2.out.next hb)
    replace X3 := Lib.hid (X3.out.next hb)
    replace HBL := Lib.hid (HBL.out.trans (hb.mono HBL.out.size))
    clear c0 c1 c2
    clear hb
    have d0 : w1.cell? ⟨_, 0, none⟩ = some (.int .i64 (b.y)) := X3.out.cells.1
    have d1 : w1.cell? ⟨_, 1, none⟩ = some (.int .i64 (b.m)) := X3.out.cells.2.1
    have d2 : w1.cell? ⟨_, 2, none⟩ = some (.int .i64 (b.d)) := X3.out.cells.2.2
    go_wp2_with fail
    refine (C.of b N F w1 B1.out B2.out B3.out HN.out HF.out).mono ?_
    rintro e w2 ⟨rfl, hb⟩
    replace X2 := Lib.hid (X2.out.next hb)
    replace X3 := Lib.hid (X3.out.next hb)
    replace HBL := Lib.hid (HBL.out.trans (hb.mono HBL.out.size))
    clear d0 d1 d2
    clear hb
    have c0 : w2.cell? ⟨_, 0, none⟩ = some (.int .i64 (a.y)) := X2.out.cells.1
    have c1 : w2.cell? ⟨_, 1, none⟩ = some (.int .i64 (a.m)) := X2.out.cells.2.1
    have c2 : w2.cell? ⟨_, 2, none⟩ = some (.int .i64 (a.d)) := X2.out.cells.2.2
    have d0 : w2.cell? ⟨_, 0, none⟩ = some (.int .i64 (b.y)) := X3.out.cells.1
    have d1 : w2.cell? ⟨_, 1, none⟩ = some (.int .i64 (b.m)) := X3.out.cells.2.1
    have d2 : w2.cell? ⟨_, 2, none⟩ = some (.int .i64 (b.d)) := X3.out.cells.2.2
    go_wp2_with fail
    refine (dated_any C w2).mono ?_
    rintro e w3 ⟨rfl, hb⟩
    replace X2 := Lib.hid (X2.out.next hb)
    replace X3 := Lib.hid (X3.out.next hb)
    replace HBL := Lib.hid (HBL.out.trans (hb.mono HBL.out.size))
    clear c0 c1 c2 d0 d1 d2
    clear hb
    have c0 : w3.cell? ⟨_, 0, none⟩ = some (.int .i64 (a.y)) := X2.out.cells.1
    have c1 : w3.cell? ⟨_, 1, none⟩ = some (.int .i64 (a.m)) := X2.out.cells.2.1
    have c2 : w3.cell? ⟨_, 2, none⟩ = some (.int .i64 (a.d)) := X2.out.cells.2.2
    have d0 : w3.cell? ⟨_, 0, none⟩ = some (.int .i64 (b.y)) := X3.out.cells.1
    have d1 : w3.cell? ⟨_, 1, none⟩ = some (.int .i64 (b.m)) := X3.out.cells.2.1
    have d2 : w3.cell? ⟨_, 2, none⟩ = some (.int .i64 (b.d)) := X3.out.cells.2.2
    go_wp2
    go_ret
    exact ⟨rfl, HBL.out⟩
  | true =>
    have HE := Lib.hid (show ofE a = 0 by rw [ofE, if_pos ha])
    cases hb : okD b with
    | false =>
      have HF := Lib.hid (show ofE b = 1 by rw [ofE, if_neg (by rw [hb]; decide)])
      clear ha hb hM hN
      go_enter Try.func6, Try.ntmps6
      have c0 : w0.cell? ⟨_, 0, none⟩ = some (.int .i64 (a.y)) := X2.out.cells.1
      have c1 : w0.cell? ⟨_, 1, none⟩ = some (.int .i64 (a.m)) := X2.out.cells.2.1
      have c2 : w0.cell? ⟨_, 2, none⟩ = some (.int .i64 (a.d)) := X2.out.cells.2.2
      go_wp2_with fail
      rw [← HW.out]
      clear c0 c1 c2
      have c0 : w0.cell? ⟨_, 0, none⟩ = some (.int .i64 (a.y)) := X2.out.cells.1
      have c1 : w0.cell? ⟨_, 1, none⟩ = some (.int .i64 (a.m)) := X2.out.cells.2.1
      have c2 : w0.cell? ⟨_, 2, none⟩ = some (.int .i64 (a.d)) := X2.out.cells.2.2
      skip
      refine (C.of a M 0 w0 A1.out A2.out A3.out HM.out HE.out).mono ?_
      rintro e w1 ⟨rfl, hb⟩
      replace X2 := Lib.hid (X2.out.next hb)
      replace X3 := Lib.hid (X3.out.next hb)
      replace HBL := Lib.hid (HBL.out.trans (hb.mono HBL.out.size))
      clear c0 c1 c2
      clear hb
      have d0 : w1.cell? ⟨_, 0, none⟩ = some (.int .i64 (b.y)) := X3.out.cells.1
      have d1 : w1.cell? ⟨_, 1, none⟩ = some (.int .i64 (b.m)) := X3.out.cells.2.1
      have d2 : w1.cell? ⟨_, 2, none⟩ = some (.int .i64 (b.d)) := X3.out.cells.2.2
      go_wp2_with fail
      refine (C.of b N 1 w1 B1.out B2.out B3.out HN.out HF.out).mono ?_
      rintro e w2 ⟨rfl, hb⟩
      replace X2 := Lib.hid (X2.out.next hb)
      replace X3 := Lib.hid (X3.out.next hb)
      replace HBL := Lib.hid (HBL.out.trans (hb.mono HBL.out.size))
      clear d0 d1 d2
      clear hb
      have c0 : w2.cell? ⟨_, 0, none⟩ = some (.int .i64 (a.y)) := X2.out.cells.1
      have c1 : w2.cell? ⟨_, 1, none⟩ = some (.int .i64 (a.m)) := X2.out.cells.2.1
      have c2 : w2.cell? ⟨_, 2, none⟩ = some (.int .i64 (a.d)) := X2.out.cells.2.2
      have d0 : w2.cell? ⟨_, 0, none⟩ = some (.int .i64 (b.y)) := X3.out.cells.1
      have d1 : w2.cell? ⟨_, 1, none⟩ = some (.int .i64 (b.m)) := X3.out.cells.2.1
      have d2 : w2.cell? ⟨_, 2, none⟩ = some (.int .i64 (b.d)) := X3.out.cells.2.2
      go_wp2_with fail
      refine (dated_any C w2).mono ?_
      rintro e w3 ⟨rfl, hb⟩
      replace X2 := Lib.hid (X2.out.next hb)
      replace X3 := Lib.hid (X3.out.next hb)
      replace HBL := Lib.hid (HBL.out.trans (hb.mono HBL.out.size))
      clear c0 c1 c2 d0 d1 d2
      clear hb
      have c0 : w3.cell? ⟨_, 0, none⟩ = some (.int .i64 (a.y)) := X2.out.cells.1
      have c1 : w3.cell? ⟨_, 1, none⟩ = some (.int .i64 (a.m)) := X2.out.cells.2.1
      have c2 : w3.cell? ⟨_, 2, none⟩ = some (.int .i64 (a.d)) := X2.out.cells.2.2
      have d0 : w3.cell? ⟨_, 0, none⟩ = some (.int .i64 (b.y)) := X3.out.cells.1
      have d1 : w3.cell? ⟨_, 1, none⟩ = some (.int .i64 (b.m)) := X3.out.cells.2.1
      have d2 : w3.cell? ⟨_, 2, none⟩ = some (.int .i64 (b.d)) := X3.out.cells.2.2
      go_wp2
      go_ret
      exact ⟨rfl, HBL.out⟩
    | true =>
      have HF := Lib.hid (show ofE b = 0 by rw [ofE, if_pos hb])
      obtain ⟨hl, he⟩ := less_iff ha hb
      rw [hM, hN] at hl he
      have hl' : lessD a b = true ↔ (a.y < b.y ∨ (a.y = b.y ∧ (a.m < b.m ∨ (a.m = b.m ∧ a.d < b.d)))) := by
        simp only [lessD, Bool.or_eq_true, Bool.and_eq_true, decide_eq_true_iff]
      have he' : a = b ↔ (a.y = b.y ∧ a.m = b.m ∧ a.d = b.d) := ⟨fun e => by rw [e]; exact ⟨rfl, rfl, rfl⟩, fun e => D.ext' e.1 e.2.1 e.2.2⟩
      rw [hl'] at hl
      rw [he'] at he
      clear ha hb hM hN hl' he'
      rcases Int.lt_trichotomy a.y b.y with hy | hy | hy
      · skip
        have q1 : (a.y == b.y) = false := by rw [beq_eq_false_iff_ne]; omega
        have k : decide (M < N) = true := decide_eq_true (by omega)
        have kk : (M == N) = false := by rw [beq_eq_false_iff_ne]; omega
        have y1 : decide (a.y < b.y) = true := decide_eq_true hy
        clear hy
        clear hl he
        go_enter Try.func6, Try.ntmps6
        have c0 : w0.cell? ⟨_, 0, none⟩ = some (.int .i64 (a.y)) := X2.out.cells.1
        have c1 : w0.cell? ⟨_, 1, none⟩ = some (.int .i64 (a.m)) := X2.out.cells.2.1
        have c2 : w0.cell? ⟨_, 2, none⟩ = some (.int .i64 (a.d)) := X2.out.cells.2.2
        go_wp2_with fail
        rw [← HW.out]
        clear c0 c1 c2
        have c0 : w0.cell? ⟨_, 0, none⟩ = some (.int .i64 (a.y)) := X2.out.cells.1
        have c1 : w0.cell? ⟨_, 1, none⟩ = some (.int .i64 (a.m)) := X2.out.cells.2.1
        have c2 : w0.cell? ⟨_, 2, none⟩ = some (.int .i64 (a.d)) := X2.out.cells.2.2
        skip
        refine (C.of a M 0 w0 A1.out A2.out A3.out HM.out HE.out).mono ?_
        rintro e w1 ⟨rfl, hb⟩
        replace X2 := Lib.hid (X2.out.next hb)
        replace X3 := Lib.hid (X3.out.next hb)
        replace HBL := Lib.hid (HBL.out.trans (hb.mono HBL.out.size))
        clear c0 c1 c2
        clear hb
        have d0 : w1.cell? ⟨_, 0, none⟩ = some (.int .i64 (b.y)) := X3.out.cells.1
        have d1 : w1.cell? ⟨_, 1, none⟩ = some (.int .i64 (b.m)) := X3.out.cells.2.1
        have d2 : w1.cell? ⟨_, 2, none⟩ = some (.int .i64 (b.d)) := X3.out.cells.2.2
        go_wp2_with fail
        refine (C.of b N 0 w1 B1.out B2.out B3.out HN.out HF.out).mono ?_
        rintro e w2 ⟨rfl, hb⟩
        replace X2 := Lib.hid (X2.out.next hb)
        replace X3 := Lib.hid (X3.out.next hb)
        replace HBL := Lib.hid (HBL.out.trans (hb.mono HBL.out.size))
        clear d0 d1 d2
        clear hb
        have c0 : w2.cell? ⟨_, 0, none⟩ = some (.int .i64 (a.y)) := X2.out.cells.1
        have c1 : w2.cell? ⟨_, 1, none⟩ = some (.int .i64 (a.m)) := X2.out.cells.2.1
        have c2 : w2.cell? ⟨_, 2, none⟩ = some (.int .i64 (a.d)) := X2.out.cells.2.2
        have d0 : w2.cell? ⟨_, 0, none⟩ = some (.int .i64 (b.y)) := X3.out.cells.1
        have d1 : w2.cell? ⟨_, 1, none⟩ = some (.int .i64 (b.m)) := X3.out.cells.2.1
        have d2 : w2.cell? ⟨_, 2, none⟩ = some (.int .i64 (b.d)) := X3.out.cells.2.2
        go_wp2_with fail
        refine (dated_any C w2).mono ?_
        rintro e w3 ⟨rfl, hb⟩
        replace X2 := Lib.hid (X2.out.next hb)
        replace X3 := Lib.hid (X3.out.next hb)
        replace HBL := Lib.hid (HBL.out.trans (hb.mono HBL.out.size))
        clear c0 c1 c2 d0 d1 d2
        clear hb
        have c0 : w3.cell? ⟨_, 0, none⟩ = some (.int .i64 (a.y)) := X2.out.cells.1
        have c1 : w3.cell? ⟨_, 1, none⟩ = some (.int .i64 (a.m)) := X2.out.cells.2.1
        have c2 : w3.cell? ⟨_, 2, none⟩ = some (.int .i64 (a.d)) := X2.out.cells.2.2
        have d0 : w3.cell? ⟨_, 0, none⟩ = some (.int .i64 (b.y)) := X3.out.cells.1
        have d1 : w3.cell? ⟨_, 1, none⟩ = some (.int .i64 (b.m)) := X3.out.cells.2.1
        have d2 : w3.cell? ⟨_, 2, none⟩ = some (.int .i64 (b.d)) := X3.out.cells.2.2
        go_wp2
        go_ret
        exact ⟨rfl, HBL.out⟩
      · have q1 : (a.y == b.y) = true := by rw [beq_iff_eq]; exact hy
        have y1 : decide (a.y < b.y) = false := decide_eq_false (by omega)
        rcases Int.lt_trichotomy a.m b.m with hm | hm | hm
        · skip
          have q2 : (a.m == b.m) = false := by rw [beq_eq_false_iff_ne]; omega
          have k : decide (M < N) = true := decide_eq_true (by omega)
          have kk : (M == N) = false := by rw [beq_eq_false_iff_ne]; omega
          have m1 : decide (a.m < b.m) = true := decide_eq_true hm
          clear hy hm
          clear hl he
          go_enter Try.func6, Try.ntmps6
          have c0 : w0.cell? ⟨_, 0, none⟩ = some (.int .i64 (a.y)) := X2.out.cells.1
          have c1 : w0.cell? ⟨_, 1, none⟩ = some (.int .i64 (a.m)) := X2.out.cells.2.1
          have c2 : w0.cell? ⟨_, 2, none⟩ = some (.int .i64 (a.d)) := X2.out.cells.2.2
          go_wp2_with fail
          rw [← HW.out]
          clear c0 c1 c2
          have c0 : w0.cell? ⟨_, 0, none⟩ = some (.int .i64 (a.y)) := X2.out.cells.1
          have c1 : w0.cell? ⟨_, 1, none⟩ = some (.int .i64 (a.m)) := X2.out.cells.2.1
          have c2 : w0.cell? ⟨_, 2, none⟩ = some (.int .i64 (a.d)) := X2.out.cells.2.2
          skip
          refine (C.of a M 0 w0 A1.out A2.out A3.out HM.out HE.out).mono ?_
          rintro e w1 ⟨rfl, hb⟩
          replace X2 := Lib.hid (X2.out.next hb)
          replace X3 := Lib.hid (X3.out.next hb)
          replace HBL := Lib.hid (HBL.out.trans (hb.mono HBL.out.size))
          clear c0 c1 c2
          clear hb
          have d0 : w1.cell? ⟨_, 0, none⟩ = some (.int .i64 (b.y)) := X3.out.cells.1
          have d1 : w1.cell? ⟨_, 1, none⟩ = some (.int .i64 (b.m)) := X3.out.cells.2.1
          have d2 : w1.cell? ⟨_, 2, none⟩ = some (.int .i64 (b.d)) := X3.out.cells.2.2
          go_wp2_with fail
          refine (C.of b N 0 w1 B1.out B2.out B3.out HN.out HF.out).mono ?_
          rintro e w2 ⟨rfl, hb⟩
          replace X2 := Lib.hid (X2.out.next hb)
          replace X3 := Lib.hid (X3.out.next hb)
          replace HBL := Lib.hid (HBL.out.trans (hb.mono HBL.out.size))
          clear d0 d1 d2
          clear hb
          have c0 : w2.cell? ⟨_, 0, none⟩ = some (.int .i64 (a.y)) := X2.out.cells.1
          have c1 : w2.cell? ⟨_, 1, none⟩ = some (.int .i64 (a.m)) := X2.out.cells.2.1
          have c2 : w2.cell? ⟨_, 2, none⟩ = some (.int .i64 (a.d)) := X2.out.cells.2.2
          have d0 : w2.cell? ⟨_, 0, none⟩ = some (.int .i64 (b.y)) := X3.out.cells.1
          have d1 : w2.cell? ⟨_, 1, none⟩ = some (.int .i64 (b.m)) := X3.out.cells.2.1
          have d2 : w2.cell? ⟨_, 2, none⟩ = some (.int .i64 (b.d)) := X3.out.cells.2.2
          go_wp2_with fail
          refine (dated_any C w2).mono ?_
          rintro e w3 ⟨rfl, hb⟩
          replace X2 := Lib.hid (X2.out.next hb)
          replace X3 := Lib.hid (X3.out.next hb)
          replace HBL := Lib.hid (HBL.out.trans (hb.mono HBL.out.size))
          clear c0 c1 c2 d0 d1 d2
          clear hb
          have c0 : w3.cell? ⟨_, 0, none⟩ = some (.int .i64 (a.y)) := X2.out.cells.1
          have c1 : w3.cell? ⟨_, 1, none⟩ = some (.int .i64 (a.m)) := X2.out.cells.2.1
          have c2 : w3.cell? ⟨_, 2, none⟩ = some (.int .i64 (a.d)) := X2.out.cells.2.2
          have d0 : w3.cell? ⟨_, 0, none⟩ = some (.int .i64 (b.y)) := X3.out.cells.1
          have d1 : w3.cell? ⟨_, 1, none⟩ = some (.int .i64 (b.m)) := X3.out.cells.2.1
          have d2 : w3.cell? ⟨_, 2, none⟩ = some (.int .i64 (b.d)) := X3.out.cells.2.2
          go_wp2
          go_ret
          exact ⟨rfl, HBL.out⟩
        · have q2 : (a.m == b.m) = true := by rw [beq_iff_eq]; exact hm
          have m1 : decide (a.m < b.m) = false := decide_eq_false (by omega)
          rcases Int.lt_trichotomy a.d b.d with hd | hd | hd
          · skip
            have q3 : (a.d == b.d) = false := by rw [beq_eq_false_iff_ne]; omega
            have k : decide (M < N) = true := decide_eq_true (by omega)
            have kk : (M == N) = false := by rw [beq_eq_false_iff_ne]; omega
            have d1 : decide (a.d < b.d) = true := decide_eq_true hd
            clear hy hm hd
            clear hl he
            go_enter Try.func6, Try.ntmps6
            have c0 : w0.cell? ⟨_, 0, none⟩ = some (.int .i64 (a.y)) := X2.out.cells.1
            have c1 : w0.cell? ⟨_, 1, none⟩ = some (.int .i64 (a.m)) := X2.out.cells.2.1
            have c2 : w0.cell? ⟨_, 2, none⟩ = some (.int .i64 (a.d)) := X2.out.cells.2.2
            go_wp2_with fail
            rw [← HW.out]
            clear c0 c1 c2
            have c0 : w0.cell? ⟨_, 0, none⟩ = some (.int .i64 (a.y)) := X2.out.cells.1
            have c1 : w0.cell? ⟨_, 1, none⟩ = some (.int .i64 (a.m)) := X2.out.cells.2.1
            have c2 : w0.cell? ⟨_, 2, none⟩ = some (.int .i64 (a.d)) := X2.out.cells.2.2
            skip
            refine (C.of a M 0 w0 A1.out A2.out A3.out HM.out HE.out).mono ?_
            rintro e w1 ⟨rfl, hb⟩
            replace X2 := Lib.hid (X2.out.next hb)
            replace X3 := Lib.hid (X3.out.next hb)
            replace HBL := Lib.hid (HBL.out.trans (hb.mono HBL.out.size))
            clear c0 c1 c2
            clear hb
            have d0 : w1.cell? ⟨_, 0, none⟩ = some (.int .i64 (b.y)) := X3.out.cells.1
            have d1 : w1.cell? ⟨_, 1, none⟩ = some (.int .i64 (b.m)) := X3.out.cells.2.1
            have d2 : w1.cell? ⟨_, 2, none⟩ = some (.int .i64 (b.d)) := X3.out.cells.2.2
            go_wp2_with fail
            refine (C.of b N 0 w1 B1.out B2.out B3.out HN.out HF.out).mono ?_
            rintro e w2 ⟨rfl, hb⟩
            replace X2 := Lib.hid (X2.out.next hb)
            replace X3 := Lib.hid (X3.out.next hb)
            replace HBL := Lib.hid (HBL.out.trans (hb.mono HBL.out.size))
            clear d0 d1 d2
            clear hb
            have c0 : w2.cell? ⟨_, 0, none⟩ = some (.int .i64 (a.y)) := X2.out.cells.1
            have c1 : w2.cell? ⟨_, 1, none⟩ = some (.int .i64 (a.m)) := X2.out.cells.2.1
            have c2 : w2.cell? ⟨_, 2, none⟩ = some (.int .i64 (a.d)) := X2.out.cells.2.2
            have d0 : w2.cell? ⟨_, 0, none⟩ = some (.int .i64 (b.y)) := X3.out.cells.1
            have d1 : w2.cell? ⟨_, 1, none⟩ = some (.int .i64 (b.m)) := X3.out.cells.2.1
            have d2 : w2.cell? ⟨_, 2, none⟩ = some (.int .i64 (b.d)) := X3.out.cells.2.2
            go_wp2_with fail
            refine (dated_any C w2).mono ?_
            rintro e w3 ⟨rfl, hb⟩
            replace X2 := Lib.hid (X2.out.next hb)
            replace X3 := Lib.hid (X3.out.next hb)
            replace HBL := Lib.hid (HBL.out.trans (hb.mono HBL.out.size))
            clear c0 c1 c2 d0 d1 d2
            clear hb
            have c0 : w3.cell? ⟨_, 0, none⟩ = some (.int .i64 (a.y)) := X2.out.cells.1
            have c1 : w3.cell? ⟨_, 1, none⟩ = some (.int .i64 (a.m)) := X2.out.cells.2.1
            have c2 : w3.cell? ⟨_, 2, none⟩ = some (.int .i64 (a.d)) := X2.out.cells.2.2
            have d0 : w3.cell? ⟨_, 0, none⟩ = some (.int .i64 (b.y)) := X3.out.cells.1
            have d1 : w3.cell? ⟨_, 1, none⟩ = some (.int .i64 (b.m)) := X3.out.cells.2.1
            have d2 : w3.cell? ⟨_, 2, none⟩ = some (.int .i64 (b.d)) := X3.out.cells.2.2
            go_wp2
            go_ret
            exact ⟨rfl, HBL.out⟩
          · skip
            have q3 : (a.d == b.d) = true := by rw [beq_iff_eq]; exact hd
            have k : decide (M < N) = false := decide_eq_false (by omega)
            have kk : (M == N) = true := by rw [beq_iff_eq]; omega
            have d1 : decide (a.d < b.d) = false := decide_eq_false (by omega)
            clear hy hm hd
            clear hl he
            go_enter Try.func6, Try.ntmps6
            have c0 : w0.cell? ⟨_, 0, none⟩ = some (.int .i64 (a.y)) := X2.out.cells.1
            have c1 : w0.cell? ⟨_, 1, none⟩ = some (.int .i64 (a.m)) := X2.out.cells.2.1
            have c2 : w0.cell? ⟨_, 2, none⟩ = some (.int .i64 (a.d)) := X2.out.cells.2.2
            go_wp2_with fail
            rw [← HW.out]
            clear c0 c1 c2
            have c0 : w0.cell? ⟨_, 0, none⟩ = some (.int .i64 (a.y)) := X2.out.cells.1
            have c1 : w0.cell? ⟨_, 1, none⟩ = some (.int .i64 (a.m)) := X2.out.cells.2.1
            have c2 : w0.cell? ⟨_, 2, none⟩ = some (.int .i64 (a.d)) := X2.out.cells.2.2
            skip
            refine (C.of a M 0 w0 A1.out A2.out A3.out HM.out HE.out).mono ?_
            rintro e w1 ⟨rfl, hb⟩
            replace X2 := Lib.hid (X2.out.next hb)
            replace X3 := Lib.hid (X3.out.next hb)
            replace HBL := Lib.hid (HBL.out.trans (hb.mono HBL.out.size))
            clear c0 c1 c2
            clear hb
            have d0 : w1.cell? ⟨_, 0, none⟩ = some (.int .i64 (b.y)) := X3.out.cells.1
            have d1 : w1.cell? ⟨_, 1, none⟩ = some (.int .i64 (b.m)) := X3.out.cells.2.1
            have d2 : w1.cell? ⟨_, 2, none⟩ = some (.int .i64 (b.d)) := X3.out.cells.2.2
            go_wp2_with fail
            refine (C.of b N 0 w1 B1.out B2.out B3.out HN.out HF.out).mono ?_
            rintro e w2 ⟨rfl, hb⟩
            replace X2 := Lib.hid (X2.out.next hb)
            replace X3 := Lib.hid (X3.out.next hb)
            replace HBL := Lib.hid (HBL.out.trans (hb.mono HBL.out.size))
            clear d0 d1 d2
            clear hb
            have c0 : w2.cell? ⟨_, 0, none⟩ = some (.int .i64 (a.y)) := X2.out.cells.1
            have c1 : w2.cell? ⟨_, 1, none⟩ = some (.int .i64 (a.m)) := X2.out.cells.2.1
            have c2 : w2.cell? ⟨_, 2, none⟩ = some (.int .i64 (a.d)) := X2.out.cells.2.2
            have d0 : w2.cell? ⟨_, 0, none⟩ = some (.int .i64 (b.y)) := X3.out.cells.1
            have d1 : w2.cell? ⟨_, 1, none⟩ = some (.int .i64 (b.m)) := X3.out.cells.2.1
            have d2 : w2.cell? ⟨_, 2, none⟩ = some (.int .i64 (b.d)) := X3.out.cells.2.2
            go_wp2_with fail
            refine (dated_any C w2).mono ?_
            rintro e w3 ⟨rfl, hb⟩
            replace X2 := Lib.hid (X2.out.next hb)
            replace X3 := Lib.hid (X3.out.next hb)
            replace HBL := Lib.hid (HBL.out.trans (hb.mono HBL.out.size))
            clear c0 c1 c2 d0 d1 d2
            clear hb
            have c0 : w3.cell? ⟨_, 0, none⟩ = some (.int .i64 (a.y)) := X2.out.cells.1
            have c1 : w3.cell? ⟨_, 1, none⟩ = some (.int .i64 (a.m)) := X2.out.cells.2.1
            have c2 : w3.cell? ⟨_, 2, none⟩ = some (.int .i64 (a.d)) := X2.out.cells.2.2
            have d0 : w3.cell? ⟨_, 0, none⟩ = some (.int .i64 (b.y)) := X3.out.cells.1
            have d1 : w3.cell? ⟨_, 1, none⟩ = some (.int .i64 (b.m)) := X3.out.cells.2.1
            have d2 : w3.cell? ⟨_, 2, none⟩ = some (.int .i64 (b.d)) := X3.out.cells.2.2
            go_wp2
            go_ret
            exact ⟨rfl, HBL.out⟩
          · skip
            have q3 : (a.d == b.d) = false := by rw [beq_eq_false_iff_ne]; omega
            have k : decide (M < N) = false := decide_eq_false (by omega)
            have kk : (M == N) = false := by rw [beq_eq_false_iff_ne]; omega
            have d1 : decide (a.d < b.d) = false := decide_eq_false (by omega)
            clear hy hm hd
            clear hl he
            go_enter Try.func6, Try.ntmps6
            have c0 : w0.cell? ⟨_, 0, none⟩ = some (.int .i64 (a.y)) := X2.out.cells.1
            have c1 : w0.cell? ⟨_, 1, none⟩ = some (.int .i64 (a.m)) := X2.out.cells.2.1
            have c2 : w0.cell? ⟨_, 2, none⟩ = some (.int .i64 (a.d)) := X2.out.cells.2.2
            go_wp2_with fail
            rw [← HW.out]
            clear c0 c1 c2
            have c0 : w0.cell? ⟨_, 0, none⟩ = some (.int .i64 (a.y)) := X2.out.cells.1
            have c1 : w0.cell? ⟨_, 1, none⟩ = some (.int .i64 (a.m)) := X2.out.cells.2.1
            have c2 : w0.cell? ⟨_, 2, none⟩ = some (.int .i64 (a.d)) := X2.out.cells.2.2
            skip
            refine (C.of a M 0 w0 A1.out A2.out A3.out HM.out HE.out).mono ?_
            rintro e w1 ⟨rfl, hb⟩
            replace X2 := Lib.hid (X2.out.next hb)
            replace X3 := Lib.hid (X3.out.next hb)
            replace HBL := Lib.hid (HBL.out.trans (hb.mono HBL.out.size))
            clear c0 c1 c2
            clear hb
            have d0 : w1.cell? ⟨_, 0, none⟩ = some (.int .i64 (b.y)) := X3.out.cells.1
            have d1 : w1.cell? ⟨_, 1, none⟩ = some (.int .i64 (b.m)) := X3.out.cells.2.1
            have d2 : w1.cell? ⟨_, 2, none⟩ = some (.int .i64 (b.d)) := X3.out.cells.2.2
            go_wp2_with fail
            refine (C.of b N 0 w1 B1.out B2.out B3.out HN.out HF.out).mono ?_
            rintro e w2 ⟨rfl, hb⟩
            replace X2 := Lib.hid (X2.out.next hb)
            replace X3 := Lib.hid (X3.out.next hb)
            replace HBL := Lib.hid (HBL.out.trans (hb.mono HBL.out.size))
            clear d0 d1 d2
            clear hb
            have c0 : w2.cell? ⟨_, 0, none⟩ = some (.int .i64 (a.y)) := X2.out.cells.1
            have c1 : w2.cell? ⟨_, 1, none⟩ = some (.int .i64 (a.m)) := X2.out.cells.2.1
            have c2 : w2.cell? ⟨_, 2, none⟩ = some (.int .i64 (a.d)) := X2.out.cells.2.2
            have d0 : w2.cell? ⟨_, 0, none⟩ = some (.int .i64 (b.y)) := X3.out.cells.1
            have d1 : w2.cell? ⟨_, 1, none⟩ = some (.int .i64 (b.m)) := X3.out.cells.2.1
            have d2 : w2.cell? ⟨_, 2, none⟩ = some (.int .i64 (b.d)) := X3.out.cells.2.2
            go_wp2_with fail
            refine (dated_any C w2).mono ?_
            rintro e w3 ⟨rfl, hb⟩
            replace X2 := Lib.hid (X2.out.next hb)
            replace X3 := Lib.hid (X3.out.next hb)
            replace HBL := Lib.hid (HBL.out.trans (hb.mono HBL.out.size))
            clear c0 c1 c2 d0 d1 d2
            clear hb
            have c0 : w3.cell? ⟨_, 0, none⟩ = some (.int .i64 (a.y)) := X2.out.cells.1
            have c1 : w3.cell? ⟨_, 1, none⟩ = some (.int .i64 (a.m)) := X2.out.cells.2.1
            have c2 : w3.cell? ⟨_, 2, none⟩ = some (.int .i64 (a.d)) := X2.out.cells.2.2
            have d0 : w3.cell? ⟨_, 0, none⟩ = some (.int .i64 (b.y)) := X3.out.cells.1
            have d1 : w3.cell? ⟨_, 1, none⟩ = some (.int .i64 (b.m)) := X3.out.cells.2.1
            have d2 : w3.cell? ⟨_, 2, none⟩ = some (.int .i64 (b.d)) := X3.out.cells.2.2
            go_wp2
            go_ret
            exact ⟨rfl, HBL.out⟩
        · skip
          have q2 : (a.m == b.m) = false := by rw [beq_eq_false_iff_ne]; omega
          have k : decide (M < N) = false := decide_eq_false (by omega)
          have kk : (M == N) = false := by rw [beq_eq_false_iff_ne]; omega
          have m1 : decide (a.m < b.m) = false := decide_eq_false (by omega)
          clear hy hm
          clear hl he
          go_enter Try.func6, Try.ntmps6
          have c0 : w0.cell? ⟨_, 0, none⟩ = some (.int .i64 (a.y)) := X2.out.cells.1
          have c1 : w0.cell? ⟨_, 1, none⟩ = some (.int .i64 (a.m)) := X2.out.cells.2.1
          have c2 : w0.cell? ⟨_, 2, none⟩ = some (.int .i64 (a.d)) := X2.out.cells.2.2
          go_wp2_with fail
          rw [← HW.out]
          clear c0 c1 c2
          have c0 : w0.cell? ⟨_, 0, none⟩ = some (.int .i64 (a.y)) := X2.out.cells.1
          have c1 : w0.cell? ⟨_, 1, none⟩ = some (.int .i64 (a.m)) := X2.out.cells.2.1
          have c2 : w0.cell? ⟨_, 2, none⟩ = some (.int .i64 (a.d)) := X2.out.cells.2.2
          skip
          refine (C.of a M 0 w0 A1.out A2.out A3.out HM.out HE.out).mono ?_
          rintro e w1 ⟨rfl, hb⟩
          replace X2 := Lib.hid (X2.out.next hb)
          replace X3 := Lib.hid (X3.out.next hb)
          replace HBL := Lib.hid (HBL.out.trans (hb.mono HBL.out.size))
          clear c0 c1 c2
          clear hb
          have d0 : w1.cell? ⟨_, 0, none⟩ = some (.int .i64 (b.y)) := X3.out.cells.1
          have d1 : w1.cell? ⟨_, 1, none⟩ = some (.int .i64 (b.m)) := X3.out.cells.2.1
          have d2 : w1.cell? ⟨_, 2, none⟩ = some (.int .i64 (b.d)) := X3.out.cells.2.2
          go_wp2_with fail
          refine (C.of b N 0 w1 B1.out B2.out B3.out HN.out HF.out).mono ?_
          rintro e w2 ⟨rfl, hb⟩
          replace X2 := Lib.hid (X2.out.next hb)
          replace X3 := Lib.hid (X3.out.next hb)
          replace HBL := Lib.hid (HBL.out.trans (hb.mono HBL.out.size))
          clear d0 d1 d2
          clear hb
          have c0 : w2.cell? ⟨_, 0, none⟩ = some (.int .i64 (a.y)) := X2.out.cells.1
          have c1 : w2.cell? ⟨_, 1, none⟩ = some (.int .i64 (a.m)) := X2.out.cells.2.1
          have c2 : w2.cell? ⟨_, 2, none⟩ = some (.int .i64 (a.d)) := X2.out.cells.2.2
          have d0 : w2.cell? ⟨_, 0, none⟩ = some (.int .i64 (b.y)) := X3.out.cells.1
          have d1 : w2.cell? ⟨_, 1, none⟩ = some (.int .i64 (b.m)) := X3.out.cells.2.1
          have d2 : w2.cell? ⟨_, 2, none⟩ = some (.int .i64 (b.d)) := X3.out.cells.2.2
          go_wp2_with fail
          refine (dated_any C w2).mono ?_
          rintro e w3 ⟨rfl, hb⟩
          replace X2 := Lib.hid (X2.out.next hb)
          replace X3 := Lib.hid (X3.out.next hb)
          replace HBL := Lib.hid (HBL.out.trans (hb.mono HBL.out.size))
          clear c0 c1 c2 d0 d1 d2
          clear hb
          have c0 : w3.cell? ⟨_, 0, none⟩ = some (.int .i64 (a.y)) := X2.out.cells.1
          have c1 : w3.cell? ⟨_, 1, none⟩ = some (.int .i64 (a.m)) := X2.out.cells.2.1
          have c2 : w3.cell? ⟨_, 2, none⟩ = some (.int .i64 (a.d)) := X2.out.cells.2.2
          have d0 : w3.cell? ⟨_, 0, none⟩ = some (.int .i64 (b.y)) := X3.out.cells.1
          have d1 : w3.cell? ⟨_, 1, none⟩ = some (.int .i64 (b.m)) := X3.out.cells.2.1
          have d2 : w3.cell? ⟨_, 2, none⟩ = some (.int .i64 (b.d)) := X3.out.cells.2.2
          go_wp2
          go_ret
          exact ⟨rfl, HBL.out⟩
      · skip
        have q1 : (a.y == b.y) = false := by rw [beq_eq_false_iff_ne]; omega
        have k : decide (M < N) = false := decide_eq_false (by omega)
        have kk : (M == N) = false := by rw [beq_eq_false_iff_ne]; omega
        have y1 : decide (a.y < b.y) = false := decide_eq_false (by omega)
        clear hy
        clear hl he
        go_enter Try.func6, Try.ntmps6
        have c0 : w0.cell? ⟨_, 0, none⟩ = some (.int .i64 (a.y)) := X2.out.cells.1
        have c1 : w0.cell? ⟨_, 1, none⟩ = some (.int .i64 (a.m)) := X2.out.cells.2.1
        have c2 : w0.cell? ⟨_, 2, none⟩ = some (.int .i64 (a.d)) := X2.out.cells.2.2
        go_wp2_with fail
        rw [← HW.out]
        clear c0 c1 c2
        have c0 : w0.cell? ⟨_, 0, none⟩ = some (.int .i64 (a.y)) := X2.out.cells.1
        have c1 : w0.cell? ⟨_, 1, none⟩ = some (.int .i64 (a.m)) := X2.out.cells.2.1
        have c2 : w0.cell? ⟨_, 2, none⟩ = some (.int .i64 (a.d)) := X2.out.cells.2.2
        skip
        refine (C.of a M 0 w0 A1.out A2.out A3.out HM.out HE.out).mono ?_
        rintro e w1 ⟨rfl, hb⟩
        replace X2 := Lib.hid (X2.out.next hb)
        replace X3 := Lib.hid (X3.out.next hb)
        replace HBL := Lib.hid (HBL.out.trans (hb.mono HBL.out.size))
        clear c0 c1 c2
        clear hb
        have d0 : w1.cell? ⟨_, 0, none⟩ = some (.int .i64 (b.y)) := X3.out.cells.1
        have d1 : w1.cell? ⟨_, 1, none⟩ = some (.int .i64 (b.m)) := X3.out.cells.2.1
        have d2 : w1.cell? ⟨_, 2, none⟩ = some (.int .i64 (b.d)) := X3.out.cells.2.2
        go_wp2_with fail
        refine (C.of b N 0 w1 B1.out B2.out B3.out HN.out HF.out).mono ?_
        rintro e w2 ⟨rfl, hb⟩
        replace X2 := Lib.hid (X2.out.next hb)
        replace X3 := Lib.hid (X3.out.next hb)
        replace HBL := Lib.hid (HBL.out.trans (hb.mono HBL.out.size))
        clear d0 d1 d2
        clear hb
        have c0 : w2.cell? ⟨_, 0, none⟩ = some (.int .i64 (a.y)) := X2.out.cells.1
        have c1 : w2.cell? ⟨_, 1, none⟩ = some (.int .i64 (a.m)) := X2.out.cells.2.1
        have c2 : w2.cell? ⟨_, 2, none⟩ = some (.int .i64 (a.d)) := X2.out.cells.2.2
        have d0 : w2.cell? ⟨_, 0, none⟩ = some (.int .i64 (b.y)) := X3.out.cells.1
        have d1 : w2.cell? ⟨_, 1, none⟩ = some (.int .i64 (b.m)) := X3.out.cells.2.1
        have d2 : w2.cell? ⟨_, 2, none⟩ = some (.int .i64 (b.d)) := X3.out.cells.2.2
        go_wp2_with fail
        refine (dated_any C w2).mono ?_
        rintro e w3 ⟨rfl, hb⟩
        replace X2 := Lib.hid (X2.out.next hb)
        replace X3 := Lib.hid (X3.out.next hb)
        replace HBL := Lib.hid (HBL.out.trans (hb.mono HBL.out.size))
        clear c0 c1 c2 d0 d1 d2
        clear hb
        have c0 : w3.cell? ⟨_, 0, none⟩ = some (.int .i64 (a.y)) := X2.out.cells.1
        have c1 : w3.cell? ⟨_, 1, none⟩ = some (.int .i64 (a.m)) := X2.out.cells.2.1
        have c2 : w3.cell? ⟨_, 2, none⟩ = some (.int .i64 (a.d)) := X2.out.cells.2.2
        have d0 : w3.cell? ⟨_, 0, none⟩ = some (.int .i64 (b.y)) := X3.out.cells.1
        have d1 : w3.cell? ⟨_, 1, none⟩ = some (.int .i64 (b.m)) := X3.out.cells.2.1
        have d2 : w3.cell? ⟨_, 2, none⟩ = some (.int .i64 (b.d)) := X3.out.cells.2.2
        go_wp2
        go_ret
        exact ⟨rfl, HBL.out⟩
end Go.Proofs.Ytiekfcpinljcjaa
