/-
  Contract for the reference's Of: the day of a date, or the document's error. Conditions: none.
-/
import Derived.Test.YtiekfcpinljcjaaDayLeap
import Derived.Test.YtiekfcpinljcjaaDayBox
import Derived.BigQuiet
namespace Go.Proofs.Ytiekfcpinljcjaa
set_option linter.unusedVariables false
open Go.ChangeShapes Go.WideShapes Go.ChangeAt Go.RowKit

theorem of_bad {d : D} (h : okD d = false) : ofN d = 0 ∧ ofE d = 1 := by
  rw [ofN, ofE, h]; exact ⟨rfl, rfl⟩
theorem form_bad {d : D} (h : ¬ (2000 ≤ d.y ∧ d.y ≤ 2300 ∧ 1 ≤ d.m ∧ d.m ≤ 12 ∧ 1 ≤ d.d ∧ d.d ≤ (lenM d.y d.m : Nat))) : okD d = false := by
  rw [okD]
  cases hf : formD d
  · rfl
  · exact absurd ((formD_iff d).1 hf) h
theorem ixy (t : Nat) : ((yr t - 2000) * 12 + (mo t - 1)).toNat = t := by unfold yr mo; omega
set_option maxRecDepth 20000 in
theorem refof_any (d : D) (n E : Int) (hd : ofN d = n) (hE : ofE d = E) (w : World) :
    Calls Try.prog 10 #[.agg #[.int .i64 d.y, .int .i64 d.m, .int .i64 d.d]] w fun e w' => e = .returned (.tuple #[.int .i64 n, .int .i64 E]) ∧ Below w.heap.size w w' := by
  have HD := Lib.hid hd
  have HE := Lib.hid hE
  clear hd hE
  have HX := Lib.hid (DBox.new w d)
  have HB := Lib.hid (below_lit w #[.int .i64 d.y, .int .i64 d.m, .int .i64 d.d] 23)
  obtain ⟨w0, hw0⟩ : ∃ w0, w0 = w.alloc (.cells #[.int .i64 d.y, .int .i64 d.m, .int .i64 d.d] 23) := ⟨_, rfl⟩
  rw [← hw0] at HX HB
  have HW := Lib.hid hw0
  clear hw0
  obtain ⟨hc0, hc1, hc2⟩ := HX.out.cells
  by_cases c0 : d.y < 2000
  · have q0 : decide (d.y < 2000) = true := decide_eq_true c0
    obtain ⟨e1, e2⟩ := of_bad (form_bad (d := d) (by omega))
    have hn : n = 0 := HD.out.symm.trans e1
    have hE : E = 1 := HE.out.symm.trans e2
    subst hn hE
    clear e1 e2
    go_enter Try.func10, Try.ntmps10
    go_wp2
    rw [← HW.out]
    go_quiet ((go_at_call 18; refine Calls.quiet_of_same (reflength_same d.y d.m (lenM d.y d.m) rfl _)))
    go_wp2
    go_ret2
    exact ⟨rfl, below_drewN HB.out _⟩
  have q0 : decide (d.y < 2000) = false := decide_eq_false c0
  by_cases c1 : 2300 < d.y
  · have q1 : decide (2300 < d.y) = true := decide_eq_true c1
    obtain ⟨e1, e2⟩ := of_bad (form_bad (d := d) (by omega))
    have hn : n = 0 := HD.out.symm.trans e1
    have hE : E = 1 := HE.out.symm.trans e2
    subst hn hE
    clear e1 e2
    go_enter Try.func10, Try.ntmps10
    go_wp2
    rw [← HW.out]
    go_quiet ((go_at_call 18; refine Calls.quiet_of_same (reflength_same d.y d.m (lenM d.y d.m) rfl _)))
    go_wp2
    go_ret2
    exact ⟨rfl, below_drewN HB.out _⟩
  have q1 : decide (2300 < d.y) = false := decide_eq_false c1
  by_cases c2 : d.m < 1
  · have q2 : decide (d.m < 1) = true := decide_eq_true c2
    obtain ⟨e1, e2⟩ := of_bad (form_bad (d := d) (by omega))
    have hn : n = 0 := HD.out.symm.trans e1
    have hE : E = 1 := HE.out.symm.trans e2
    subst hn hE
    clear e1 e2
    go_enter Try.func10, Try.ntmps10
    go_wp2
    rw [← HW.out]
    go_quiet ((go_at_call 18; refine Calls.quiet_of_same (reflength_same d.y d.m (lenM d.y d.m) rfl _)))
    go_wp2
    go_ret2
    exact ⟨rfl, below_drewN HB.out _⟩
  have q2 : decide (d.m < 1) = false := decide_eq_false c2
  by_cases c3 : 12 < d.m
  · have q3 : decide (12 < d.m) = true := decide_eq_true c3
    obtain ⟨e1, e2⟩ := of_bad (form_bad (d := d) (by omega))
    have hn : n = 0 := HD.out.symm.trans e1
    have hE : E = 1 := HE.out.symm.trans e2
    subst hn hE
    clear e1 e2
    go_enter Try.func10, Try.ntmps10
    go_wp2
    rw [← HW.out]
    go_quiet ((go_at_call 18; refine Calls.quiet_of_same (reflength_same d.y d.m (lenM d.y d.m) rfl _)))
    go_wp2
    go_ret2
    exact ⟨rfl, below_drewN HB.out _⟩
  have q3 : decide (12 < d.m) = false := decide_eq_false c3
  by_cases c4 : d.d < 1
  · have q4 : decide (d.d < 1) = true := decide_eq_true c4
    obtain ⟨e1, e2⟩ := of_bad (form_bad (d := d) (by omega))
    have hn : n = 0 := HD.out.symm.trans e1
    have hE : E = 1 := HE.out.symm.trans e2
    subst hn hE
    clear e1 e2
    go_enter Try.func10, Try.ntmps10
    go_wp2
    rw [← HW.out]
    go_quiet ((go_at_call 18; refine Calls.quiet_of_same (reflength_same d.y d.m (lenM d.y d.m) rfl _)))
    go_wp2
    go_ret2
    exact ⟨rfl, below_drewN HB.out _⟩
  have q4 : decide (d.d < 1) = false := decide_eq_false c4
  by_cases c5 : ((lenM d.y d.m : Nat) : Int) < d.d
  · have q5 : decide (((lenM d.y d.m : Nat) : Int) < d.d) = true := decide_eq_true c5
    obtain ⟨e1, e2⟩ := of_bad (form_bad (d := d) (by omega))
    have hn : n = 0 := HD.out.symm.trans e1
    have hE : E = 1 := HE.out.symm.trans e2
    subst hn hE
    clear e1 e2
    go_enter Try.func10, Try.ntmps10
    go_wp2
    rw [← HW.out]
    go_quiet ((go_at_call 18; refine Calls.quiet_of_same (reflength_same d.y d.m (lenM d.y d.m) rfl _)))
    go_wp2
    go_ret2
    exact ⟨rfl, below_drewN HB.out _⟩
  have q5 : decide (((lenM d.y d.m : Nat) : Int) < d.d) = false := decide_eq_false c5
  have hform : formD d = true := (formD_iff d).2 (by omega)
  obtain ⟨f1, f2, f3, f4, f5⟩ := form_ix hform
  obtain ⟨T, hT⟩ : ∃ T, T = ixD d := ⟨_, rfl⟩
  obtain ⟨z, hz⟩ : ∃ z : Nat, z = (d.d - 1).toNat := ⟨_, rfl⟩
  have hz2 : d.d - 1 = (z : Int) := by omega
  have HC := Lib.hid (show cnt d = dsum T + z by rw [hT, hz]; rfl)
  rw [← hT] at f1 f2 f3
  have HF := Lib.hid hform
  have hz31 : z ≤ 31 := by have := len_le (ixD d); omega
  have wz : IntKind.i64.wrap (d.d - 1) = (z : Int) := by rw [IntWalk.i64_in _ (by omega)]; exact hz2
  clear hT hz hz2 f4 f5 hform c0 c1 c2 c3 c4 c5
  go_enter Try.func10, Try.ntmps10
  go_wp2
  rw [← HW.out]
  go_quiet ((go_at_call 18; refine Calls.quiet_of_same (reflength_same d.y d.m (lenM d.y d.m) rfl _)))
  clear q0 q1 q2 q3 q4 q5
  go_wp2
  go_loopw [4, 5, 6] (fun a b c wr => ∃ t q : Nat, t ≤ T ∧ a = .int .i64 ((dsum t + z : Nat) : Int) ∧ b = .int .i64 (yr t) ∧ c = .int .i64 (mo t) ∧ wr = w0.drewN q) (fun _ b c _ => T - ((intOf b - 2000) * 12 + (intOf c - 1)).toNat)
  case atStart => exact ⟨0, nq, Nat.zero_le _, by rw [dsum, Nat.zero_add], rfl, rfl, rfl⟩
  case round =>
    obtain ⟨t, q, htT, rfl, rfl, rfl, rfl⟩ := hrel
    have y1 : 2000 ≤ yr t := by unfold yr; omega
    have y2 : yr t ≤ 3000 := by unfold yr; omega
    have m1 : 1 ≤ mo t := by unfold mo; omega
    have m2 : mo t ≤ 12 := by unfold mo; omega
    have hle := len_le t
    have hds := dsum_le t
    have wm : IntKind.i64.wrap (mo t + 1) = mo t + 1 := IntWalk.i64_in _ (by omega)
    have wy : IntKind.i64.wrap (yr t + 1) = yr t + 1 := IntWalk.i64_in _ (by omega)
    have wn : IntKind.i64.wrap (((dsum t + z : Nat) : Int) + (len t : Nat)) = ((dsum t + z + len t : Nat) : Int) := by rw [IntWalk.i64_in _ (by omega)]; omega
    by_cases hlt : t < T
    · by_cases hy : yr t < d.y
      · skip
        by_cases hm : t % 12 = 11
        · skip
          have e1 : yr (t + 1) = yr t + 1 := by unfold yr; omega
          have e2 : mo (t + 1) = 1 := by unfold mo; omega
          have k2 : (12 : Int) < mo t + 1 := by unfold mo; omega
          go_wp2_with (go_at_call 18; refine (reflength_same _ _ (len t) rfl _).mono ?_; rintro e w1 ⟨rfl, rfl⟩)
          go_roundw
          case rel => exact ⟨t + 1, q, by omega, by rw [dsum_succ]; go_num, by rw [e1], by rw [e2], rfl⟩
          case measure => simp [intOf]; unfold yr mo; omega
        · skip
          have e1 : yr (t + 1) = yr t := by unfold yr; omega
          have e2 : mo (t + 1) = mo t + 1 := by unfold mo; omega
          have k2 : ¬ ((12 : Int) < mo t + 1) := by unfold mo; omega
          go_wp2_with (go_at_call 18; refine (reflength_same _ _ (len t) rfl _).mono ?_; rintro e w1 ⟨rfl, rfl⟩)
          go_roundw
          case rel => exact ⟨t + 1, q, by omega, by rw [dsum_succ]; go_num, by rw [e1], by rw [e2], rfl⟩
          case measure => simp [intOf]; unfold yr mo; omega
      · have hmm : mo t < d.m := by rw [← f1] at hy; rw [← f2]; unfold yr at hy; unfold mo; omega
        by_cases hm : t % 12 = 11
        · skip
          have e1 : yr (t + 1) = yr t + 1 := by unfold yr; omega
          have e2 : mo (t + 1) = 1 := by unfold mo; omega
          have k2 : (12 : Int) < mo t + 1 := by unfold mo; omega
          go_wp2_with (go_at_call 18; refine (reflength_same _ _ (len t) rfl _).mono ?_; rintro e w1 ⟨rfl, rfl⟩)
          go_roundw
          case rel => exact ⟨t + 1, q, by omega, by rw [dsum_succ]; go_num, by rw [e1], by rw [e2], rfl⟩
          case measure => simp [intOf]; unfold yr mo; omega
        · skip
          have e1 : yr (t + 1) = yr t := by unfold yr; omega
          have e2 : mo (t + 1) = mo t + 1 := by unfold mo; omega
          have k2 : ¬ ((12 : Int) < mo t + 1) := by unfold mo; omega
          go_wp2_with (go_at_call 18; refine (reflength_same _ _ (len t) rfl _).mono ?_; rintro e w1 ⟨rfl, rfl⟩)
          go_roundw
          case rel => exact ⟨t + 1, q, by omega, by rw [dsum_succ]; go_num, by rw [e1], by rw [e2], rfl⟩
          case measure => simp [intOf]; unfold yr mo; omega
    · have e : t = T := by omega
      subst e
      have k1 : ¬ (yr t < d.y) := by omega
      have k2 : ¬ (mo t < d.m) := by omega
      by_cases h9 : (99999 : Int) < ((dsum t + z : Nat) : Int)
      · have hbad : okD d = false := by rw [okD, HC.out]; rw [Bool.and_eq_false_iff]; exact .inr (decide_eq_false (by omega))
        obtain ⟨e1, e2⟩ := of_bad hbad
        have hn : n = 0 := HD.out.symm.trans e1
        have hE : E = 1 := HE.out.symm.trans e2
        subst hn hE
        clear e1 e2 hbad
        go_wp2
        go_ret2
        exact ⟨rfl, below_drewN HB.out _⟩
      · have hgood : okD d = true := by rw [okD, HF.out, HC.out]; exact decide_eq_true (by omega)
        have hn : n = ((dsum t + z : Nat) : Int) := by rw [← HD.out, ofN, if_pos hgood, HC.out]
        have hE : E = 0 := by rw [← HE.out, ofE, if_pos hgood]
        subst hn hE
        clear hgood
        go_wp2
        go_ret2
        exact ⟨rfl, below_drewN HB.out _⟩
end Go.Proofs.Ytiekfcpinljcjaa
