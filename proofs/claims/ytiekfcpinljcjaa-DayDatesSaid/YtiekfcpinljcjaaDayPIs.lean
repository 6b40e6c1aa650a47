/-
  Contract for the landed isDate: whether a date is of a year that has days. Conditions: none.
-/
import Derived.Test.YtiekfcpinljcjaaDayPMonths
import Derived.Test.YtiekfcpinljcjaaDayBox
namespace Go.Proofs.Ytiekfcpinljcjaa
set_option linter.unusedVariables false
open Go.ChangeShapes Go.WideShapes Go.ChangeAt Go.RowKit

set_option maxHeartbeats 800000 in
theorem pisDate_any (d : D) (b : Bool) (hb : dateB d = b) (w : World) :
    Calls Try.prog 19 #[.agg #[.int .i64 d.y, .int .i64 d.m, .int .i64 d.d]] w fun e w' => e = .returned (.bool b) ∧ Below w.heap.size w w' := by
  have HB := Lib.hid hb
  clear hb
  have HX := Lib.hid (DBox.new w d)
  have HBW := Lib.hid (below_lit w #[.int .i64 d.y, .int .i64 d.m, .int .i64 d.d] 23)
  obtain ⟨w0, hw0⟩ : ∃ w0, w0 = w.alloc (.cells #[.int .i64 d.y, .int .i64 d.m, .int .i64 d.d] 23) := ⟨_, rfl⟩
  rw [← hw0] at HX HBW
  have HW := Lib.hid hw0
  clear hw0
  obtain ⟨hc0, hc1, hc2⟩ := HX.out.cells
  by_cases c0 : d.y < 2000
  · have q0 : decide (d.y < 2000) = true := decide_eq_true c0
    have hb : b = false := by
      rw [← HB.out]; cases e : dateB d
      · rfl
      · have := (dateB_iff d).1 e; omega
    subst hb
    go_enter Try.func19, Try.ntmps19
    go_wp2
    go_ret
    exact ⟨rfl, by rw [← HW.out]; exact HBW.out⟩
  have q0 : decide (d.y < 2000) = false := decide_eq_false c0
  by_cases c1 : 2273 < d.y
  · have q1 : decide (2273 < d.y) = true := decide_eq_true c1
    have hb : b = false := by
      rw [← HB.out]; cases e : dateB d
      · rfl
      · have := (dateB_iff d).1 e; omega
    subst hb
    go_enter Try.func19, Try.ntmps19
    go_wp2
    go_ret
    exact ⟨rfl, by rw [← HW.out]; exact HBW.out⟩
  have q1 : decide (2273 < d.y) = false := decide_eq_false c1
  have c0' : 2000 ≤ d.y := by omega
  have c1' : d.y ≤ 2273 := by omega
  clear c0 c1
  obtain ⟨f, hf⟩ : ∃ f, feb d.y = f := ⟨_, rfl⟩
  have HF := Lib.hid hf
  clear hf
  go_enter Try.func19, Try.ntmps19
  go_wp2_with fail
  rw [← HW.out]
  go_wp2_with fail
  refine (pmonths_any d.y f HF.out w0).mono ?_
  rintro e w1 ⟨rfl, hb1⟩
  have HY := Lib.hid (HX.out.next hb1)
  have HBW1 := Lib.hid (HBW.out.trans (hb1.mono HBW.out.size))
  clear hc0 hc1 hc2 hb1 q0 q1
  obtain ⟨hc0, hc1, hc2⟩ := HY.out.cells
  go_wp2_with fail
  go_loop [3, 4, 16] (fun a b c => ∃ k : Nat, k ≤ 12 ∧ c = .int .i64 (k : Int) ∧ (d.m < 1 ∨ (k : Int) < d.m)) (fun _ _ c => 12 - (intOf c).toNat)
  case atStart => exact ⟨0, by omega, rfl, by omega⟩
  case round =>
    obtain ⟨k, hk, rfl, hm⟩ := hrel
    by_cases hlt : k < 12
    · obtain ⟨L, hL⟩ : ∃ L, lenM d.y ((k : Int) + 1) = L := ⟨_, rfl⟩
      have hix : ∀ w : World, (Instr.index 35 (.agg (mA f)) (.int .i64 (k : Int))).run Try.prog w = .ok (.int .i64 (L : Int)) w := by
        intro w2
        rw [run_index_mA f k hlt, ← HF.out, mls_at _ _ hlt, hL]
      have HL := Lib.hid hL
      clear hL
      by_cases he : (k : Int) + 1 = d.m
      · by_cases h1 : 1 ≤ d.d
        · have q1 : decide (1 ≤ d.d) = true := decide_eq_true h1
          by_cases h2 : d.d ≤ (L : Int)
          · have q2 : decide (d.d ≤ (L : Int)) = true := decide_eq_true h2
            have hb : b = true := by
              rw [← HB.out]; refine (dateB_iff d).2 ⟨c0', c1', by omega, by omega, h1, ?_⟩
              rw [← he, HL.out]; exact h2
            subst hb
            go_wp2
            go_ret
            exact ⟨rfl, HBW1.out⟩
          · have q2 : decide (d.d ≤ (L : Int)) = false := decide_eq_false h2
            have hb : b = false := by
              rw [← HB.out]; cases e : dateB d
              · rfl
              · have hx := (dateB_iff d).1 e
                rw [← he, HL.out] at hx
                omega
            subst hb
            go_wp2
            go_ret
            exact ⟨rfl, HBW1.out⟩
        · have q1 : decide (1 ≤ d.d) = false := decide_eq_false h1
          have hb : b = false := by
            rw [← HB.out]; cases e : dateB d
            · rfl
            · have hx := (dateB_iff d).1 e
              rw [← he, HL.out] at hx
              omega
          subst hb
          go_wp2
          go_ret
          exact ⟨rfl, HBW1.out⟩
      · have he2 : ((k : Int) + 1 == d.m) = false := by rw [beq_eq_false_iff_ne]; exact he
        clear he
        have hm2 : d.m < 1 ∨ ((k + 1 : Nat) : Int) < d.m := by
          rcases hm with h | h
          · exact .inl h
          · have h2 : (k : Int) + 1 ≠ d.m := by simpa using he2
            right; omega
        have HM := Lib.hid hm2
        clear hm2 hm
        go_wp2
        go_round
        case rel => exact ⟨k + 1, by omega, by go_num, HM.out⟩
        case measure => simp [intOf]; omega
    · have hb : b = false := by
        rw [← HB.out]; cases e : dateB d
        · rfl
        · have hx := (dateB_iff d).1 e
          omega
      subst hb
      go_wp2
      go_ret
      exact ⟨rfl, HBW1.out⟩
end Go.Proofs.Ytiekfcpinljcjaa
