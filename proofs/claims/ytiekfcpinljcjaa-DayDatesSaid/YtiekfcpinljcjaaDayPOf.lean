/-
  Contract for the landed Of: the day of a date, or the error. Conditions: none.
-/
import Derived.Test.YtiekfcpinljcjaaDayPIs
import Derived.Test.YtiekfcpinljcjaaDayPStart
import Derived.BigQuiet
namespace Go.Proofs.Ytiekfcpinljcjaa
set_option linter.unusedVariables false
open Go.ChangeShapes Go.WideShapes Go.ChangeAt Go.RowKit

theorem pof_bad {d : D} (h : okD d = false) : ofN d = 0 ∧ ofE d = 1 := by
  rw [ofN, ofE, h]; exact ⟨rfl, rfl⟩
theorem pstart_quiet (y : Int) (j n : Nat) (hy : y = 2000 + (j : Int)) (hj : j ≤ 273) (hn : dsum (12 * j) = n) (w : World) : Calls Try.prog 20 #[.int .i64 y] w fun e w' => e = .returned (.int .i64 (n : Int)) ∧ w' = w :=
  (pstart_same y j n hy hj hn w).mono fun e w' h => ⟨h.1, h.2.symm⟩
theorem DBox.drewN {w : World} {b : Nat} {d : D} (h : DBox w b d) (n : Nat) : DBox (w.drewN n) b d := by
  exact h
set_option maxRecDepth 20000 in
set_option maxHeartbeats 800000 in
theorem pof_any (d : D) (n E : Int) (hd : ofN d = n) (hE : ofE d = E) (w : World) :
    Calls Try.prog 9 #[.agg #[.int .i64 d.y, .int .i64 d.m, .int .i64 d.d]] w fun e w' => e = .returned (.tuple #[.int .i64 n, .int .i64 E]) ∧ Below w.heap.size w w' := by
  have HD := Lib.hid hd
  have HE := Lib.hid hE
  clear hd hE
  have HX := Lib.hid (DBox.new w d)
  have HBW := Lib.hid (below_lit w #[.int .i64 d.y, .int .i64 d.m, .int .i64 d.d] 23)
  obtain ⟨w0, hw0⟩ : ∃ w0, w0 = w.alloc (.cells #[.int .i64 d.y, .int .i64 d.m, .int .i64 d.d] 23) := ⟨_, rfl⟩
  rw [← hw0] at HX HBW
  have HW := Lib.hid hw0
  clear hw0
  obtain ⟨hc0, hc1, hc2⟩ := HX.out.cells
  cases hB : dateB d with
  | false =>
    have HB := Lib.hid hB
    obtain ⟨e1, e2⟩ := pof_bad (okD_bad hB)
    have hn : n = 0 := HD.out.symm.trans e1
    have hE : E = 1 := HE.out.symm.trans e2
    subst hn hE
    clear e1 e2 hB
    go_enter Try.func9, Try.ntmps9
    go_wp2_with fail
    rw [← HW.out]
    go_wp2_with fail
    refine (pisDate_any d false HB.out w0).mono ?_
    rintro e w1 ⟨rfl, hb1⟩
    have HB1 := Lib.hid (HBW.out.trans (hb1.mono HBW.out.size))
    clear hc0 hc1 hc2 hb1
    go_wp2
    go_ret2
    exact ⟨rfl, HB1.out⟩
  | true =>
    have HB := Lib.hid hB
    have hf := (dateB_iff d).1 hB
    clear hB
    obtain ⟨f1, f2, f3, f4, f5, f6⟩ := hf
    obtain ⟨j, hj⟩ : ∃ j : Nat, d.y = 2000 + (j : Int) := ⟨(d.y - 2000).toNat, by omega⟩
    obtain ⟨t, ht⟩ : ∃ t : Nat, d.m = (t : Int) + 1 := ⟨(d.m - 1).toNat, by omega⟩
    obtain ⟨z, hz⟩ : ∃ z : Nat, d.d = (z : Int) + 1 := ⟨(d.d - 1).toNat, by omega⟩
    have hj2 : j ≤ 273 := by omega
    have ht2 : t ≤ 11 := by omega
    have hz2 : z ≤ 31 := by have := lenM_le d.y d.m; omega
    have HC := Lib.hid (show cnt d = dsum (12 * j + t) + z by
      have e1 : ixD d = 12 * j + t := by unfold ixD; omega
      rw [cnt, e1]; omega)
    obtain ⟨f, hf⟩ : ∃ f, feb d.y = f := ⟨_, rfl⟩
    have HF := Lib.hid hf
    obtain ⟨s, hs⟩ : ∃ s, dsum (12 * j) = s := ⟨_, rfl⟩
    have hs2 : s ≤ 100000 := by have := dsum_years_le j; omega
    have HS := Lib.hid hs
    have HJ := Lib.hid hj
    have HT := Lib.hid ht
    have HZ := Lib.hid hz
    have q1 : IntKind.i64.wrap ((s : Int) + d.d) = (s : Int) + d.d := IntWalk.i64_in _ (by omega)
    have q2 : IntKind.i64.wrap ((s : Int) + d.d - 1) = ((s + z : Nat) : Int) := by rw [IntWalk.i64_in _ (by omega)]; omega
    clear hf hs hj ht hz f1 f2 f3 f4 f5 f6
    go_enter Try.func9, Try.ntmps9
    go_wp2_with fail
    rw [← HW.out]
    go_wp2_with fail
    refine (pisDate_any d true HB.out w0).mono ?_
    rintro e w1 ⟨rfl, hb1⟩
    have HY := Lib.hid (HX.out.next hb1)
    have HB1 := Lib.hid (HBW.out.trans (hb1.mono HBW.out.size))
    clear hc0 hc1 hc2 hb1
    obtain ⟨hc0, hc1, hc2⟩ := HY.out.cells
    go_wp2_with fail
    go_quiet ((go_at_call 20; refine Calls.quiet_of_same (pstart_quiet d.y j s HJ.out hj2 HS.out _)))
    clear q1 q2
    have HY2 := Lib.hid (HY.out.drewN nq)
    have HB2 := Lib.hid (below_drewN HB1.out nq)
    obtain ⟨w2, hw2⟩ : ∃ w2, w2 = w1.drewN nq := ⟨_, rfl⟩
    rw [← hw2] at HY2 HB2 ⊢
    have HW2 := Lib.hid hw2
    clear hw2 hc0 hc1 hc2
    obtain ⟨hc0, hc1, hc2⟩ := HY2.out.cells
    go_wp2_with fail
    refine (pmonths_any d.y f HF.out w2).mono ?_
    rintro e w3 ⟨rfl, hb3⟩
    have HY3 := Lib.hid (HY2.out.next hb3)
    have HB3 := Lib.hid (HB2.out.trans (hb3.mono HB2.out.size))
    clear hc0 hc1 hc2 hb3
    obtain ⟨hc0, hc1, hc2⟩ := HY3.out.cells
    go_wp2_with fail
    go_loop [4, 5, 6, 20] (fun a b c e => ∃ k q S : Nat, k ≤ 12 ∧ q ≤ k ∧ q ≤ t ∧ (q = k ∨ q = t) ∧ Hid (dsum (12 * j + q) = S) ∧ a = .int .i64 ((S : Int) + (z : Int)) ∧ e = .int .i64 (k : Int)) (fun _ _ _ e => 12 - (intOf e).toNat)
    case atStart => exact ⟨0, 0, s, by omega, by omega, by omega, .inl rfl, HS, rfl, rfl⟩
    case round =>
      obtain ⟨k, q, S, hk, hq1, hq2, hq3, HQ, rfl, rfl⟩ := hrel
      have hS : S ≤ 200000 := by
        have := dsum_le (12 * j + q); have := HQ.out; omega
      by_cases hlt : k < 12
      · obtain ⟨L, hL⟩ : ∃ L, len (12 * j + k) = L := ⟨_, rfl⟩
        have hix : ∀ w : World, (Instr.index 35 (.agg (mA f)) (.int .i64 (k : Int))).run Try.prog w = .ok (.int .i64 (L : Int)) w := by
          intro w2
          rw [run_index_mA f k hlt, ← HF.out, HJ.out, mls_len_at _ _ hlt, hL]
        have hL31 : L ≤ 31 := by rw [← hL]; exact len_le _
        have HL := Lib.hid hL
        clear hL
        by_cases he : k < t
        · have hq : q = k := by omega
          subst hq
          have hm : decide ((q : Int) + 1 < d.m) = true := decide_eq_true (by rw [HT.out]; omega)
          have HQ2 := Lib.hid (show dsum (12 * j + (q + 1)) = S + L by rw [show 12 * j + (q + 1) = 12 * j + q + 1 from rfl, dsum_succ, HQ.out, HL.out])
          go_wp2
          go_round
          case rel => exact ⟨q + 1, q + 1, S + L, by omega, by omega, by omega, .inl rfl, HQ2, by go_num, by go_num⟩
          case measure => simp [intOf]; omega
        · have hq : q = t := by omega
          have hm : decide ((k : Int) + 1 < d.m) = false := decide_eq_false (by rw [HT.out]; omega)
          have HQ3 := Lib.hid hq
          clear hq hq3
          go_wp2
          go_round
          case rel => exact ⟨k + 1, q, S, by omega, by omega, by omega, .inr HQ3.out, HQ, rfl, by go_num⟩
          case measure => simp [intOf]; omega
      · have hq : q = t := by omega
        have HC2 := Lib.hid (show cnt d = S + z by rw [HC.out, ← hq, HQ.out])
        clear hq hq3
        by_cases h9 : S + z ≤ 99999
        · have hok : okN ((S : Int) + (z : Int)) = true := (okN_iff _).2 (by omega)
          have HO := Lib.hid hok
          have hgood : okD d = true := okD_of HB.out (by rw [HC2.out]; exact h9)
          have hn : n = ((S : Int) + (z : Int)) := by rw [← HD.out, ofN, if_pos hgood, HC2.out]; omega
          have hE : E = 0 := by rw [← HE.out, ofE, if_pos hgood]
          subst hn hE
          clear hgood hok
          go_wp2_with (go_at_call 15; refine (pisDay_same _ true HO.out _).mono ?_; rintro e w1 ⟨rfl, rfl⟩)
          go_ret2
          exact ⟨rfl, HB3.out⟩
        · have hok : okN ((S : Int) + (z : Int)) = false := by
            rw [okN, decide_eq_false (show ¬ ((S : Int) + (z : Int) ≤ 99999) by omega), Bool.and_false]
          have HO := Lib.hid hok
          have hbad : okD d = false := by rw [okD, HC2.out, decide_eq_false h9, Bool.and_false]
          obtain ⟨e1, e2⟩ := pof_bad hbad
          have hn : n = 0 := HD.out.symm.trans e1
          have hE : E = 1 := HE.out.symm.trans e2
          subst hn hE
          clear e1 e2 hbad hok
          go_wp2_with (go_at_call 15; refine (pisDay_same _ false HO.out _).mono ?_; rintro e w1 ⟨rfl, rfl⟩)
          go_ret2
          exact ⟨rfl, HB3.out⟩
end Go.Proofs.Ytiekfcpinljcjaa
