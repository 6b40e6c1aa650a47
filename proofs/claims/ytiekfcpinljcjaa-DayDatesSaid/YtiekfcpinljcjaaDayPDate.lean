/-
  Contract for the landed Date: the date of a day, or the error. Conditions: none.
-/
import Derived.Test.YtiekfcpinljcjaaDayPMonths
import Derived.Test.YtiekfcpinljcjaaDayBox
namespace Go.Proofs.Ytiekfcpinljcjaa
set_option linter.unusedVariables false
open Go.ChangeShapes Go.WideShapes Go.ChangeAt Go.RowKit

set_option maxRecDepth 20000 in
set_option maxHeartbeats 800000 in
theorem pdate_any (n : Int) (d : D) (E : Int) (hd : dateD n = d) (hE : dateE n = E) (w : World) :
    Calls Try.prog 7 #[.int .i64 n] w fun e w' => e = .returned (.tuple #[.agg #[.int .i64 d.y, .int .i64 d.m, .int .i64 d.d], .int .i64 E]) ∧ Below w.heap.size w w' := by
  have HD := Lib.hid hd
  have HE := Lib.hid hE
  clear hd hE
  have hZ := DBox.new w D0
  have HZ0 := Lib.hid hZ
  have HB0 := Lib.hid (below_lit w #[.int .i64 0, .int .i64 0, .int .i64 0] 23)
  clear hZ
  cases hok : okN n with
  | false =>
    have HO := Lib.hid hok
    have hd : d = D0 := by rw [← HD.out, dateD, if_neg (by rw [hok]; decide)]
    have hE : E = 1 := by rw [← HE.out, dateE, if_neg (by rw [hok]; decide)]
    subst hd hE
    clear hok
    go_enter Try.func7, Try.ntmps7
    go_wp2_with (first | (go_at_call 15; refine (pisDay_same n false HO.out _).mono ?_; rintro e w1 ⟨rfl, rfl⟩) | ((with_reducible refine at_store 2 ?_); refine wpList_store_named (o := ⟨none, .store 23 (.tmp 2) (.tmp 11), _, _, _, _⟩) rfl 23 (.tmp 2) (.tmp 11) rfl w.heap.size #[.int .i64 0, .int .i64 0, .int .i64 0] rfl rfl 23 #[.int .i64 0, .int .i64 0, .int .i64 0] HZ0.out infoDate rfl (dc_one _ _ _) ?_; intro w5 hw5))
    have hr5 := setRow_heap (w.alloc (.cells #[.int .i64 0, .int .i64 0, .int .i64 0] 23)) w.heap.size #[.int .i64 0, .int .i64 0, .int .i64 0] #[.int .i64 0, .int .i64 0, .int .i64 0] 23 (0, 0) HZ0.out
    rw [← hw5.out] at hr5
    have hb5 := below_row hw5.out (Nat.le_refl w.heap.size)
    refine bodyPost_ret (results_row_tmp' Try.results7 _ w5 w.heap.size 23 #[.int .i64 0, .int .i64 0, .int .i64 0] (0, 0) _ rfl hr5 Try.underlying23 rfl infoDate) rfl ⟨rfl, HB0.out.trans hb5⟩
  | true =>
    have HO := Lib.hid hok
    have hn := (okN_iff n).1 hok
    obtain ⟨N, rfl⟩ : ∃ N : Nat, n = (N : Int) := ⟨n.toNat, by omega⟩
    have hN : N ≤ 99999 := by omega
    have hd : d = mkD (mday N).1 (mday N).2 := by rw [← HD.out, dateD, if_pos hok]; rfl
    have hE : E = 0 := by rw [← HE.out, dateE, if_pos hok]
    have HD2 := Lib.hid hd
    subst hE
    clear hd hok hn
    go_enter Try.func7, Try.ntmps7
    go_wp2_with (go_at_call 15; refine (pisDay_same _ true HO.out _).mono ?_; rintro e w1 ⟨rfl, rfl⟩)
    go_loop [0, 4] (fun a b => ∃ j r : Nat, dsum (12 * j) + r = N ∧ a = .int .i64 (r : Int) ∧ b = .int .i64 (2000 + (j : Int))) (fun a _ => (intOf a).toNat)
    case atStart => exact ⟨0, N, by rw [Nat.mul_zero, dsum, Nat.zero_add], rfl, rfl⟩
    case round =>
      obtain ⟨j, r, hs, rfl, rfl⟩ := hrel
      have h1 := dsum_years j
      have hr : r ≤ 99999 := by omega
      have hj : j ≤ 273 := by omega
      have HS := Lib.hid hs
      clear hs h1
      obtain ⟨Y, hY⟩ : ∃ Y, yl (2000 + (j : Int)) = Y := ⟨_, rfl⟩
      have hY1 : 365 ≤ Y := by rw [← hY]; exact yl_ge _
      have hY2 : Y ≤ 366 := by rw [← hY]; exact yl_le _
      have HY := Lib.hid hY
      clear hY
      by_cases hlt : Y ≤ r
      · have HS2 := Lib.hid (show dsum (12 * (j + 1)) + (r - Y) = N by rw [dsum_year, HY.out]; have := HS.out; omega)
        go_wp2_with (go_at_call 16; refine (pdaysIn_same _ Y HY.out _).mono ?_; rintro e w1 ⟨rfl, rfl⟩)
        go_round
        case rel => exact ⟨j + 1, r - Y, HS2.out, by go_num, by go_num⟩
        case measure => simp [intOf]; omega
      · have HLT := Lib.hid (show N < dsum (12 * (j + 1)) by rw [dsum_year, HY.out]; have := HS.out; omega)
        have k1 : decide (Y ≤ r) = false := decide_eq_false hlt
        obtain ⟨f, hf⟩ : ∃ f, feb (2000 + (j : Int)) = f := ⟨_, rfl⟩
        have HF := Lib.hid hf
        clear hf
        go_wp2_with (go_at_call 16; refine (pdaysIn_same _ Y HY.out _).mono ?_; rintro e w1 ⟨rfl, rfl⟩)
        refine (pmonths_any (2000 + (j : Int)) f HF.out _).mono ?_
        rintro e w3 ⟨rfl, hb3⟩
        have HZ3 := Lib.hid (HZ0.out.next hb3)
        have HB3 := Lib.hid (HB0.out.trans (hb3.mono HB0.out.size))
        clear hb3 k1 hlt
        go_wp2_with fail
        go_loop [0, 5, 7, 24] (fun a b c e => ∃ k q : Nat, k ≤ 12 ∧ dsum (12 * j + k) + q = N ∧ a = .int .i64 (q : Int) ∧ b = .int .i64 ((k : Int) + 1) ∧ e = .int .i64 (k : Int)) (fun _ _ _ e => 12 - (intOf e).toNat)
        case atStart => exact ⟨0, r, by omega, HS.out, rfl, rfl, rfl⟩
        case round =>
          obtain ⟨k, q, hk, hq, rfl, rfl, rfl⟩ := hrel
          have hq2 : q ≤ 99999 := by omega
          have HQ := Lib.hid hq
          clear hq
          by_cases hk12 : k < 12
          · obtain ⟨L, hL⟩ : ∃ L, len (12 * j + k) = L := ⟨_, rfl⟩
            have hix : ∀ w : World, (Instr.index 35 (.agg (mA f)) (.int .i64 (k : Int))).run Try.prog w = .ok (.int .i64 (L : Int)) w := by
              intro w2
              rw [run_index_mA f k hk12, ← HF.out, mls_len_at _ _ hk12, hL]
            have hL31 : L ≤ 31 := by rw [← hL]; exact len_le _
            have HL := Lib.hid hL
            clear hL
            by_cases hlt : q < L
            · have HDE := Lib.hid (show d = ⟨2000 + (j : Int), (k : Int) + 1, (q : Int) + 1⟩ by
                rw [HD2.out, mday_eq (t := 12 * j + k) (r := q) (by rw [HL.out]; exact hlt) HQ.out]
                exact D.ext' (by show yr (12 * j + k) = 2000 + (j : Int); unfold yr; omega) (by show mo (12 * j + k) = (k : Int) + 1; unfold mo; omega) rfl)
              go_wp2_with ((with_reducible refine at_store 2 ?_); refine wpList_store_named (o := ⟨none, .store 23 (.tmp 2) (.tmp 40), _, _, _, _⟩) rfl 23 (.tmp 2) (.tmp 40) rfl w.heap.size #[.int .i64 (2000 + (j : Int)), .int .i64 ((k : Int) + 1), .int .i64 ((q : Int) + 1)] rfl rfl 23 #[.int .i64 0, .int .i64 0, .int .i64 0] HZ3.out infoDate rfl (dc_one _ _ _) ?_; intro w5 hw5)
              have hr5 := setRow_heap _ w.heap.size #[.int .i64 0, .int .i64 0, .int .i64 0] #[.int .i64 (2000 + (j : Int)), .int .i64 ((k : Int) + 1), .int .i64 ((q : Int) + 1)] 23 (0, 0) HZ3.out
              rw [← hw5.out] at hr5
              have hb5 := below_row hw5.out (Nat.le_refl w.heap.size)
              refine bodyPost_ret (results_row_tmp' Try.results7 _ w5 w.heap.size 23 #[.int .i64 (2000 + (j : Int)), .int .i64 ((k : Int) + 1), .int .i64 ((q : Int) + 1)] (0, 0) _ rfl hr5 Try.underlying23 rfl infoDate) rfl ⟨by rw [HDE.out]; rfl, HB3.out.trans hb5⟩
            · have HQ2 := Lib.hid (show dsum (12 * j + (k + 1)) + (q - L) = N by
                rw [show 12 * j + (k + 1) = 12 * j + k + 1 from rfl, dsum_succ, HL.out]; have := HQ.out; omega)
              go_wp2
              go_round
              case rel => exact ⟨k + 1, q - L, by omega, HQ2.out, by go_num, by go_num, by go_num⟩
              case measure => simp [intOf]; omega
          · exfalso
            have e : k = 12 := by omega
            subst e
            have h1 := HQ.out
            have h2 := HLT.out
            rw [show 12 * (j + 1) = 12 * j + 12 from rfl] at h2
            omega
end Go.Proofs.Ytiekfcpinljcjaa
