/-
  Contract for the reference's Date: the date of a day, or the document's error. Conditions: none.
-/
import Derived.Test.YtiekfcpinljcjaaDayLeap
import Derived.Test.YtiekfcpinljcjaaDayBox
namespace Go.Proofs.Ytiekfcpinljcjaa
set_option linter.unusedVariables false
open Go.ChangeShapes Go.WideShapes Go.ChangeAt Go.RowKit

set_option maxRecDepth 20000 in
theorem refdate_any (n : Int) (d : D) (E : Int) (hd : dateD n = d) (hE : dateE n = E) (w : World) :
    Calls Try.prog 8 #[.int .i64 n] w fun e w' => e = .returned (.tuple #[.agg #[.int .i64 d.y, .int .i64 d.m, .int .i64 d.d], .int .i64 E]) ∧ Below w.heap.size w w' := by
  have HD := Lib.hid hd
  have HE := Lib.hid hE
  clear hd hE
  have hZ := DBox.new w D0
  have HZ0 := Lib.hid hZ
  have HB0 := Lib.hid (below_lit w #[.int .i64 0, .int .i64 0, .int .i64 0] 23)
  clear hZ
  cases hok : okN n with
  | false =>
    have hd : d = D0 := by rw [← HD.out, dateD, if_neg (by rw [hok]; decide)]
    have hE : E = 1 := by rw [← HE.out, dateE, if_neg (by rw [hok]; decide)]
    subst hd hE
    have hno : n < 0 ∨ (¬ n < 0 ∧ 99999 < n) := by
      have : ¬ (0 ≤ n ∧ n ≤ 99999) := fun h => by rw [(okN_iff n).2 h] at hok; cases hok
      omega
    clear hok
    rcases hno with h | ⟨h, h2⟩
    all_goals
      go_enter Try.func8, Try.ntmps8
      go_wp2_with ((with_reducible refine at_store 2 ?_); refine wpList_store_named (o := ⟨none, .store 23 (.tmp 2) (.tmp 11), _, _, _, _⟩) rfl 23 (.tmp 2) (.tmp 11) rfl w.heap.size #[.int .i64 0, .int .i64 0, .int .i64 0] rfl rfl 23 #[.int .i64 0, .int .i64 0, .int .i64 0] HZ0.out infoDate rfl (dc_one _ _ _) ?_; intro w5 hw5)
      have hr5 := setRow_heap (w.alloc (.cells #[.int .i64 0, .int .i64 0, .int .i64 0] 23)) w.heap.size #[.int .i64 0, .int .i64 0, .int .i64 0] #[.int .i64 0, .int .i64 0, .int .i64 0] 23 (0, 0) HZ0.out
      rw [← hw5.out] at hr5
      have hb5 := below_row hw5.out (Nat.le_refl w.heap.size)
      refine bodyPost_ret (results_row_tmp' Try.results8 _ w5 w.heap.size 23 #[.int .i64 0, .int .i64 0, .int .i64 0] (0, 0) _ rfl hr5 Try.underlying23 rfl infoDate) rfl ⟨rfl, HB0.out.trans hb5⟩
  | true =>
    have hn := (okN_iff n).1 hok
    obtain ⟨N, rfl⟩ : ∃ N : Nat, n = (N : Int) := ⟨n.toNat, by omega⟩
    have hd : d = mkD (mday N).1 (mday N).2 := by rw [← HD.out, dateD, if_pos hok]; rfl
    have hE : E = 0 := by rw [← HE.out, dateE, if_pos hok]
    have HD2 := Lib.hid hd
    subst hE
    clear hd hok
    have g1 : ¬ ((N : Int) < 0) := by omega
    have g2 : ¬ ((99999 : Int) < (N : Int)) := by omega
    have HZ1 := Lib.hid (HZ0.out.next (below_lit _ #[.int .i64 2000, .int .i64 1, .int .i64 1] 23))
    have HX1 := Lib.hid (DBox.new (w.alloc (.cells #[.int .i64 0, .int .i64 0, .int .i64 0] 23)) ⟨2000, 1, 1⟩)
    have HB1 := Lib.hid (HB0.out.trans ((below_lit (w.alloc (.cells #[.int .i64 0, .int .i64 0, .int .i64 0] 23)) #[.int .i64 2000, .int .i64 1, .int .i64 1] 23).mono HB0.out.size))
    have hsz : (w.alloc (.cells #[.int .i64 0, .int .i64 0, .int .i64 0] 23)).heap.size = w.heap.size + 1 := by simp
    rw [hsz] at HX1
    clear hsz
    go_enter Try.func8, Try.ntmps8
    go_wp2
    go_loopw [0] (fun i wr => ∃ t r : Nat, i = .int .i64 r ∧ dsum t + r = N ∧ DBox wr (w.heap.size + 1) ⟨yr t, mo t, 1⟩ ∧ DBox wr w.heap.size D0 ∧ Below w.heap.size w wr) (fun i _ => (intOf i).toNat)
    case atStart => exact ⟨0, N, rfl, by rw [dsum, Nat.zero_add], HX1.out, HZ1.out, HB1.out⟩
    case round =>
      obtain ⟨t, r, rfl, hsum, hx, hz, hbel⟩ := hrel
      obtain ⟨hc0, hc1, hc2⟩ := hx.cells
      have HX := Lib.hid hx
      have HZ := Lib.hid hz
      have HB := Lib.hid hbel
      have hts : t ≤ 3611 := ix_small (by omega)
      have y1 : 2000 ≤ yr t := by unfold yr; omega
      have y2 : yr t ≤ 3000 := by unfold yr; omega
      have m1 : 1 ≤ mo t := by unfold mo; omega
      have m2 : mo t ≤ 12 := by unfold mo; omega
      have hge := len_ge t
      have hle := len_le t
      have wm : IntKind.i64.wrap (mo t + 1) = mo t + 1 := IntWalk.i64_in _ (by omega)
      have wy : IntKind.i64.wrap (yr t + 1) = yr t + 1 := IntWalk.i64_in _ (by omega)
      have wr1 : IntKind.i64.wrap (1 + (r : Int)) = (r : Int) + 1 := by rw [IntWalk.i64_in _ (by omega)]; omega
      have wr2 : IntKind.i64.wrap ((r : Int) - (len t : Nat)) = (r : Int) - (len t : Nat) := IntWalk.i64_in _ (by omega)
      clear hx hz hbel
      by_cases hlt : len t ≤ r
      · have k1 : ((len t : Nat) : Int) ≤ (r : Int) := by omega
        by_cases hm : t % 12 = 11
        · have k2 : (12 : Int) < mo t + 1 := by unfold mo; omega
          go_wp2_with (first | (go_at_call 18; refine (reflength_any _ _ (len t) rfl _).mono ?_; rintro e w1 ⟨rfl, hb1⟩; replace HX := Lib.hid (HX.out.next hb1); replace HZ := Lib.hid (HZ.out.next hb1); replace HB := Lib.hid (HB.out.trans (hb1.mono HB.out.size)); obtain ⟨hc0, hc1, hc2⟩ := HX.out.cells; clear hb1) | ((with_reducible refine at_store 30 ?_); refine wpList_store_cell (op := ⟨none, .store 3 (.tmp 30) (.tmp 29), _, _, _, _⟩) rfl 3 (.tmp 30) (.tmp 29) rfl (w.heap.size + 1) 1 (.int .i64 (mo t + 1)) rfl rfl rfl (HX.out.some 1 (by omega)) (HX.out.frozen 1) infoInt ?_; intro w2 hw2; replace HX := Lib.hid (show DBox w2 (w.heap.size + 1) ⟨yr t, mo t + 1, 1⟩ by rw [hw2.out]; exact HX.out.set1 _); replace HZ := Lib.hid (show DBox w2 w.heap.size D0 by rw [hw2.out]; exact HZ.out.setAt _ (by omega)); replace HB := Lib.hid (show Below w.heap.size w w2 by rw [hw2.out]; exact HB.out.setCell (p := ⟨w.heap.size + 1, 1, none⟩) (by simp) _); obtain ⟨hc0, hc1, hc2⟩ := HX.out.cells; clear hw2) | ((with_reducible refine at_store 34 ?_); refine wpList_store_cell (op := ⟨none, .store 3 (.tmp 34) (.const (.int .i64 1)), _, _, _, _⟩) rfl 3 (.tmp 34) (.const (.int .i64 1)) rfl (w.heap.size + 1) 1 (.int .i64 1) rfl rfl rfl (HX.out.some 1 (by omega)) (HX.out.frozen 1) infoInt ?_; intro w2 hw2; replace HX := Lib.hid (show DBox w2 (w.heap.size + 1) ⟨yr t, 1, 1⟩ by rw [hw2.out]; exact HX.out.set1 _); replace HZ := Lib.hid (show DBox w2 w.heap.size D0 by rw [hw2.out]; exact HZ.out.setAt _ (by omega)); replace HB := Lib.hid (show Below w.heap.size w w2 by rw [hw2.out]; exact HB.out.setCell (p := ⟨w.heap.size + 1, 1, none⟩) (by simp) _); obtain ⟨hc0, hc1, hc2⟩ := HX.out.cells; clear hw2) | ((with_reducible refine at_store 38 ?_); refine wpList_store_cell (op := ⟨none, .store 3 (.tmp 38) (.tmp 37), _, _, _, _⟩) rfl 3 (.tmp 38) (.tmp 37) rfl (w.heap.size + 1) 0 (.int .i64 (yr t + 1)) rfl rfl rfl (HX.out.some 0 (by omega)) (HX.out.frozen 0) infoInt ?_; intro w2 hw2; replace HX := Lib.hid (show DBox w2 (w.heap.size + 1) ⟨yr t + 1, 1, 1⟩ by rw [hw2.out]; exact HX.out.set0 _); replace HZ := Lib.hid (show DBox w2 w.heap.size D0 by rw [hw2.out]; exact HZ.out.setAt _ (by omega)); replace HB := Lib.hid (show Below w.heap.size w w2 by rw [hw2.out]; exact HB.out.setCell (p := ⟨w.heap.size + 1, 0, none⟩) (by simp) _); obtain ⟨hc0, hc1, hc2⟩ := HX.out.cells; clear hw2))
          have e1 : yr (t + 1) = yr t + 1 := by unfold yr; omega
          have e2 : mo (t + 1) = 1 := by unfold mo; omega
          go_roundw
          case rel => exact ⟨t + 1, r - len t, by go_num, by rw [dsum_succ]; omega, by rw [e1, e2]; exact HX.out, HZ.out, HB.out⟩
          case measure => simp [intOf]; omega
        · have k2 : ¬ ((12 : Int) < mo t + 1) := by unfold mo; omega
          go_wp2_with (first | (go_at_call 18; refine (reflength_any _ _ (len t) rfl _).mono ?_; rintro e w1 ⟨rfl, hb1⟩; replace HX := Lib.hid (HX.out.next hb1); replace HZ := Lib.hid (HZ.out.next hb1); replace HB := Lib.hid (HB.out.trans (hb1.mono HB.out.size)); obtain ⟨hc0, hc1, hc2⟩ := HX.out.cells; clear hb1) | ((with_reducible refine at_store 30 ?_); refine wpList_store_cell (op := ⟨none, .store 3 (.tmp 30) (.tmp 29), _, _, _, _⟩) rfl 3 (.tmp 30) (.tmp 29) rfl (w.heap.size + 1) 1 (.int .i64 (mo t + 1)) rfl rfl rfl (HX.out.some 1 (by omega)) (HX.out.frozen 1) infoInt ?_; intro w2 hw2; replace HX := Lib.hid (show DBox w2 (w.heap.size + 1) ⟨yr t, mo t + 1, 1⟩ by rw [hw2.out]; exact HX.out.set1 _); replace HZ := Lib.hid (show DBox w2 w.heap.size D0 by rw [hw2.out]; exact HZ.out.setAt _ (by omega)); replace HB := Lib.hid (show Below w.heap.size w w2 by rw [hw2.out]; exact HB.out.setCell (p := ⟨w.heap.size + 1, 1, none⟩) (by simp) _); obtain ⟨hc0, hc1, hc2⟩ := HX.out.cells; clear hw2))
          have e1 : yr (t + 1) = yr t := by unfold yr; omega
          have e2 : mo (t + 1) = mo t + 1 := by unfold mo; omega
          go_roundw
          case rel => exact ⟨t + 1, r - len t, by go_num, by rw [dsum_succ]; omega, by rw [e1, e2]; exact HX.out, HZ.out, HB.out⟩
          case measure => simp [intOf]; omega
      · have k1 : ¬ (((len t : Nat) : Int) ≤ (r : Int)) := by omega
        have HDE := Lib.hid (show d = ⟨yr t, mo t, (r : Int) + 1⟩ by rw [HD2.out, mday_eq (by omega) hsum]; rfl)
        go_wp2_with (first | (go_at_call 18; refine (reflength_any _ _ (len t) rfl _).mono ?_; rintro e w1 ⟨rfl, hb1⟩; replace HX := Lib.hid (HX.out.next hb1); replace HZ := Lib.hid (HZ.out.next hb1); replace HB := Lib.hid (HB.out.trans (hb1.mono HB.out.size)); obtain ⟨hc0, hc1, hc2⟩ := HX.out.cells; clear hb1) | ((with_reducible refine at_store 41 ?_); refine wpList_store_cell (op := ⟨none, .store 3 (.tmp 41) (.tmp 40), _, _, _, _⟩) rfl 3 (.tmp 41) (.tmp 40) rfl (w.heap.size + 1) 2 (.int .i64 ((r : Int) + 1)) rfl rfl rfl (HX.out.some 2 (by omega)) (HX.out.frozen 2) infoInt ?_; intro w2 hw2; replace HX := Lib.hid (show DBox w2 (w.heap.size + 1) ⟨yr t, mo t, (r : Int) + 1⟩ by rw [hw2.out]; exact HX.out.set2 _); replace HZ := Lib.hid (show DBox w2 w.heap.size D0 by rw [hw2.out]; exact HZ.out.setAt _ (by omega)); replace HB := Lib.hid (show Below w.heap.size w w2 by rw [hw2.out]; exact HB.out.setCell (p := ⟨w.heap.size + 1, 2, none⟩) (by simp) _); obtain ⟨hc0, hc1, hc2⟩ := HX.out.cells; clear hw2) | ((with_reducible refine at_store 2 ?_); refine wpList_store_named (o := ⟨none, .store 23 (.tmp 2) (.tmp 42), _, _, _, _⟩) rfl 23 (.tmp 2) (.tmp 42) rfl w.heap.size #[.int .i64 (yr t), .int .i64 (mo t), .int .i64 ((r : Int) + 1)] rfl rfl 23 #[.int .i64 0, .int .i64 0, .int .i64 0] HZ.out infoDate rfl (dc_one _ _ _) ?_; intro w5 hw5))
        have hr5 := setRow_heap _ w.heap.size #[.int .i64 0, .int .i64 0, .int .i64 0] #[.int .i64 (yr t), .int .i64 (mo t), .int .i64 ((r : Int) + 1)] 23 (0, 0) HZ.out
        rw [← hw5.out] at hr5
        have hb5 := below_row hw5.out (Nat.le_refl w.heap.size)
        refine bodyPost_ret (results_row_tmp' Try.results8 _ w5 w.heap.size 23 #[.int .i64 (yr t), .int .i64 (mo t), .int .i64 ((r : Int) + 1)] (0, 0) _ rfl hr5 Try.underlying23 rfl infoDate) rfl ⟨by rw [HDE.out]; rfl, HB.out.trans hb5⟩
end Go.Proofs.Ytiekfcpinljcjaa
