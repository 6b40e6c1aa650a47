/-
  DayNext walked, out of the four contracts: it answers true. Conditions: the number fits an int.
-/
import Derived.Test.YtiekfcpinljcjaaDated
namespace Go.Proofs.Ytiekfcpinljcjaa
set_option linter.unusedVariables false
open Go.ChangeShapes Go.WideShapes Go.ChangeAt Go.RowKit

set_option maxRecDepth 100000 in
set_option maxHeartbeats 1600000 in
theorem next_any (C : DC) (n : Int) (hn : In64 n) (w : World) :
    Calls Try.prog 5 #[.int .i64 n] w fun e w' => e = .returned (.bool true) ∧ Below w.heap.size w w' := by
  have RN := Lib.hid hn
  have HBL := Lib.hid (Below.refl w.heap.size w)
  cases hok : okN n with
  | false =>
    have hno : n < 0 ∨ (¬ n < 0 ∧ 99999 < n) := by
      have : ¬ (0 ≤ n ∧ n ≤ 99999) := fun h => by rw [(okN_iff n).2 h] at hok; cases hok
      omega
    obtain ⟨a, ha⟩ : ∃ a, dateD n = a := ⟨_, rfl⟩
    have HA := Lib.hid ha
    have HE := Lib.hid (show dateE n = 1 by rw [dateE, if_neg (by rw [hok]; decide)])
    clear ha hok hn
    rcases hno with h | ⟨h, h2⟩
    · skip
      go_enter Try.func5, Try.ntmps5
      go_wp2_with fail
      refine (C.date n a 1 w RN.out HA.out HE.out).mono ?_
      rintro e w1 ⟨rfl, hb⟩
      replace HBL := Lib.hid (HBL.out.trans (hb.mono HBL.out.size))
      clear hb
      go_wp2_with ((with_reducible refine at_store 3 ?_); refine wpList_store_named (o := ⟨none, .store 23 (.tmp 3) (.tmp 15), _, _, _, _⟩) rfl 23 (.tmp 3) (.tmp 15) rfl w1.heap.size #[.int .i64 a.y, .int .i64 a.m, .int .i64 a.d] rfl rfl 23 #[.int .i64 0, .int .i64 0, .int .i64 0] (heap_alloc_new w1 _) infoDate rfl (dc_one _ _ _) ?_)
      intro w2 hw
      obtain ⟨hx, hb⟩ := dbox_made (d := a) hw.out
      replace HBL := Lib.hid (HBL.out.trans (hb.mono HBL.out.size))
      have X3 := Lib.hid hx
      clear hx hb hw
      go_wp2_with fail
      refine (C.week n 1 w2 RN.out HE.out).mono ?_
      rintro e w3 ⟨v, rfl, _, hb⟩
      replace X3 := Lib.hid (X3.out.next hb)
      replace HBL := Lib.hid (HBL.out.trans (hb.mono HBL.out.size))
      clear hb
      go_wp2_with fail
      refine (dated_any C w3).mono ?_
      rintro e w4 ⟨rfl, hb⟩
      replace X3 := Lib.hid (X3.out.next hb)
      replace HBL := Lib.hid (HBL.out.trans (hb.mono HBL.out.size))
      clear hb
      go_wp2
      go_ret
      exact ⟨rfl, HBL.out⟩
    · skip
      go_enter Try.func5, Try.ntmps5
      go_wp2_with fail
      refine (C.date n a 1 w RN.out HA.out HE.out).mono ?_
      rintro e w1 ⟨rfl, hb⟩
      replace HBL := Lib.hid (HBL.out.trans (hb.mono HBL.out.size))
      clear hb
      go_wp2_with ((with_reducible refine at_store 3 ?_); refine wpList_store_named (o := ⟨none, .store 23 (.tmp 3) (.tmp 15), _, _, _, _⟩) rfl 23 (.tmp 3) (.tmp 15) rfl w1.heap.size #[.int .i64 a.y, .int .i64 a.m, .int .i64 a.d] rfl rfl 23 #[.int .i64 0, .int .i64 0, .int .i64 0] (heap_alloc_new w1 _) infoDate rfl (dc_one _ _ _) ?_)
      intro w2 hw
      obtain ⟨hx, hb⟩ := dbox_made (d := a) hw.out
      replace HBL := Lib.hid (HBL.out.trans (hb.mono HBL.out.size))
      have X3 := Lib.hid hx
      clear hx hb hw
      go_wp2_with fail
      refine (C.week n 1 w2 RN.out HE.out).mono ?_
      rintro e w3 ⟨v, rfl, _, hb⟩
      replace X3 := Lib.hid (X3.out.next hb)
      replace HBL := Lib.hid (HBL.out.trans (hb.mono HBL.out.size))
      clear hb
      go_wp2_with fail
      refine (dated_any C w3).mono ?_
      rintro e w4 ⟨rfl, hb⟩
      replace X3 := Lib.hid (X3.out.next hb)
      replace HBL := Lib.hid (HBL.out.trans (hb.mono HBL.out.size))
      clear hb
      go_wp2
      go_ret
      exact ⟨rfl, HBL.out⟩
  | true =>
    have hr := (okN_iff n).1 hok
    have HE := Lib.hid (show dateE n = 0 by rw [dateE, if_pos hok])
    have HOK := Lib.hid hok
    have w5 : IntKind.i64.wrap (n + 5) = n + 5 := IntWalk.i64_in _ (by omega)
    have wn : IntKind.i64.wrap (n + 1) = n + 1 := IntWalk.i64_in _ (by omega)
    have HV := Lib.hid (show (n + 5) % 7 = (n + 5).tmod 7 from (Int.tmod_eq_emod_of_nonneg (by omega)).symm)
    by_cases h9 : n = 99999
    · obtain ⟨a, ha⟩ : ∃ a, dateD n = a := ⟨_, rfl⟩
      have HA := Lib.hid ha
      have q9 : (n == 99999) = true := by simpa using h9
      clear ha hok hn hr h9
      go_enter Try.func5, Try.ntmps5
      go_wp2_with fail
      refine (C.date n a 0 w RN.out HA.out HE.out).mono ?_
      rintro e w1 ⟨rfl, hb⟩
      replace HBL := Lib.hid (HBL.out.trans (hb.mono HBL.out.size))
      clear hb
      go_wp2_with ((with_reducible refine at_store 3 ?_); refine wpList_store_named (o := ⟨none, .store 23 (.tmp 3) (.tmp 15), _, _, _, _⟩) rfl 23 (.tmp 3) (.tmp 15) rfl w1.heap.size #[.int .i64 a.y, .int .i64 a.m, .int .i64 a.d] rfl rfl 23 #[.int .i64 0, .int .i64 0, .int .i64 0] (heap_alloc_new w1 _) infoDate rfl (dc_one _ _ _) ?_)
      intro w2 hw
      obtain ⟨hx, hb⟩ := dbox_made (d := a) hw.out
      replace HBL := Lib.hid (HBL.out.trans (hb.mono HBL.out.size))
      have X3 := Lib.hid hx
      clear hx hb hw
      go_wp2_with fail
      refine (C.week n 0 w2 RN.out HE.out).mono ?_
      rintro e w3 ⟨v, rfl, hv, hb⟩
      replace X3 := Lib.hid (X3.out.next hb)
      replace HBL := Lib.hid (HBL.out.trans (hb.mono HBL.out.size))
      obtain rfl : v = (n + 5).tmod 7 := (hv HOK.out).trans HV.out
      clear hb
      go_wp2_with fail
      refine (dated_any C w3).mono ?_
      rintro e w4 ⟨rfl, hb⟩
      replace X3 := Lib.hid (X3.out.next hb)
      replace HBL := Lib.hid (HBL.out.trans (hb.mono HBL.out.size))
      clear hb
      go_wp2
      go_ret
      exact ⟨rfl, HBL.out⟩
    · have q9 : (n == 99999) = false := by simpa using h9
      obtain ⟨hE1, hcase⟩ := date_next hok h9
      have hin := date_in (n := n + 1)
      have hin0 := date_in (n := n)
      obtain ⟨a, ha⟩ : ∃ a, dateD n = a := ⟨_, rfl⟩
      rw [ha] at hcase hin0
      have HA := Lib.hid ha
      have HE1 := Lib.hid hE1
      have RN1 := Lib.hid (show In64 (n + 1) by unfold In64; omega)
      unfold In64 at hin hin0
      clear ha hok hn hr h9 hE1
      have sm : -9223372036854775808 ≤ a.y ∧ a.y ≤ 4000 ∧ -9223372036854775808 ≤ a.m ∧ a.m ≤ 12 ∧ -9223372036854775808 ≤ a.d ∧ a.d ≤ 31 := by
        rw [← HA.out, dateD, if_pos HOK.out]
        have hs := mday_spec n.toNat
        have hl := len_le (mday n.toNat).1
        have hr := (okN_iff n).1 HOK.out
        have ht : (mday n.toNat).1 ≤ 3611 := ix_small (by omega)
        refine ⟨?_, ?_, ?_, ?_, ?_, ?_⟩
        · show _ ≤ yr _; unfold yr; omega
        · show yr _ ≤ _; unfold yr; omega
        · show _ ≤ mo _; unfold mo; omega
        · show mo _ ≤ _; unfold mo; omega
        · show _ ≤ ((mday n.toNat).2 : Int) + 1; omega
        · show ((mday n.toNat).2 : Int) + 1 ≤ _; omega
      have wd : IntKind.i64.wrap (a.d + 1) = a.d + 1 := IntWalk.i64_in _ (by omega)
      have wm : IntKind.i64.wrap (a.m + 1) = a.m + 1 := IntWalk.i64_in _ (by omega)
      have wy : IntKind.i64.wrap (a.y + 1) = a.y + 1 := IntWalk.i64_in _ (by omega)
      have qm : (a.m == a.m + 1) = false := by rw [beq_eq_false_iff_ne]; omega
      have qm' : (a.m + 1 == a.m) = false := by rw [beq_eq_false_iff_ne]; omega
      have qy : (a.y == a.y + 1) = false := by rw [beq_eq_false_iff_ne]; omega
      have qy' : (a.y + 1 == a.y) = false := by rw [beq_eq_false_iff_ne]; omega
      clear sm
      rcases hcase with ⟨c1, c2, c3⟩ | ⟨c1, c2, c3, c4⟩ | ⟨c1, c2, c3, c4, c5⟩
      · skip
        have HD := Lib.hid (show dateD (n + 1) = ⟨a.y, a.m, a.d + 1⟩ from D.ext' c1 c2 c3)
        clear c1 c2 c3
        clear hin hin0
        go_enter Try.func5, Try.ntmps5
        go_wp2_with fail
        refine (C.date n a 0 w RN.out HA.out HE.out).mono ?_
        rintro e w1 ⟨rfl, hb⟩
        replace HBL := Lib.hid (HBL.out.trans (hb.mono HBL.out.size))
        clear hb
        go_wp2_with ((with_reducible refine at_store 3 ?_); refine wpList_store_named (o := ⟨none, .store 23 (.tmp 3) (.tmp 15), _, _, _, _⟩) rfl 23 (.tmp 3) (.tmp 15) rfl w1.heap.size #[.int .i64 a.y, .int .i64 a.m, .int .i64 a.d] rfl rfl 23 #[.int .i64 0, .int .i64 0, .int .i64 0] (heap_alloc_new w1 _) infoDate rfl (dc_one _ _ _) ?_)
        intro w2 hw
        obtain ⟨hx, hb⟩ := dbox_made (d := a) hw.out
        replace HBL := Lib.hid (HBL.out.trans (hb.mono HBL.out.size))
        have X3 := Lib.hid hx
        clear hx hb hw
        go_wp2_with fail
        refine (C.week n 0 w2 RN.out HE.out).mono ?_
        rintro e w3 ⟨v, rfl, hv, hb⟩
        replace X3 := Lib.hid (X3.out.next hb)
        replace HBL := Lib.hid (HBL.out.trans (hb.mono HBL.out.size))
        obtain rfl : v = (n + 5).tmod 7 := (hv HOK.out).trans HV.out
        clear hb
        go_wp2_with fail
        refine (C.date (n + 1) ⟨a.y, a.m, a.d + 1⟩ 0 w3 RN1.out HD.out HE1.out).mono ?_
        rintro e w4 ⟨rfl, hb⟩
        replace X3 := Lib.hid (X3.out.next hb)
        replace HBL := Lib.hid (HBL.out.trans (hb.mono HBL.out.size))
        clear hb
        go_wp2_with ((with_reducible refine at_store 7 ?_); refine wpList_store_named (o := ⟨none, .store 23 (.tmp 7) (.tmp 66), _, _, _, _⟩) rfl 23 (.tmp 7) (.tmp 66) rfl w4.heap.size #[.int .i64 (a.y), .int .i64 (a.m), .int .i64 (a.d + 1)] rfl rfl 23 #[.int .i64 0, .int .i64 0, .int .i64 0] (heap_alloc_new w4 _) infoDate rfl (dc_one _ _ _) ?_)
        intro w5 hw
        obtain ⟨hx, hb⟩ := dbox_made (d := ⟨a.y, a.m, a.d + 1⟩) hw.out
        replace X3 := Lib.hid (X3.out.next hb)
        replace HBL := Lib.hid (HBL.out.trans (hb.mono HBL.out.size))
        have X7 := Lib.hid hx
        clear hx hb hw
        have a0 : w5.cell? ⟨_, 0, none⟩ = some (.int .i64 (a.y)) := X3.out.cells.1
        have a1 : w5.cell? ⟨_, 1, none⟩ = some (.int .i64 (a.m)) := X3.out.cells.2.1
        have a2 : w5.cell? ⟨_, 2, none⟩ = some (.int .i64 (a.d)) := X3.out.cells.2.2
        have b0 : w5.cell? ⟨_, 0, none⟩ = some (.int .i64 (a.y)) := X7.out.cells.1
        have b1 : w5.cell? ⟨_, 1, none⟩ = some (.int .i64 (a.m)) := X7.out.cells.2.1
        have b2 : w5.cell? ⟨_, 2, none⟩ = some (.int .i64 (a.d + 1)) := X7.out.cells.2.2
        go_wp2_with fail
        refine (dated_any C w5).mono ?_
        rintro e w6 ⟨rfl, hb⟩
        replace X3 := Lib.hid (X3.out.next hb)
        replace X7 := Lib.hid (X7.out.next hb)
        replace HBL := Lib.hid (HBL.out.trans (hb.mono HBL.out.size))
        clear hb
        go_wp2
        go_ret
        exact ⟨rfl, HBL.out⟩
      · skip
        have HD := Lib.hid (show dateD (n + 1) = ⟨a.y, a.m + 1, 1⟩ from D.ext' c1 c2 c3)
        clear c1 c2 c3
        clear hin hin0
        go_enter Try.func5, Try.ntmps5
        go_wp2_with fail
        refine (C.date n a 0 w RN.out HA.out HE.out).mono ?_
        rintro e w1 ⟨rfl, hb⟩
        replace HBL := Lib.hid (HBL.out.trans (hb.mono HBL.out.size))
        clear hb
        go_wp2_with ((with_reducible refine at_store 3 ?_); refine wpList_store_named (o := ⟨none, .store 23 (.tmp 3) (.tmp 15), _, _, _, _⟩) rfl 23 (.tmp 3) (.tmp 15) rfl w1.heap.size #[.int .i64 a.y, .int .i64 a.m, .int .i64 a.d] rfl rfl 23 #[.int .i64 0, .int .i64 0, .int .i64 0] (heap_alloc_new w1 _) infoDate rfl (dc_one _ _ _) ?_)
        intro w2 hw
        obtain ⟨hx, hb⟩ := dbox_made (d := a) hw.out
        replace HBL := Lib.hid (HBL.out.trans (hb.mono HBL.out.size))
        have X3 := Lib.hid hx
        clear hx hb hw
        go_wp2_with fail
        refine (C.week n 0 w2 RN.out HE.out).mono ?_
        rintro e w3 ⟨v, rfl, hv, hb⟩
        replace X3 := Lib.hid (X3.out.next hb)
        replace HBL := Lib.hid (HBL.out.trans (hb.mono HBL.out.size))
        obtain rfl : v = (n + 5).tmod 7 := (hv HOK.out).trans HV.out
        clear hb
        go_wp2_with fail
        refine (C.date (n + 1) ⟨a.y, a.m + 1, 1⟩ 0 w3 RN1.out HD.out HE1.out).mono ?_
        rintro e w4 ⟨rfl, hb⟩
        replace X3 := Lib.hid (X3.out.next hb)
        replace HBL := Lib.hid (HBL.out.trans (hb.mono HBL.out.size))
        clear hb
        go_wp2_with ((with_reducible refine at_store 7 ?_); refine wpList_store_named (o := ⟨none, .store 23 (.tmp 7) (.tmp 66), _, _, _, _⟩) rfl 23 (.tmp 7) (.tmp 66) rfl w4.heap.size #[.int .i64 (a.y), .int .i64 (a.m + 1), .int .i64 (1)] rfl rfl 23 #[.int .i64 0, .int .i64 0, .int .i64 0] (heap_alloc_new w4 _) infoDate rfl (dc_one _ _ _) ?_)
        intro w5 hw
        obtain ⟨hx, hb⟩ := dbox_made (d := ⟨a.y, a.m + 1, 1⟩) hw.out
        replace X3 := Lib.hid (X3.out.next hb)
        replace HBL := Lib.hid (HBL.out.trans (hb.mono HBL.out.size))
        have X7 := Lib.hid hx
        clear hx hb hw
        have a0 : w5.cell? ⟨_, 0, none⟩ = some (.int .i64 (a.y)) := X3.out.cells.1
        have a1 : w5.cell? ⟨_, 1, none⟩ = some (.int .i64 (a.m)) := X3.out.cells.2.1
        have a2 : w5.cell? ⟨_, 2, none⟩ = some (.int .i64 (a.d)) := X3.out.cells.2.2
        have b0 : w5.cell? ⟨_, 0, none⟩ = some (.int .i64 (a.y)) := X7.out.cells.1
        have b1 : w5.cell? ⟨_, 1, none⟩ = some (.int .i64 (a.m + 1)) := X7.out.cells.2.1
        have b2 : w5.cell? ⟨_, 2, none⟩ = some (.int .i64 (1)) := X7.out.cells.2.2
        go_wp2_with fail
        refine (dated_any C w5).mono ?_
        rintro e w6 ⟨rfl, hb⟩
        replace X3 := Lib.hid (X3.out.next hb)
        replace X7 := Lib.hid (X7.out.next hb)
        replace HBL := Lib.hid (HBL.out.trans (hb.mono HBL.out.size))
        clear hb
        go_wp2
        go_ret
        exact ⟨rfl, HBL.out⟩
      · skip
        have HD := Lib.hid (show dateD (n + 1) = ⟨a.y + 1, 1, 1⟩ from D.ext' c1 c2 c3)
        have q4 : (a.m == 12) = true := by simpa using c4
        have q5 : (a.d == 31) = true := by simpa using c5
        clear c1 c2 c3 c4 c5
        clear hin hin0
        go_enter Try.func5, Try.ntmps5
        go_wp2_with fail
        refine (C.date n a 0 w RN.out HA.out HE.out).mono ?_
        rintro e w1 ⟨rfl, hb⟩
        replace HBL := Lib.hid (HBL.out.trans (hb.mono HBL.out.size))
        clear hb
        go_wp2_with ((with_reducible refine at_store 3 ?_); refine wpList_store_named (o := ⟨none, .store 23 (.tmp 3) (.tmp 15), _, _, _, _⟩) rfl 23 (.tmp 3) (.tmp 15) rfl w1.heap.size #[.int .i64 a.y, .int .i64 a.m, .int .i64 a.d] rfl rfl 23 #[.int .i64 0, .int .i64 0, .int .i64 0] (heap_alloc_new w1 _) infoDate rfl (dc_one _ _ _) ?_)
        intro w2 hw
        obtain ⟨hx, hb⟩ := dbox_made (d := a) hw.out
        replace HBL := Lib.hid (HBL.out.trans (hb.mono HBL.out.size))
        have X3 := Lib.hid hx
        clear hx hb hw
        go_wp2_with fail
        refine (C.week n 0 w2 RN.out HE.out).mono ?_
        rintro e w3 ⟨v, rfl, hv, hb⟩
        replace X3 := Lib.hid (X3.out.next hb)
        replace HBL := Lib.hid (HBL.out.trans (hb.mono HBL.out.size))
        obtain rfl : v = (n + 5).tmod 7 := (hv HOK.out).trans HV.out
        clear hb
        go_wp2_with fail
        refine (C.date (n + 1) ⟨a.y + 1, 1, 1⟩ 0 w3 RN1.out HD.out HE1.out).mono ?_
        rintro e w4 ⟨rfl, hb⟩
        replace X3 := Lib.hid (X3.out.next hb)
        replace HBL := Lib.hid (HBL.out.trans (hb.mono HBL.out.size))
        clear hb
        go_wp2_with ((with_reducible refine at_store 7 ?_); refine wpList_store_named (o := ⟨none, .store 23 (.tmp 7) (.tmp 66), _, _, _, _⟩) rfl 23 (.tmp 7) (.tmp 66) rfl w4.heap.size #[.int .i64 (a.y + 1), .int .i64 (1), .int .i64 (1)] rfl rfl 23 #[.int .i64 0, .int .i64 0, .int .i64 0] (heap_alloc_new w4 _) infoDate rfl (dc_one _ _ _) ?_)
        intro w5 hw
        obtain ⟨hx, hb⟩ := dbox_made (d := ⟨a.y + 1, 1, 1⟩) hw.out
        replace X3 := Lib.hid (X3.out.next hb)
        replace HBL := Lib.hid (HBL.out.trans (hb.mono HBL.out.size))
        have X7 := Lib.hid hx
        clear hx hb hw
        have a0 : w5.cell? ⟨_, 0, none⟩ = some (.int .i64 (a.y)) := X3.out.cells.1
        have a1 : w5.cell? ⟨_, 1, none⟩ = some (.int .i64 (a.m)) := X3.out.cells.2.1
        have a2 : w5.cell? ⟨_, 2, none⟩ = some (.int .i64 (a.d)) := X3.out.cells.2.2
        have b0 : w5.cell? ⟨_, 0, none⟩ = some (.int .i64 (a.y + 1)) := X7.out.cells.1
        have b1 : w5.cell? ⟨_, 1, none⟩ = some (.int .i64 (1)) := X7.out.cells.2.1
        have b2 : w5.cell? ⟨_, 2, none⟩ = some (.int .i64 (1)) := X7.out.cells.2.2
        go_wp2_with fail
        refine (dated_any C w5).mono ?_
        rintro e w6 ⟨rfl, hb⟩
        replace X3 := Lib.hid (X3.out.next hb)
        replace X7 := Lib.hid (X7.out.next hb)
        replace HBL := Lib.hid (HBL.out.trans (hb.mono HBL.out.size))
        clear hb
        go_wp2
        go_ret
        exact ⟨rfl, HBL.out⟩
end Go.Proofs.Ytiekfcpinljcjaa
