/-
  DayBack walked, out of the four contracts: it answers true. Conditions: the numbers fit an int.
-/
import Derived.Test.YtiekfcpinljcjaaDated
namespace Go.Proofs.Ytiekfcpinljcjaa
set_option linter.unusedVariables false
open Go.ChangeShapes Go.WideShapes Go.ChangeAt Go.RowKit

set_option maxRecDepth 100000 in
set_option maxHeartbeats 1600000 in
theorem back_any (C : DC) (n : Int) (d : D) (hn : In64 n) (hy : In64 d.y) (hm : In64 d.m) (hd : In64 d.d) (w : World) :
    Calls Try.prog 4 #[.int .i64 n, .agg #[.int .i64 d.y, .int .i64 d.m, .int .i64 d.d]] w fun e w' => e = .returned (.bool true) ∧ Below w.heap.size w w' := by
  have RN := Lib.hid hn
  have RY := Lib.hid hy
  have RM := Lib.hid hm
  have RD := Lib.hid hd
  clear hn hy hm hd
  obtain ⟨w0, hw0⟩ : ∃ w0, w0 = w.alloc (.cells #[.int .i64 d.y, .int .i64 d.m, .int .i64 d.d] 23) := ⟨_, rfl⟩
  have X3 : Hid (DBox w0 w.heap.size d) := Lib.hid (by rw [hw0]; exact DBox.new w d)
  have HBL : Hid (Below w.heap.size w w0) := Lib.hid (by rw [hw0]; exact below_lit w _ _)
  have HW := Lib.hid hw0
  clear hw0
  have hday : (okN n = true ∧ ∃ a, dateD n = a ∧ dateE n = 0 ∧ ofN a = n ∧ ofE a = 0 ∧ In64 a.y ∧ In64 a.m ∧ In64 a.d) ∨ (∃ a, dateD n = a ∧ dateE n = 1) := by
    cases h : okN n with
    | true => exact .inl ⟨rfl, dateD n, rfl, by rw [dateE, if_pos h], (of_date h).1, (of_date h).2, date_in⟩
    | false => exact .inr ⟨dateD n, rfl, by rw [dateE, if_neg (by rw [h]; decide)]⟩
  have hdate : (∃ N, ofN d = N ∧ ofE d = 0 ∧ dateD N = d ∧ dateE N = 0 ∧ In64 N) ∨ (ofN d = 0 ∧ ofE d = 1) := by
    cases h : okD d with
    | true => exact .inl ⟨ofN d, rfl, by rw [ofE, if_pos h], (date_of h).1, (date_of h).2, of_in⟩
    | false => exact .inr ⟨by rw [ofN, if_neg (by rw [h]; decide)], by rw [ofE, if_neg (by rw [h]; decide)]⟩
  rcases hday with ⟨_, a, ha, hE, ho, hp, i1, i2, i3⟩ | ⟨a, ha, hE⟩
  · have HA := Lib.hid ha
    have HE := Lib.hid hE
    have HO := Lib.hid ho
    have HP := Lib.hid hp
    have A1 := Lib.hid i1
    have A2 := Lib.hid i2
    have A3 := Lib.hid i3
    clear ha hE ho hp i1 i2 i3
    rcases hdate with ⟨N, h1, h2, h3, h4, h5⟩ | ⟨h1, h2⟩
    · have D1 := Lib.hid h1
      have D2 := Lib.hid h2
      have D3 := Lib.hid h3
      have D4 := Lib.hid h4
      have D5 := Lib.hid h5
      clear h1 h2 h3 h4 h5
      go_enter Try.func4, Try.ntmps4
      go_wp2_with fail
      rw [← HW.out]
      skip
      refine (C.date n a 0 w0 RN.out HA.out HE.out).mono ?_
      rintro e w1 ⟨rfl, hb⟩
      replace X3 := Lib.hid (X3.out.next hb)
      replace HBL := Lib.hid (HBL.out.trans (hb.mono HBL.out.size))
      clear hb
      go_wp2_with ((with_reducible refine at_store 5 ?_); refine wpList_store_named (o := ⟨none, .store 23 (.tmp 5) (.tmp 16), _, _, _, _⟩) rfl 23 (.tmp 5) (.tmp 16) rfl w1.heap.size #[.int .i64 a.y, .int .i64 a.m, .int .i64 a.d] rfl rfl 23 #[.int .i64 0, .int .i64 0, .int .i64 0] (heap_alloc_new w1 _) infoDate rfl (dc_one _ _ _) ?_)
      intro w2 hw
      obtain ⟨hx, hb⟩ := dbox_made (d := a) hw.out
      replace X3 := Lib.hid (X3.out.next hb)
      replace HBL := Lib.hid (HBL.out.trans (hb.mono HBL.out.size))
      have X5 := Lib.hid hx
      clear hx hb hw
      have c0 : w2.cell? ⟨_, 0, none⟩ = some (.int .i64 a.y) := X5.out.cells.1
      have c1 : w2.cell? ⟨_, 1, none⟩ = some (.int .i64 a.m) := X5.out.cells.2.1
      have c2 : w2.cell? ⟨_, 2, none⟩ = some (.int .i64 a.d) := X5.out.cells.2.2
      go_wp2_with fail
      refine (C.of a n 0 w2 A1.out A2.out A3.out HO.out HP.out).mono ?_
      rintro e w3 ⟨rfl, hb⟩
      replace X3 := Lib.hid (X3.out.next hb)
      replace X5 := Lib.hid (X5.out.next hb)
      replace HBL := Lib.hid (HBL.out.trans (hb.mono HBL.out.size))
      clear c0 c1 c2
      clear hb
      have c0 : w3.cell? ⟨_, 0, none⟩ = some (.int .i64 d.y) := X3.out.cells.1
      have c1 : w3.cell? ⟨_, 1, none⟩ = some (.int .i64 d.m) := X3.out.cells.2.1
      have c2 : w3.cell? ⟨_, 2, none⟩ = some (.int .i64 d.d) := X3.out.cells.2.2
      go_wp2_with fail
      refine (C.of d N 0 w3 RY.out RM.out RD.out D1.out D2.out).mono ?_
      rintro e w4 ⟨rfl, hb⟩
      replace X3 := Lib.hid (X3.out.next hb)
      replace X5 := Lib.hid (X5.out.next hb)
      replace HBL := Lib.hid (HBL.out.trans (hb.mono HBL.out.size))
      clear c0 c1 c2
      clear hb
      go_wp2_with fail
      refine (C.date N d 0 w4 D5.out D3.out D4.out).mono ?_
      rintro e w5 ⟨rfl, hb⟩
      replace X3 := Lib.hid (X3.out.next hb)
      replace X5 := Lib.hid (X5.out.next hb)
      replace HBL := Lib.hid (HBL.out.trans (hb.mono HBL.out.size))
      clear hb
      go_wp2_with ((with_reducible refine at_store 11 ?_); refine wpList_store_named (o := ⟨none, .store 23 (.tmp 11) (.tmp 47), _, _, _, _⟩) rfl 23 (.tmp 11) (.tmp 47) rfl w5.heap.size #[.int .i64 d.y, .int .i64 d.m, .int .i64 d.d] rfl rfl 23 #[.int .i64 0, .int .i64 0, .int .i64 0] (heap_alloc_new w5 _) infoDate rfl (dc_one _ _ _) ?_)
      intro w6 hw
      obtain ⟨hx, hb⟩ := dbox_made (d := d) hw.out
      replace X3 := Lib.hid (X3.out.next hb)
      replace X5 := Lib.hid (X5.out.next hb)
      replace HBL := Lib.hid (HBL.out.trans (hb.mono HBL.out.size))
      have X11 := Lib.hid hx
      clear hx hb hw
      go_wp2_with fail
      refine (dated_any C w6).mono ?_
      rintro e w7 ⟨rfl, hb⟩
      replace X3 := Lib.hid (X3.out.next hb)
      replace X5 := Lib.hid (X5.out.next hb)
      replace X11 := Lib.hid (X11.out.next hb)
      replace HBL := Lib.hid (HBL.out.trans (hb.mono HBL.out.size))
      clear hb
      have c0 : w7.cell? ⟨_, 0, none⟩ = some (.int .i64 d.y) := X3.out.cells.1
      have c1 : w7.cell? ⟨_, 1, none⟩ = some (.int .i64 d.m) := X3.out.cells.2.1
      have c2 : w7.cell? ⟨_, 2, none⟩ = some (.int .i64 d.d) := X3.out.cells.2.2
      have e0 : w7.cell? ⟨_, 0, none⟩ = some (.int .i64 d.y) := X11.out.cells.1
      have e1 : w7.cell? ⟨_, 1, none⟩ = some (.int .i64 d.m) := X11.out.cells.2.1
      have e2 : w7.cell? ⟨_, 2, none⟩ = some (.int .i64 d.d) := X11.out.cells.2.2
      go_wp2
      go_ret
      exact ⟨rfl, HBL.out⟩
    · have D1 := Lib.hid h1
      have D2 := Lib.hid h2
      clear h1 h2
      go_enter Try.func4, Try.ntmps4
      go_wp2_with fail
      rw [← HW.out]
      skip
      refine (C.date n a 0 w0 RN.out HA.out HE.out).mono ?_
      rintro e w1 ⟨rfl, hb⟩
      replace X3 := Lib.hid (X3.out.next hb)
      replace HBL := Lib.hid (HBL.out.trans (hb.mono HBL.out.size))
      clear hb
      go_wp2_with ((with_reducible refine at_store 5 ?_); refine wpList_store_named (o := ⟨none, .store 23 (.tmp 5) (.tmp 16), _, _, _, _⟩) rfl 23 (.tmp 5) (.tmp 16) rfl w1.heap.size #[.int .i64 a.y, .int .i64 a.m, .int .i64 a.d] rfl rfl 23 #[.int .i64 0, .int .i64 0, .int .i64 0] (heap_alloc_new w1 _) infoDate rfl (dc_one _ _ _) ?_)
      intro w2 hw
      obtain ⟨hx, hb⟩ := dbox_made (d := a) hw.out
      replace X3 := Lib.hid (X3.out.next hb)
      replace HBL := Lib.hid (HBL.out.trans (hb.mono HBL.out.size))
      have X5 := Lib.hid hx
      clear hx hb hw
      have c0 : w2.cell? ⟨_, 0, none⟩ = some (.int .i64 a.y) := X5.out.cells.1
      have c1 : w2.cell? ⟨_, 1, none⟩ = some (.int .i64 a.m) := X5.out.cells.2.1
      have c2 : w2.cell? ⟨_, 2, none⟩ = some (.int .i64 a.d) := X5.out.cells.2.2
      go_wp2_with fail
      refine (C.of a n 0 w2 A1.out A2.out A3.out HO.out HP.out).mono ?_
      rintro e w3 ⟨rfl, hb⟩
      replace X3 := Lib.hid (X3.out.next hb)
      replace X5 := Lib.hid (X5.out.next hb)
      replace HBL := Lib.hid (HBL.out.trans (hb.mono HBL.out.size))
      clear c0 c1 c2
      clear hb
      have c0 : w3.cell? ⟨_, 0, none⟩ = some (.int .i64 d.y) := X3.out.cells.1
      have c1 : w3.cell? ⟨_, 1, none⟩ = some (.int .i64 d.m) := X3.out.cells.2.1
      have c2 : w3.cell? ⟨_, 2, none⟩ = some (.int .i64 d.d) := X3.out.cells.2.2
      go_wp2_with fail
      refine (C.of d 0 1 w3 RY.out RM.out RD.out D1.out D2.out).mono ?_
      rintro e w4 ⟨rfl, hb⟩
      replace X3 := Lib.hid (X3.out.next hb)
      replace X5 := Lib.hid (X5.out.next hb)
      replace HBL := Lib.hid (HBL.out.trans (hb.mono HBL.out.size))
      clear c0 c1 c2
      clear hb
      go_wp2_with fail
      refine (dated_any C w4).mono ?_
      rintro e w5 ⟨rfl, hb⟩
      replace X3 := Lib.hid (X3.out.next hb)
      replace X5 := Lib.hid (X5.out.next hb)
      replace HBL := Lib.hid (HBL.out.trans (hb.mono HBL.out.size))
      clear hb
      go_wp2
      go_ret
      exact ⟨rfl, HBL.out⟩
  · have HA := Lib.hid ha
    have HE := Lib.hid hE
    clear ha hE
    rcases hdate with ⟨N, h1, h2, h3, h4, h5⟩ | ⟨h1, h2⟩
    · have D1 := Lib.hid h1
      have D2 := Lib.hid h2
      have D3 := Lib.hid h3
      have D4 := Lib.hid h4
      have D5 := Lib.hid h5
      clear h1 h2 h3 h4 h5
      go_enter Try.func4, Try.ntmps4
      go_wp2_with fail
      rw [← HW.out]
      skip
      refine (C.date n a 1 w0 RN.out HA.out HE.out).mono ?_
      rintro e w1 ⟨rfl, hb⟩
      replace X3 := Lib.hid (X3.out.next hb)
      replace HBL := Lib.hid (HBL.out.trans (hb.mono HBL.out.size))
      clear hb
      go_wp2_with ((with_reducible refine at_store 5 ?_); refine wpList_store_named (o := ⟨none, .store 23 (.tmp 5) (.tmp 16), _, _, _, _⟩) rfl 23 (.tmp 5) (.tmp 16) rfl w1.heap.size #[.int .i64 a.y, .int .i64 a.m, .int .i64 a.d] rfl rfl 23 #[.int .i64 0, .int .i64 0, .int .i64 0] (heap_alloc_new w1 _) infoDate rfl (dc_one _ _ _) ?_)
      intro w2 hw
      obtain ⟨hx, hb⟩ := dbox_made (d := a) hw.out
      replace X3 := Lib.hid (X3.out.next hb)
      replace HBL := Lib.hid (HBL.out.trans (hb.mono HBL.out.size))
      have X5 := Lib.hid hx
      clear hx hb hw
      have c0 : w2.cell? ⟨_, 0, none⟩ = some (.int .i64 d.y) := X3.out.cells.1
      have c1 : w2.cell? ⟨_, 1, none⟩ = some (.int .i64 d.m) := X3.out.cells.2.1
      have c2 : w2.cell? ⟨_, 2, none⟩ = some (.int .i64 d.d) := X3.out.cells.2.2
      go_wp2_with fail
      refine (C.of d N 0 w2 RY.out RM.out RD.out D1.out D2.out).mono ?_
      rintro e w3 ⟨rfl, hb⟩
      replace X3 := Lib.hid (X3.out.next hb)
      replace X5 := Lib.hid (X5.out.next hb)
      replace HBL := Lib.hid (HBL.out.trans (hb.mono HBL.out.size))
      clear c0 c1 c2
      clear hb
      go_wp2_with fail
      refine (C.date N d 0 w3 D5.out D3.out D4.out).mono ?_
      rintro e w4 ⟨rfl, hb⟩
      replace X3 := Lib.hid (X3.out.next hb)
      replace X5 := Lib.hid (X5.out.next hb)
      replace HBL := Lib.hid (HBL.out.trans (hb.mono HBL.out.size))
      clear hb
      go_wp2_with ((with_reducible refine at_store 11 ?_); refine wpList_store_named (o := ⟨none, .store 23 (.tmp 11) (.tmp 47), _, _, _, _⟩) rfl 23 (.tmp 11) (.tmp 47) rfl w4.heap.size #[.int .i64 d.y, .int .i64 d.m, .int .i64 d.d] rfl rfl 23 #[.int .i64 0, .int .i64 0, .int .i64 0] (heap_alloc_new w4 _) infoDate rfl (dc_one _ _ _) ?_)
      intro w5 hw
      obtain ⟨hx, hb⟩ := dbox_made (d := d) hw.out
      replace X3 := Lib.hid (X3.out.next hb)
      replace X5 := Lib.hid (X5.out.next hb)
      replace HBL := Lib.hid (HBL.out.trans (hb.mono HBL.out.size))
      have X11 := Lib.hid hx
      clear hx hb hw
      go_wp2_with fail
      refine (dated_any C w5).mono ?_
      rintro e w6 ⟨rfl, hb⟩
      replace X3 := Lib.hid (X3.out.next hb)
      replace X5 := Lib.hid (X5.out.next hb)
      replace X11 := Lib.hid (X11.out.next hb)
      replace HBL := Lib.hid (HBL.out.trans (hb.mono HBL.out.size))
      clear hb
      have c0 : w6.cell? ⟨_, 0, none⟩ = some (.int .i64 d.y) := X3.out.cells.1
      have c1 : w6.cell? ⟨_, 1, none⟩ = some (.int .i64 d.m) := X3.out.cells.2.1
      have c2 : w6.cell? ⟨_, 2, none⟩ = some (.int .i64 d.d) := X3.out.cells.2.2
      have e0 : w6.cell? ⟨_, 0, none⟩ = some (.int .i64 d.y) := X11.out.cells.1
      have e1 : w6.cell? ⟨_, 1, none⟩ = some (.int .i64 d.m) := X11.out.cells.2.1
      have e2 : w6.cell? ⟨_, 2, none⟩ = some (.int .i64 d.d) := X11.out.cells.2.2
      go_wp2
      go_ret
      exact ⟨rfl, HBL.out⟩
    · have D1 := Lib.hid h1
      have D2 := Lib.hid h2
      clear h1 h2
      go_enter Try.func4, Try.ntmps4
      go_wp2_with fail
      rw [← HW.out]
      skip
      refine (C.date n a 1 w0 RN.out HA.out HE.out).mono ?_
      rintro e w1 ⟨rfl, hb⟩
      replace X3 := Lib.hid (X3.out.next hb)
      replace HBL := Lib.hid (HBL.out.trans (hb.mono HBL.out.size))
      clear hb
      go_wp2_with ((with_reducible refine at_store 5 ?_); refine wpList_store_named (o := ⟨none, .store 23 (.tmp 5) (.tmp 16), _, _, _, _⟩) rfl 23 (.tmp 5) (.tmp 16) rfl w1.heap.size #[.int .i64 a.y, .int .i64 a.m, .int .i64 a.d] rfl rfl 23 #[.int .i64 0, .int .i64 0, .int .i64 0] (heap_alloc_new w1 _) infoDate rfl (dc_one _ _ _) ?_)
      intro w2 hw
      obtain ⟨hx, hb⟩ := dbox_made (d := a) hw.out
      replace X3 := Lib.hid (X3.out.next hb)
      replace HBL := Lib.hid (HBL.out.trans (hb.mono HBL.out.size))
      have X5 := Lib.hid hx
      clear hx hb hw
      have c0 : w2.cell? ⟨_, 0, none⟩ = some (.int .i64 d.y) := X3.out.cells.1
      have c1 : w2.cell? ⟨_, 1, none⟩ = some (.int .i64 d.m) := X3.out.cells.2.1
      have c2 : w2.cell? ⟨_, 2, none⟩ = some (.int .i64 d.d) := X3.out.cells.2.2
      go_wp2_with fail
      refine (C.of d 0 1 w2 RY.out RM.out RD.out D1.out D2.out).mono ?_
      rintro e w3 ⟨rfl, hb⟩
      replace X3 := Lib.hid (X3.out.next hb)
      replace X5 := Lib.hid (X5.out.next hb)
      replace HBL := Lib.hid (HBL.out.trans (hb.mono HBL.out.size))
      clear c0 c1 c2
      clear hb
      go_wp2_with fail
      refine (dated_any C w3).mono ?_
      rintro e w4 ⟨rfl, hb⟩
      replace X3 := Lib.hid (X3.out.next hb)
      replace X5 := Lib.hid (X5.out.next hb)
      replace HBL := Lib.hid (HBL.out.trans (hb.mono HBL.out.size))
      clear hb
      go_wp2
      go_ret
      exact ⟨rfl, HBL.out⟩
end Go.Proofs.Ytiekfcpinljcjaa
