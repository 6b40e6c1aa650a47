/-
  Contracts for the landed guarded, Char and Bits. Conditions: none.
-/
import Derived.Test.YtjlcaobffhihhaaParityPSmall
import Derived.Test.YtjlcaobffhihhaaParityPOnes
import Derived.Test.YtjlcaobffhihhaaIn64
namespace Go.Proofs.Ytjlcaobffhihhaa
set_option linter.unusedVariables false
open Go.ChangeShapes Go.WideShapes Go.ChangeAt Go.RowKit

set_option maxRecDepth 100000 in
set_option maxHeartbeats 1600000 in
theorem pguarded_any (n : Nat) (b : B5) (hn : n < 16) (hb : gB n = b) (w : World) : Calls Try.prog 45 #[.int .i64 (n : Int)] w fun e w' => e = .returned (.agg #[.bool b.b0, .bool b.b1, .bool b.b2, .bool b.b3, .bool b.b4]) ∧ Below w.heap.size w w' := by
  obtain ⟨d, hd⟩ : ∃ d, upB n 5 = d := ⟨_, rfl⟩
  obtain ⟨k, hk⟩ : ∃ k, cntUp d 5 = k := ⟨_, rfl⟩
  have hk5 : k ≤ 5 := by rw [← hk]; exact cntUp_le d 5
  obtain ⟨w1, hw1⟩ : ∃ w1, w1 = w.alloc (.cells #[.bool false, .bool false, .bool false, .bool false, .bool false] 50) := ⟨_, rfl⟩
  have HB : Hid (Below w.heap.size w w1) := Lib.hid (by rw [hw1]; exact below_lit w _ _)
  have HR : Hid (BBox w1 w.heap.size noB) := Lib.hid (by rw [hw1]; exact BBox.new w noB)
  have HW : Hid (w.alloc (.cells #[.bool false, .bool false, .bool false, .bool false, .bool false] 50) = w1) := Lib.hid hw1.symm
  have hsz1 : w.heap.size < w1.heap.size := HR.out.lt
  have HS1 := Lib.hid hsz1
  have HD := Lib.hid hd
  have HK := Lib.hid hk
  have HN := Lib.hid hn
  have HG : Hid (setB d (k % 2 == 0) 4 = b) := Lib.hid (by rw [← hb, gB, hd, hk])
  clear hw1 hsz1 hd hk hn hb
  cases q : ((k : Int) % 2 == 0)
  case false =>
    have HQ : Hid (setB d _ 4 = b) := Lib.hid (show setB d (decide ((k : Int) % 2 = 0)) 4 = b by rw [← HG.out]; congr 1; rw [Bool.eq_iff_iff]; simp; omega)
    have hq2 : decide ((k : Int) % 2 = 0) = _ := q
    rw [hq2] at HQ
    clear hq2
    go_enter Try.func45, Try.ntmps45
    go_wp2_with (first
      | (go_at_call 40; rw [HW.out]; refine (psplit_any n d (Nat.lt_trans HN.out (by decide)) HD.out _).mono ?_; rintro e w2 ⟨rfl, hb2⟩; have HX2 := BBox.new w2 d; have hr2 := (HR.out.next hb2).next (below_lit w2 #[.bool d.b0, .bool d.b1, .bool d.b2, .bool d.b3, .bool d.b4] 50); obtain ⟨c0, c1, c2, c3, c4⟩ := HX2.cells)
      | (go_at_call 48; refine (pones_any d k (by rw [HK.out]) _).mono ?_; rintro e w4 ⟨rfl, hb4⟩; clear c0 c1 c2 c3 c4; have HX4 := HX2.next hb4; have hne : w.heap.size ≠ w2.heap.size := (by have := HS1.out; have := hb2.size; omega); have f4 := HX4.frozen 4; have s4 := HX4.get 4 (by decide); have HX5 := HX4.set false 4 (by decide); rw [HQ.out] at HX5; have hr5 := (hr2.next hb4).setAt (.bool false) (j := 4) hne; obtain ⟨c0, c1, c2, c3, c4⟩ := HX5.cells)
      | ((with_reducible refine at_store 2 ?_); refine wpList_store_named (o := ⟨none, .store 50 (.tmp 2) (.tmp 11), _, _, _, _⟩) rfl 50 (.tmp 2) (.tmp 11) rfl w.heap.size #[.bool b.b0, .bool b.b1, .bool b.b2, .bool b.b3, .bool b.b4] rfl rfl 50 #[.bool false, .bool false, .bool false, .bool false, .bool false] hr5 infoB5 rfl (b5_one _ _ _ _ _) ?_; intro w6 hw6))
    have hr6 := setRow_heap (w4.setCell ⟨w2.heap.size, 4, none⟩ (.bool false)) w.heap.size #[.bool false, .bool false, .bool false, .bool false, .bool false] #[.bool b.b0, .bool b.b1, .bool b.b2, .bool b.b3, .bool b.b4] 50 (0, 0) hr5
    rw [← hw6.out] at hr6
    have hb6 := below_row hw6.out (Nat.le_refl w.heap.size)
    have hle1 := HS1.out
    have hle2 := hb2.size
    have hal := below_lit w2 #[.bool d.b0, .bool d.b1, .bool d.b2, .bool d.b3, .bool d.b4] 50
    have h1 := (HB.out.trans (hb2.mono (Nat.le_of_lt hle1))).trans (hal.mono (by omega))
    have h2 := (h1.trans (hb4.mono (by have := hal.size; omega))).setCell (p := ⟨w2.heap.size, 4, none⟩) (by show w.heap.size ≤ w2.heap.size; omega) (.bool false)
    refine bodyPost_ret (results_row Try.results45 _ w6 w.heap.size 50 #[.bool b.b0, .bool b.b1, .bool b.b2, .bool b.b3, .bool b.b4] (0, 0) _ rfl hr6 Try.underlying50 rfl infoB5) rfl ⟨rfl, h2.trans hb6⟩
  case true =>
    have HQ : Hid (setB d _ 4 = b) := Lib.hid (show setB d (decide ((k : Int) % 2 = 0)) 4 = b by rw [← HG.out]; congr 1; rw [Bool.eq_iff_iff]; simp; omega)
    have hq2 : decide ((k : Int) % 2 = 0) = _ := q
    rw [hq2] at HQ
    clear hq2
    go_enter Try.func45, Try.ntmps45
    go_wp2_with (first
      | (go_at_call 40; rw [HW.out]; refine (psplit_any n d (Nat.lt_trans HN.out (by decide)) HD.out _).mono ?_; rintro e w2 ⟨rfl, hb2⟩; have HX2 := BBox.new w2 d; have hr2 := (HR.out.next hb2).next (below_lit w2 #[.bool d.b0, .bool d.b1, .bool d.b2, .bool d.b3, .bool d.b4] 50); obtain ⟨c0, c1, c2, c3, c4⟩ := HX2.cells)
      | (go_at_call 48; refine (pones_any d k (by rw [HK.out]) _).mono ?_; rintro e w4 ⟨rfl, hb4⟩; clear c0 c1 c2 c3 c4; have HX4 := HX2.next hb4; have hne : w.heap.size ≠ w2.heap.size := (by have := HS1.out; have := hb2.size; omega); have f4 := HX4.frozen 4; have s4 := HX4.get 4 (by decide); have HX5 := HX4.set true 4 (by decide); rw [HQ.out] at HX5; have hr5 := (hr2.next hb4).setAt (.bool true) (j := 4) hne; obtain ⟨c0, c1, c2, c3, c4⟩ := HX5.cells)
      | ((with_reducible refine at_store 2 ?_); refine wpList_store_named (o := ⟨none, .store 50 (.tmp 2) (.tmp 11), _, _, _, _⟩) rfl 50 (.tmp 2) (.tmp 11) rfl w.heap.size #[.bool b.b0, .bool b.b1, .bool b.b2, .bool b.b3, .bool b.b4] rfl rfl 50 #[.bool false, .bool false, .bool false, .bool false, .bool false] hr5 infoB5 rfl (b5_one _ _ _ _ _) ?_; intro w6 hw6))
    have hr6 := setRow_heap (w4.setCell ⟨w2.heap.size, 4, none⟩ (.bool true)) w.heap.size #[.bool false, .bool false, .bool false, .bool false, .bool false] #[.bool b.b0, .bool b.b1, .bool b.b2, .bool b.b3, .bool b.b4] 50 (0, 0) hr5
    rw [← hw6.out] at hr6
    have hb6 := below_row hw6.out (Nat.le_refl w.heap.size)
    have hle1 := HS1.out
    have hle2 := hb2.size
    have hal := below_lit w2 #[.bool d.b0, .bool d.b1, .bool d.b2, .bool d.b3, .bool d.b4] 50
    have h1 := (HB.out.trans (hb2.mono (Nat.le_of_lt hle1))).trans (hal.mono (by omega))
    have h2 := (h1.trans (hb4.mono (by have := hal.size; omega))).setCell (p := ⟨w2.heap.size, 4, none⟩) (by show w.heap.size ≤ w2.heap.size; omega) (.bool true)
    refine bodyPost_ret (results_row Try.results45 _ w6 w.heap.size 50 #[.bool b.b0, .bool b.b1, .bool b.b2, .bool b.b3, .bool b.b4] (0, 0) _ rfl hr6 Try.underlying50 rfl infoB5) rfl ⟨rfl, h2.trans hb6⟩
end Go.Proofs.Ytjlcaobffhihhaa
