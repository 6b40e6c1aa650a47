/-
  Contracts for the landed isValue and split. Conditions: none.
-/
import Derived.Test.YtjlcaobffhihhaaParityPMath
import Derived.Test.YtjlcaobffhihhaaParityRef
namespace Go.Proofs.Ytjlcaobffhihhaa
set_option linter.unusedVariables false
open Go.ChangeShapes Go.WideShapes Go.ChangeAt Go.RowKit

theorem pisvalue_any (v : Int) (b : Bool) (hb : isV v = b) (w : World) : Calls Try.prog 42 #[.int .i64 v] w fun e w' => e = .returned (.bool b) ∧ w' = w := by
  have hb2 : (decide (0 ≤ v) && decide (v < 16)) = b := by
    rw [← hb]
    cases h : isV v
    · rcases Int.lt_or_le v 0 with h1 | h1
      · simp; intro h2; omega
      · rcases Int.lt_or_le v 16 with h2 | h2
        · rw [(isV_iff v).2 ⟨h1, by omega⟩] at h; cases h
        · simp; intro h3; omega
    · have := (isV_iff v).1 h
      simp; omega
  have HB := Lib.hid hb2
  clear hb hb2
  cases h0 : decide (0 ≤ v) <;> cases h1 : decide (v < 16)
  all_goals
    have H0 := Lib.hid h0
    have H1 := Lib.hid h1
    go_enter Try.func42, Try.ntmps42
    go_wp2
    go_ret
    refine ⟨congrArg Ending.returned (congrArg Value.bool ?_), rfl⟩
    rw [← HB.out, H0.out, H1.out]
    rfl
set_option maxRecDepth 100000 in
set_option maxHeartbeats 1600000 in
theorem psplit_any (n : Nat) (b : B5) (hn : n < 32) (hb : upB n 5 = b) (w : World) : Calls Try.prog 40 #[.int .i64 (n : Int)] w fun e w' => e = .returned (.agg #[.bool b.b0, .bool b.b1, .bool b.b2, .bool b.b3, .bool b.b4]) ∧ Below w.heap.size w w' := by
  obtain ⟨w1, hw1⟩ : ∃ w1, w1 = w.alloc (.cells #[.bool false, .bool false, .bool false, .bool false, .bool false] 50) := ⟨_, rfl⟩
  obtain ⟨w2, hw2⟩ : ∃ w2, w2 = w1.alloc (.cells #[.bool false, .bool false, .bool false, .bool false, .bool false] 50) := ⟨_, rfl⟩
  have hsz : w1.heap.size = w.heap.size + 1 := by rw [hw1]; exact Array.size_push ..
  have HB : Hid (Below w.heap.size w w2) := Lib.hid (by rw [hw2, hw1]; exact (below_lit w _ _).trans ((below_lit _ _ _).mono (below_lit w _ _).size))
  have HR : Hid (BBox w2 w.heap.size noB) := Lib.hid (by rw [hw2]; exact BBox.next (by rw [hw1]; exact BBox.new w noB) (below_lit w1 _ _))
  have HX : Hid (BBox w2 (w.heap.size + 1) noB) := Lib.hid (by rw [hw2, ← hsz]; exact BBox.new w1 noB)
  have HW : Hid ((w.alloc (.cells #[.bool false, .bool false, .bool false, .bool false, .bool false] 50)).alloc (.cells #[.bool false, .bool false, .bool false, .bool false, .bool false] 50) = w2) := Lib.hid (by rw [hw2, hw1])
  have HBB := Lib.hid hb
  have HN := Lib.hid hn
  clear hw1 hw2 hsz w1 hb hn
  go_enter Try.func40, Try.ntmps40
  go_wp2
  rw [HW.out]
  go_loopw [6] (fun i wr => ∃ k : Nat, k ≤ 5 ∧ i = .int .i64 k ∧ BBox wr (w.heap.size + 1) (upB n k) ∧ BBox wr w.heap.size noB ∧ Below w.heap.size w wr) (fun i _ => 5 - (intOf i).toNat)
  case atStart => exact ⟨0, by omega, rfl, HX.out, HR.out, HB.out⟩
  case round =>
    obtain ⟨k, hk, rfl, hx, hr, hbel⟩ := hrel
    replace HX := Lib.hid hx
    replace HR := Lib.hid hr
    replace HB := Lib.hid hbel
    clear hx hr hbel
    by_cases hlt : k < 5
    · have hbit := and_small n HN.out k hlt
      have HBIT := Lib.hid hbit
      have b1 : (k : Int) < 5 := by omega
      have b0 : (0 : Int) ≤ (k : Int) := by omega
      have b2 : (k : Int) ≤ 64 := by omega
      clear hbit
      have fz := HX.out.frozen k
      have hsm := HX.out.get k hlt
      go_wp2
      case roundEnd => exact ⟨⟨k + 1, by omega, by go_num, by rw [HBIT.out, ← upB_step n k hlt]; exact HX.out.set _ k hlt, HR.out.setAt _ (by omega), HB.out.setCell (p := ⟨w.heap.size + 1, k, none⟩) (by simp) _⟩, by simp [intOf]; omega⟩
    · have e : k = 5 := by omega
      subst e
      have hb1 : ¬ (((5 : Nat) : Int) < 5) := by omega
      rw [HBB.out] at HX
      obtain ⟨c0, c1, c2, c3, c4⟩ := HX.out.cells
      clear hlt hk
      go_wp2_with ((with_reducible refine at_store 2 ?_); refine wpList_store_named (o := ⟨none, .store 50 (.tmp 2) (.tmp 17), _, _, _, _⟩) rfl 50 (.tmp 2) (.tmp 17) rfl w.heap.size #[.bool b.b0, .bool b.b1, .bool b.b2, .bool b.b3, .bool b.b4] rfl rfl 50 #[.bool false, .bool false, .bool false, .bool false, .bool false] HR.out infoB5 rfl (b5_one _ _ _ _ _) ?_; intro w5 hw5)
      have hr5 := setRow_heap wr w.heap.size #[.bool false, .bool false, .bool false, .bool false, .bool false] #[.bool b.b0, .bool b.b1, .bool b.b2, .bool b.b3, .bool b.b4] 50 (0, 0) HR.out
      rw [← hw5.out] at hr5
      have hb5 := below_row hw5.out (Nat.le_refl w.heap.size)
      refine bodyPost_ret (results_row Try.results40 _ w5 w.heap.size 50 #[.bool b.b0, .bool b.b1, .bool b.b2, .bool b.b3, .bool b.b4] (0, 0) _ rfl hr5 Try.underlying50 rfl infoB5) rfl ⟨rfl, HB.out.trans hb5⟩
end Go.Proofs.Ytjlcaobffhihhaa
