/-
  Contract for the reference's Of. Conditions: none.
-/
import Derived.Test.YtjlcaobffhihhaaParityMath
import Derived.Test.YtjlcaobffhihhaaMem
import Derived.Test.YtjlcaobffhihhaaBitsBox
namespace Go.Proofs.Ytjlcaobffhihhaa
set_option linter.unusedVariables false
open Go.ChangeShapes Go.WideShapes Go.ChangeAt Go.RowKit

theorem top_step (b : B5) (j : Nat) (hj : j < 5) : (ofB b).toNat / 2 ^ j = 2 * ((ofB b).toNat / 2 ^ (j + 1)) + (getB b j).toNat := by
  obtain ⟨b0, b1, b2, b3, b4⟩ := b
  rcases (show j = 0 ∨ j = 1 ∨ j = 2 ∨ j = 3 ∨ j = 4 by omega) with rfl | rfl | rfl | rfl | rfl <;> cases b0 <;> cases b1 <;> cases b2 <;> cases b3 <;> cases b4 <;> decide
theorem ofB_lt (b : B5) : 0 ≤ ofB b ∧ ofB b ≤ 31 := (isC_iff _).1 (of_facts b).1
set_option maxRecDepth 100000 in
set_option maxHeartbeats 1600000 in
theorem refof_any (b : B5) (v : Int) (hv : ofB b = v) (w : World) : Calls Try.prog 38 #[.agg #[.bool b.b0, .bool b.b1, .bool b.b2, .bool b.b3, .bool b.b4]] w fun e w' => e = .returned (.int .i64 v) ∧ Below w.heap.size w w' := by
  obtain ⟨w1, hw1⟩ : ∃ w1, w1 = w.alloc (.cells #[.bool b.b0, .bool b.b1, .bool b.b2, .bool b.b3, .bool b.b4] 50) := ⟨_, rfl⟩
  have HB : Hid (Below w.heap.size w w1) := Lib.hid (by rw [hw1]; exact below_lit w _ _)
  have HX : Hid (BBox w1 w.heap.size b) := Lib.hid (by rw [hw1]; exact BBox.new w b)
  have HW : Hid (w.alloc (.cells #[.bool b.b0, .bool b.b1, .bool b.b2, .bool b.b3, .bool b.b4] 50) = w1) := Lib.hid hw1.symm
  clear hw1
  have hlt := ofB_lt b
  have HN := Lib.hid (show (ofB b).toNat < 32 by omega)
  have HV := Lib.hid (show (((ofB b).toNat : Nat) : Int) = v by rw [← hv]; omega)
  clear hv hlt
  go_enter Try.func38, Try.ntmps38
  go_wp2
  rw [HW.out]
  go_loop [3, 4] (fun n i => ∃ k : Nat, k ≤ 5 ∧ i = .int .i64 ((k : Int) - 1) ∧ n = .int .i64 ((ofB b).toNat / 2 ^ k : Nat)) (fun _ i => (intOf i + 1).toNat)
  case atStart => exact ⟨5, by omega, rfl, by rw [Nat.div_eq_of_lt (by have := HN.out; omega)]; rfl⟩
  case round =>
    obtain ⟨k, hk, rfl, rfl⟩ := hrel
    by_cases h0 : k = 0
    · subst h0
      have hx : (ofB b).toNat / 2 ^ 0 = (ofB b).toNat := by simp
      rw [hx, HV.out]
      clear hx hk
      go_wp2
      go_ret
      exact ⟨rfl, HB.out⟩
    · obtain ⟨j, hj⟩ : ∃ j, k = j + 1 := ⟨k - 1, by omega⟩
      subst hj
      have hij : ((j + 1 : Nat) : Int) - 1 = (j : Int) := by omega
      rw [hij]
      have hj5 : j < 5 := by omega
      have hst := top_step b j hj5
      obtain ⟨m, hm⟩ : ∃ m, (ofB b).toNat / 2 ^ (j + 1) = m := ⟨_, rfl⟩
      rw [hm] at hst
      rw [hm]
      have hmle : m ≤ 31 := by have := HN.out; rw [← hm]; exact Nat.le_trans (Nat.div_le_self _ _) (by omega)
      have b0 : (0 : Int) ≤ (j : Int) := by omega
      have b1 : (j : Int) < 5 := by omega
      have hbit := HX.out.get j hj5
      have w2m : IntKind.i64.wrap (2 * (m : Int)) = 2 * (m : Int) := IntWalk.i64_in _ (by omega)
      have w2m1 : IntKind.i64.wrap (2 * (m : Int) + 1) = 2 * (m : Int) + 1 := IntWalk.i64_in _ (by omega)
      have wj : IntKind.i64.wrap ((j : Int) - 1) = (j : Int) - 1 := IntWalk.i64_in _ (by omega)
      cases hg : getB b j
      all_goals
        rw [hg] at hst hbit
        have HS := Lib.hid hst
        clear hst hg hij h0 hm
        go_wp2
        go_round
        case rel => exact ⟨j, by omega, by first | rfl | (rw [wj]; done) | go_num, by rw [HS.out]; first | rfl | go_num | (simp; omega)⟩
        case measure => first | (simp [intOf]; done) | (simp [intOf]; omega)
end Go.Proofs.Ytjlcaobffhihhaa
