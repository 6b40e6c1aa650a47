/-
  Contract for the reference's Bits. Conditions: none.
-/
import Derived.Test.YtenichbnhpakpaaParityRef
import Derived.Test.YtenichbnhpakpaaBitsBox
namespace Go.Proofs.Ytenichbnhpakpaa
set_option linter.unusedVariables false
open Go.ChangeShapes Go.WideShapes Go.ChangeAt Go.RowKit

set_option maxRecDepth 100000 in
set_option maxHeartbeats 1600000 in
theorem refbits_any (c : Int) (b : B5) (E : Int) (hb : bitsB c = b) (hE : bitsE c = E) (w : World) : Calls Try.prog 34 #[.int .i64 c] w fun e w' => e = .returned (.tuple #[.agg #[.bool b.b0, .bool b.b1, .bool b.b2, .bool b.b3, .bool b.b4], .int .i64 E]) ∧ Below w.heap.size w w' := by
  obtain ⟨w1, hw1⟩ : ∃ w1, w1 = w.alloc (.cells #[.bool false, .bool false, .bool false, .bool false, .bool false] 46) := ⟨_, rfl⟩
  obtain ⟨w2, hw2⟩ : ∃ w2, w2 = w1.alloc (.cells #[.bool false, .bool false, .bool false, .bool false, .bool false] 46) := ⟨_, rfl⟩
  have hsz : w1.heap.size = w.heap.size + 1 := by rw [hw1]; exact Array.size_push ..
  have HB : Hid (Below w.heap.size w w2) := Lib.hid (by rw [hw2, hw1]; exact (below_lit w _ _).trans ((below_lit _ _ _).mono (below_lit w _ _).size))
  have HR : Hid (BBox w2 w.heap.size noB) := Lib.hid (by rw [hw2]; exact BBox.next (by rw [hw1]; exact BBox.new w noB) (below_lit w1 _ _))
  have HX : Hid (BBox w2 (w.heap.size + 1) noB) := Lib.hid (by rw [hw2, ← hsz]; exact BBox.new w1 noB)
  have HW : Hid ((w.alloc (.cells #[.bool false, .bool false, .bool false, .bool false, .bool false] 46)).alloc (.cells #[.bool false, .bool false, .bool false, .bool false, .bool false] 46) = w2) := Lib.hid (by rw [hw2, hw1])
  clear hw1 hw2 hsz w1
  cases h : isC c with
  | false =>
    have e1 : b = noB := by rw [← hb, bitsB, h]; rfl
    have e2 : E = 1 := by rw [← hE, bitsE, h]; rfl
    subst e1 e2
    clear hb hE
    cases q1 : decide (c < 0)
    case true =>
      clear h
      go_enter Try.func34, Try.ntmps34
      go_wp2
      rw [HW.out]
      refine bodyPost_ret (results_row_tmp' Try.results34 _ w2 w.heap.size 46 #[.bool false, .bool false, .bool false, .bool false, .bool false] (0, 0) _ rfl HR.out Try.underlying46 rfl infoB5) rfl ⟨rfl, HB.out⟩
    case false =>
      have q2 : decide (31 < c) = true := by
        rw [decide_eq_false_iff_not] at q1
        refine decide_eq_true ?_
        rcases Int.lt_or_le 31 c with h1 | h1
        · exact h1
        · rw [(isC_iff c).2 ⟨by omega, h1⟩] at h; cases h
      clear h
      go_enter Try.func34, Try.ntmps34
      go_wp2
      rw [HW.out]
      refine bodyPost_ret (results_row_tmp' Try.results34 _ w2 w.heap.size 46 #[.bool false, .bool false, .bool false, .bool false, .bool false] (0, 0) _ rfl HR.out Try.underlying46 rfl infoB5) rfl ⟨rfl, HB.out⟩
  | true =>
    have hs := (isC_iff c).1 h
    have q1 : decide (c < 0) = false := decide_eq_false (by omega)
    have q2 : decide (31 < c) = false := decide_eq_false (by omega)
    have e2 : E = 0 := by rw [← hE, bitsE, if_pos h]
    have hbb := (upB_all h).trans hb
    obtain ⟨n, hn⟩ : ∃ n : Nat, c = (n : Int) := ⟨c.toNat, by omega⟩
    subst hn e2
    have ht : (n : Int).toNat = n := by omega
    rw [ht] at hbb
    have HBB := Lib.hid hbb
    have HN := Lib.hid (show n < 32 by omega)
    clear hb hE h hs hbb ht
    go_enter Try.func34, Try.ntmps34
    go_wp2
    rw [HW.out]
    go_loopw [0, 5] (fun a i wr => ∃ k : Nat, k ≤ 5 ∧ i = .int .i64 k ∧ a = .int .i64 (n / 2 ^ k : Nat) ∧ BBox wr (w.heap.size + 1) (upB n k) ∧ BBox wr w.heap.size noB ∧ Below w.heap.size w wr) (fun _ i _ => 5 - (intOf i).toNat)
    case atStart => exact ⟨0, by omega, rfl, by simp, HX.out, HR.out, HB.out⟩
    case round =>
      obtain ⟨k, hk, rfl, rfl, hx, hr, hbel⟩ := hrel
      replace HX := Lib.hid hx
      replace HR := Lib.hid hr
      replace HB := Lib.hid hbel
      clear hx hr hbel
      by_cases hlt : k < 5
      · obtain ⟨m, hm⟩ : ∃ m, n / 2 ^ k = m := ⟨_, rfl⟩
        have hle : m ≤ n := by rw [← hm]; exact Nat.div_le_self _ _
        have hnx : n / 2 ^ (k + 1) = m / 2 := by rw [Nat.pow_succ, ← Nat.div_div_eq_div_mul, hm]
        have hbit : ((m : Int) % 2 == 1) = bitB n k := by
          rw [bitB, hm]
          cases hq : (m % 2 == 1)
          · rw [beq_eq_false_iff_ne] at hq ⊢; omega
          · rw [beq_iff_eq] at hq ⊢; omega
        have wq : wrap64 ((m : Int) / 2) = (m : Int) / 2 := by have := HN.out; unfold wrap64; omega
        have HQ := Lib.hid (show ((m : Int) / 2) = ((m / 2 : Nat) : Int) by omega)
        have b1 : (k : Int) < 5 := by omega
        have b0 : (0 : Int) ≤ (k : Int) := by omega
        have HNX := Lib.hid hnx
        have HBIT := Lib.hid hbit
        rw [hm]
        clear hm hle hnx hbit
        have fz := HX.out.frozen k
        have hsm := HX.out.get k hlt
        go_wp2
        case roundEnd => exact ⟨⟨k + 1, by omega, by go_num, by rw [wq, HQ.out, HNX.out], by rw [HBIT.out, ← upB_step n k hlt]; exact HX.out.set _ k hlt, HR.out.setAt _ (by omega), HB.out.setCell (p := ⟨w.heap.size + 1, k, none⟩) (by simp) _⟩, by simp [intOf]; omega⟩
      · have e : k = 5 := by omega
        subst e
        have hb1 : ¬ (((5 : Nat) : Int) < 5) := by omega
        rw [HBB.out] at HX
        obtain ⟨c0, c1, c2, c3, c4⟩ := HX.out.cells
        clear hlt hk
        go_wp2_with ((with_reducible refine at_store 2 ?_); refine wpList_store_named (o := ⟨none, .store 46 (.tmp 2) (.tmp 25), _, _, _, _⟩) rfl 46 (.tmp 2) (.tmp 25) rfl w.heap.size #[.bool b.b0, .bool b.b1, .bool b.b2, .bool b.b3, .bool b.b4] rfl rfl 46 #[.bool false, .bool false, .bool false, .bool false, .bool false] HR.out infoB5 rfl (b5_one _ _ _ _ _) ?_; intro w5 hw5)
        have hr5 := setRow_heap wr w.heap.size #[.bool false, .bool false, .bool false, .bool false, .bool false] #[.bool b.b0, .bool b.b1, .bool b.b2, .bool b.b3, .bool b.b4] 46 (0, 0) HR.out
        rw [← hw5.out] at hr5
        have hb5 := below_row hw5.out (Nat.le_refl w.heap.size)
        refine bodyPost_ret (results_row_tmp' Try.results34 _ w5 w.heap.size 46 #[.bool b.b0, .bool b.b1, .bool b.b2, .bool b.b3, .bool b.b4] (0, 0) _ rfl hr5 Try.underlying46 rfl infoB5) rfl ⟨rfl, HB.out.trans hb5⟩
theorem top_step (b : B5) (j : Nat) (hj : j < 5) : (ofB b).toNat / 2 ^ j = 2 * ((ofB b).toNat / 2 ^ (j + 1)) + (getB b j).toNat := by
  obtain ⟨b0, b1, b2, b3, b4⟩ := b
  rcases (show j = 0 ∨ j = 1 ∨ j = 2 ∨ j = 3 ∨ j = 4 by omega) with rfl | rfl | rfl | rfl | rfl <;> cases b0 <;> cases b1 <;> cases b2 <;> cases b3 <;> cases b4 <;> decide
theorem ofB_lt (b : B5) : 0 ≤ ofB b ∧ ofB b ≤ 31 := (isC_iff _).1 (of_facts b).1
set_option maxRecDepth 100000 in
set_option maxHeartbeats 1600000 in
theorem refof_any (b : B5) (v : Int) (hv : ofB b = v) (w : World) : Calls Try.prog 37 #[.agg #[.bool b.b0, .bool b.b1, .bool b.b2, .bool b.b3, .bool b.b4]] w fun e w' => e = .returned (.int .i64 v) ∧ Below w.heap.size w w' := by
  obtain ⟨w1, hw1⟩ : ∃ w1, w1 = w.alloc (.cells #[.bool b.b0, .bool b.b1, .bool b.b2, .bool b.b3, .bool b.b4] 46) := ⟨_, rfl⟩
  have HB : Hid (Below w.heap.size w w1) := Lib.hid (by rw [hw1]; exact below_lit w _ _)
  have HX : Hid (BBox w1 w.heap.size b) := Lib.hid (by rw [hw1]; exact BBox.new w b)
  have HW : Hid (w.alloc (.cells #[.bool b.b0, .bool b.b1, .bool b.b2, .bool b.b3, .bool b.b4] 46) = w1) := Lib.hid hw1.symm
  clear hw1
  have hlt := ofB_lt b
  have HN := Lib.hid (show (ofB b).toNat < 32 by omega)
  have HV := Lib.hid (show (((ofB b).toNat : Nat) : Int) = v by rw [← hv]; omega)
  clear hv hlt
  go_enter Try.func37, Try.ntmps37
  go_wp2
  rw [HW.out]
  go_loop [3, 4] (fun n i => ∃ k : Nat, k ≤ 5 ∧ i = .int .i64 ((k : Int) - 1) ∧ n = .int .i64 ((ofB b).toNat / 2 ^ k : Nat)) (fun _ i => (intOf i + 1).toNat)
  case atStart => exact ⟨5, by omega, rfl, by rw [Nat.div_eq_of_lt (by have := HN.out; omega)]; rfl⟩
  case round =>
    obtain ⟨k, hk, rfl, rfl⟩ := hrel
    by_cases h0 : k = 0
    · subst h0
      have hx : (ofB b).toNat / 2 ^ 0 = (ofB b).toNat := by simp
      rw [hx, HV.out]
      clear hx hk
      go_wp2
      go_ret
      exact ⟨rfl, HB.out⟩
    · obtain ⟨j, hj⟩ : ∃ j, k = j + 1 := ⟨k - 1, by omega⟩
      subst hj
      have hij : ((j + 1 : Nat) : Int) - 1 = (j : Int) := by omega
      rw [hij]
      have hj5 : j < 5 := by omega
      have hst := top_step b j hj5
      obtain ⟨m, hm⟩ : ∃ m, (ofB b).toNat / 2 ^ (j + 1) = m := ⟨_, rfl⟩
      rw [hm] at hst
      rw [hm]
      have hmle : m ≤ 31 := by have := HN.out; rw [← hm]; exact Nat.le_trans (Nat.div_le_self _ _) (by omega)
      have b0 : (0 : Int) ≤ (j : Int) := by omega
      have b1 : (j : Int) < 5 := by omega
      have hbit := HX.out.get j hj5
      have w2m : IntKind.i64.wrap (2 * (m : Int)) = 2 * (m : Int) := IntWalk.i64_in _ (by omega)
      have w2m1 : IntKind.i64.wrap (2 * (m : Int) + 1) = 2 * (m : Int) + 1 := IntWalk.i64_in _ (by omega)
      have wj : IntKind.i64.wrap ((j : Int) - 1) = (j : Int) - 1 := IntWalk.i64_in _ (by omega)
      cases hg : getB b j
      all_goals
        rw [hg] at hst hbit
        have HS := Lib.hid hst
        clear hst hg hij h0 hm
        go_wp2
        go_round
        case rel => exact ⟨j, by omega, by first | rfl | (rw [wj]; done) | go_num, by rw [HS.out]; first | rfl | go_num | (simp; omega)⟩
        case measure => first | (simp [intOf]; done) | (simp [intOf]; omega)
end Go.Proofs.Ytenichbnhpakpaa
