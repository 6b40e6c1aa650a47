/-
  Contracts for the landed Char and Bits. Conditions: none.
-/
import Derived.Test.YtjlcaobffhihhaaParityPGuard
namespace Go.Proofs.Ytjlcaobffhihhaa
set_option linter.unusedVariables false
open Go.ChangeShapes Go.WideShapes Go.ChangeAt Go.RowKit

set_option maxRecDepth 100000 in
set_option maxHeartbeats 1600000 in
theorem pchar_any (v x E : Int) (hv : charV v = x) (hE : charE v = E) (w : World) : Calls Try.prog 41 #[.int .i64 v] w fun e w' => e = .returned (.tuple #[.int .i64 x, .int .i64 E]) ∧ Below w.heap.size w w' := by
  cases h : isV v with
  | false =>
    have e1 : x = 0 := by rw [← hv, charV, h]; rfl
    have e2 : E = 1 := by rw [← hE, charE, h]; rfl
    subst e1 e2
    have HV := Lib.hid h
    clear hv hE h
    go_enter Try.func41, Try.ntmps41
    go_wp2_with (go_at_call 42; refine (pisvalue_any v false HV.out _).mono ?_; rintro e w1 ⟨rfl, rfl⟩)
    go_ret2
    exact ⟨rfl, Below.refl _ _⟩
  | true =>
    have hs := (isV_iff v).1 h
    obtain ⟨n, hn⟩ : ∃ n : Nat, v = (n : Int) := ⟨v.toNat, by omega⟩
    subst hn
    have e2 : E = 0 := by rw [← hE, charE, h]; rfl
    subst e2
    have HN := Lib.hid (show n < 16 by omega)
    obtain ⟨b, hb⟩ : ∃ b, gB n = b := ⟨_, rfl⟩
    have HB := Lib.hid hb
    have HO : Hid (ofB b = x) := Lib.hid (by rw [← hb, gB_char n HN.out, hv])
    have HV := Lib.hid h
    clear hv hE h hs hb
    go_enter Try.func41, Try.ntmps41
    go_wp2_with (first
      | (go_at_call 42; refine (pisvalue_any n true HV.out _).mono ?_; rintro e w1 ⟨rfl, rfl⟩)
      | (go_at_call 45; refine (pguarded_any n b HN.out HB.out _).mono ?_; rintro e w2 ⟨rfl, hb2⟩)
      | (go_at_call 43; refine (pof_any b x HO.out _).mono ?_; rintro e w3 ⟨rfl, hb3⟩))
    go_ret2
    exact ⟨rfl, hb2.trans (hb3.mono hb2.size)⟩
set_option maxRecDepth 100000 in
set_option maxHeartbeats 1600000 in
theorem pbits_any (c : Int) (b : B5) (E : Int) (hb : bitsB c = b) (hE : bitsE c = E) (w : World) : Calls Try.prog 33 #[.int .i64 c] w fun e w' => e = .returned (.tuple #[.agg #[.bool b.b0, .bool b.b1, .bool b.b2, .bool b.b3, .bool b.b4], .int .i64 E]) ∧ Below w.heap.size w w' := by
  obtain ⟨w1, hw1⟩ : ∃ w1, w1 = w.alloc (.cells #[.bool false, .bool false, .bool false, .bool false, .bool false] 50) := ⟨_, rfl⟩
  have HB : Hid (Below w.heap.size w w1) := Lib.hid (by rw [hw1]; exact below_lit w _ _)
  have HR : Hid (BBox w1 w.heap.size noB) := Lib.hid (by rw [hw1]; exact BBox.new w noB)
  have HW : Hid (w.alloc (.cells #[.bool false, .bool false, .bool false, .bool false, .bool false] 50) = w1) := Lib.hid hw1.symm
  clear hw1
  cases h : isC c with
  | false =>
    have e1 : b = noB := by rw [← hb, bitsB, h]; rfl
    have e2 : E = 1 := by rw [← hE, bitsE, h]; rfl
    subst e1 e2
    clear hb hE
    cases q1 : decide (c < 0)
    case true =>
      clear h
      go_enter Try.func33, Try.ntmps33
      go_wp2_with ((with_reducible refine at_store 2 ?_); (try rw [HW.out]); refine wpList_store_named (o := ⟨none, .store 50 (.tmp 2) (.tmp 10), _, _, _, _⟩) rfl 50 (.tmp 2) (.tmp 10) rfl w.heap.size #[.bool false, .bool false, .bool false, .bool false, .bool false] rfl rfl 50 #[.bool false, .bool false, .bool false, .bool false, .bool false] HR.out infoB5 rfl (b5_one false false false false false) ?_; intro w6 hw6)
      have hr6 := setRow_heap w1 w.heap.size #[.bool false, .bool false, .bool false, .bool false, .bool false] #[.bool false, .bool false, .bool false, .bool false, .bool false] 50 (0, 0) HR.out
      rw [← hw6.out] at hr6
      have hb6 := below_row hw6.out (Nat.le_refl w.heap.size)
      refine bodyPost_ret (results_row_tmp' Try.results33 _ w6 w.heap.size 50 #[.bool false, .bool false, .bool false, .bool false, .bool false] (0, 0) _ rfl hr6 Try.underlying50 rfl infoB5) rfl ⟨rfl, HB.out.trans hb6⟩
    case false =>
      have q2 : decide (32 ≤ c) = true := by
        rw [decide_eq_false_iff_not] at q1
        refine decide_eq_true ?_
        rcases Int.lt_or_le 31 c with h1 | h1
        · omega
        · rw [(isC_iff c).2 ⟨by omega, h1⟩] at h; cases h
      clear h
      go_enter Try.func33, Try.ntmps33
      go_wp2_with ((with_reducible refine at_store 2 ?_); (try rw [HW.out]); refine wpList_store_named (o := ⟨none, .store 50 (.tmp 2) (.tmp 10), _, _, _, _⟩) rfl 50 (.tmp 2) (.tmp 10) rfl w.heap.size #[.bool false, .bool false, .bool false, .bool false, .bool false] rfl rfl 50 #[.bool false, .bool false, .bool false, .bool false, .bool false] HR.out infoB5 rfl (b5_one false false false false false) ?_; intro w6 hw6)
      have hr6 := setRow_heap w1 w.heap.size #[.bool false, .bool false, .bool false, .bool false, .bool false] #[.bool false, .bool false, .bool false, .bool false, .bool false] 50 (0, 0) HR.out
      rw [← hw6.out] at hr6
      have hb6 := below_row hw6.out (Nat.le_refl w.heap.size)
      refine bodyPost_ret (results_row_tmp' Try.results33 _ w6 w.heap.size 50 #[.bool false, .bool false, .bool false, .bool false, .bool false] (0, 0) _ rfl hr6 Try.underlying50 rfl infoB5) rfl ⟨rfl, HB.out.trans hb6⟩
  | true =>
    have hs := (isC_iff c).1 h
    have q1 : decide (c < 0) = false := decide_eq_false (by omega)
    have q2 : decide (32 ≤ c) = false := decide_eq_false (by omega)
    have e2 : E = 0 := by rw [← hE, bitsE, if_pos h]
    have hbb := (upB_all h).trans hb
    obtain ⟨n, hn⟩ : ∃ n : Nat, c = (n : Int) := ⟨c.toNat, by omega⟩
    subst hn e2
    have ht : (n : Int).toNat = n := by omega
    rw [ht] at hbb
    have HBB := Lib.hid hbb
    have HN := Lib.hid (show n < 32 by omega)
    clear hb hE h hs hbb ht
    go_enter Try.func33, Try.ntmps33
    go_wp2_with (first
      | (go_at_call 40; rw [HW.out]; refine (psplit_any n b HN.out HBB.out _).mono ?_; rintro e w2 ⟨rfl, hb2⟩; have hr2 := HR.out.next hb2)
      | ((with_reducible refine at_store 2 ?_); refine wpList_store_named (o := ⟨none, .store 50 (.tmp 2) (.tmp 12), _, _, _, _⟩) rfl 50 (.tmp 2) (.tmp 12) rfl w.heap.size #[.bool b.b0, .bool b.b1, .bool b.b2, .bool b.b3, .bool b.b4] rfl rfl 50 #[.bool false, .bool false, .bool false, .bool false, .bool false] hr2 infoB5 rfl (b5_one _ _ _ _ _) ?_; intro w6 hw6))
    have hr6 := setRow_heap w2 w.heap.size #[.bool false, .bool false, .bool false, .bool false, .bool false] #[.bool b.b0, .bool b.b1, .bool b.b2, .bool b.b3, .bool b.b4] 50 (0, 0) hr2
    rw [← hw6.out] at hr6
    have hb6 := below_row hw6.out (Nat.le_refl w.heap.size)
    refine bodyPost_ret (results_row_tmp' Try.results33 _ w6 w.heap.size 50 #[.bool b.b0, .bool b.b1, .bool b.b2, .bool b.b3, .bool b.b4] (0, 0) _ rfl hr6 Try.underlying50 rfl infoB5) rfl ⟨rfl, (HB.out.trans (hb2.mono HB.out.size)).trans hb6⟩
end Go.Proofs.Ytjlcaobffhihhaa
