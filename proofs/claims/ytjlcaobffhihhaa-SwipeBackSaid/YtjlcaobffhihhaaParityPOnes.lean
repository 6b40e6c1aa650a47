/-
  The two closures, eachOne with either of them, ones and Of. Conditions: none.
-/
import Derived.Test.YtjlcaobffhihhaaParityPMath
import Derived.Test.YtjlcaobffhihhaaParityRef
import Derived.Laws.EntriesVeiled
namespace Go.Proofs.Ytjlcaobffhihhaa
set_option linter.unusedVariables false
open Go.ChangeShapes Go.WideShapes Go.ChangeAt Go.RowKit

/-- A box of one int. -/
def IBox (w : World) (b : Nat) (x : Int) : Prop := w.heap[b]? = some (.cells #[.int .i64 x] 3 (0, 0))
theorem IBox.lt {w : World} {b : Nat} {x : Int} (h : IBox w b x) : b < w.heap.size := lt_of_block h
theorem IBox.next {w w' : World} {b : Nat} {x : Int} (h : IBox w b x) (hb : Below w.heap.size w w') : IBox w' b x := (hb.block _ h.lt).trans h
theorem IBox.new (w : World) (x : Int) : IBox (w.alloc (.cells #[.int .i64 x] 3)) w.heap.size x := heap_alloc_new w _
theorem IBox.set {w : World} {b : Nat} {x : Int} (h : IBox w b x) (y : Int) : IBox (w.setCell ⟨b, 0, none⟩ (.int .i64 y)) b y := one_setCell h
theorem run_index_b5 (b : B5) : ∀ k : Nat, k < 5 → ∀ w : World, (Instr.index 50 (.agg #[.bool b.b0, .bool b.b1, .bool b.b2, .bool b.b3, .bool b.b4]) (.int .i64 (k : Int))).run Try.prog w = .ok (.bool (getB b k)) w
  | 0, _ => fun w => by kernel_rfl
  | 1, _ => fun w => by kernel_rfl
  | 2, _ => fun w => by kernel_rfl
  | 3, _ => fun w => by kernel_rfl
  | 4, _ => fun w => by kernel_rfl
  | k + 5, h => absurd h (by omega)
set_option maxRecDepth 100000 in
set_option maxHeartbeats 1600000 in
theorem pof1_any (k m : Nat) (hk : k < 5) (hm : m < 32) (C : Nat) (w : World) (hC : IBox w C m) : Calls Try.prog 47 #[.int .i64 (k : Int), .pointer (some ⟨C, 0, none⟩)] w fun e w' => e = .returned (.tuple #[]) ∧ IBox w' C ((m ||| 2 ^ k : Nat) : Int) ∧ Below C w w' := by
  have c0 := cell_of_one hC
  have f0 := free_of_one hC
  have b0 : (0 : Int) ≤ (k : Int) := by omega
  have b1 : (k : Int) ≤ 64 := by omega
  have w1 : IntKind.i64.wrap (1 * 2 ^ k) = 2 ^ k := shl_small k hk
  have w2 : IntKind.i64.wrap (2 ^ k) = 2 ^ k := by have := shl_small k hk; rwa [Int.one_mul] at this
  have o1 := or_small m hm k hk
  have HO := Lib.hid o1
  have HI := Lib.hid hC
  clear o1 hC hk hm
  go_enter Try.func47, Try.ntmps47
  go_wp2
  go_region
  all_goals (try go_wp2)
  all_goals (try go_end0)
  all_goals
    rw [HO.out]
    exact ⟨rfl, HI.out.set _, below_drewN ((Below.refl C w).setCell (p := ⟨C, 0, none⟩) (Nat.le_refl _) _) 1⟩
set_option maxRecDepth 100000 in
set_option maxHeartbeats 1600000 in
theorem pones1_any (k m : Nat) (hm : m < 32) (C : Nat) (w : World) (hC : IBox w C m) : Calls Try.prog 49 #[.int .i64 (k : Int), .pointer (some ⟨C, 0, none⟩)] w fun e w' => e = .returned (.tuple #[]) ∧ IBox w' C ((m + 1 : Nat) : Int) ∧ Below C w w' := by
  have c0 := cell_of_one hC
  have f0 := free_of_one hC
  have w1 : IntKind.i64.wrap ((m : Int) + 1) = (m : Int) + 1 := IntWalk.i64_in _ (by omega)
  have HI := Lib.hid hC
  clear hC hm
  go_enter Try.func49, Try.ntmps49
  go_wp2
  go_end0
  exact ⟨rfl, HI.out.set _, (Below.refl C w).setCell (p := ⟨C, 0, none⟩) (Nat.le_refl _) _⟩
set_option maxRecDepth 100000 in
set_option maxHeartbeats 1600000 in
theorem peachof_any (b : B5) (C : Nat) (w : World) (hC : IBox w C 0) : Calls Try.prog 46 #[.agg #[.bool b.b0, .bool b.b1, .bool b.b2, .bool b.b3, .bool b.b4], .func (.func 47) #[] #[.pointer (some ⟨C, 0, none⟩)]] w fun e w' => e = .returned (.tuple #[]) ∧ IBox w' C ((orUp b 5 : Nat) : Int) ∧ Below C w w' := by
  obtain ⟨w1, hw1⟩ : ∃ w1, w1 = w.alloc (.cells #[.bool b.b0, .bool b.b1, .bool b.b2, .bool b.b3, .bool b.b4] 50) := ⟨_, rfl⟩
  have hbel := (below_lit w #[.bool b.b0, .bool b.b1, .bool b.b2, .bool b.b3, .bool b.b4] 50)
  rw [← hw1] at hbel
  have HI : Hid (IBox w1 C 0) := Lib.hid (hC.next hbel)
  have HB : Hid (Below C w w1) := Lib.hid (hbel.mono (Nat.le_of_lt hC.lt))
  have HX : Hid (BBox w1 w.heap.size b) := Lib.hid (by rw [hw1]; exact BBox.new w b)
  have HW : Hid (w.alloc (.cells #[.bool b.b0, .bool b.b1, .bool b.b2, .bool b.b3, .bool b.b4] 50) = w1) := Lib.hid hw1.symm
  obtain ⟨c0, c1, c2, c3, c4⟩ := HX.out.cells
  clear hw1 hbel hC
  go_enter Try.func46, Try.ntmps46
  go_wp2
  rw [HW.out]
  go_wp2
  go_loopw [7] (fun i wr => ∃ k : Nat, k ≤ 5 ∧ i = .int .i64 k ∧ IBox wr C ((orUp b k : Nat) : Int) ∧ Below C w wr) (fun i _ => 5 - (intOf i).toNat)
  case atStart => exact ⟨0, by omega, rfl, HI.out, HB.out⟩
  case round =>
    obtain ⟨k, hk, rfl, hx, hbel⟩ := hrel
    replace HI := Lib.hid hx
    replace HB := Lib.hid hbel
    clear hx hbel
    by_cases hlt : k < 5
    · have HL := Lib.hid hlt
      have b1 : (k : Int) < 5 := by omega
      have hidx := run_index_b5 b k hlt
      clear hlt
      cases hg : getB b k
      case false =>
        have HS := Lib.hid (show orUp b (k + 1) = orUp b k by simp only [orUp, hg]; rfl)
        rw [hg] at hidx
        clear hg
        go_wp2
        case roundEnd => exact ⟨⟨k + 1, HL.out, by go_num, by rw [HS.out]; exact HI.out, HB.out⟩, by have := HL.out; simp [intOf]; omega⟩
      case true =>
        have HS := Lib.hid (show orUp b (k + 1) = orUp b k ||| 2 ^ k by simp only [orUp, hg]; rfl)
        rw [hg] at hidx
        clear hg
        go_wp2_with (go_at_call 47; refine (pof1_any k (orUp b k) HL.out (orUp_lt b (Nat.le_of_lt HL.out)) C _ HI.out).mono ?_; rintro e w2 ⟨rfl, hi2, hb2⟩)
        case roundEnd => exact ⟨⟨k + 1, HL.out, by go_num, by rw [HS.out]; exact hi2, HB.out.trans hb2⟩, by have := HL.out; simp [intOf]; omega⟩
    · have e : k = 5 := by omega
      subst e
      have hb1 : ¬ (((5 : Nat) : Int) < 5) := by omega
      clear hlt hk
      go_wp2
      go_end0
      exact ⟨rfl, HI.out, HB.out⟩
set_option maxRecDepth 100000 in
set_option maxHeartbeats 1600000 in
theorem peachones_any (b : B5) (C : Nat) (w : World) (hC : IBox w C 0) : Calls Try.prog 46 #[.agg #[.bool b.b0, .bool b.b1, .bool b.b2, .bool b.b3, .bool b.b4], .func (.func 49) #[] #[.pointer (some ⟨C, 0, none⟩)]] w fun e w' => e = .returned (.tuple #[]) ∧ IBox w' C ((cntUp b 5 : Nat) : Int) ∧ Below C w w' := by
  obtain ⟨w1, hw1⟩ : ∃ w1, w1 = w.alloc (.cells #[.bool b.b0, .bool b.b1, .bool b.b2, .bool b.b3, .bool b.b4] 50) := ⟨_, rfl⟩
  have hbel := (below_lit w #[.bool b.b0, .bool b.b1, .bool b.b2, .bool b.b3, .bool b.b4] 50)
  rw [← hw1] at hbel
  have HI : Hid (IBox w1 C 0) := Lib.hid (hC.next hbel)
  have HB : Hid (Below C w w1) := Lib.hid (hbel.mono (Nat.le_of_lt hC.lt))
  have HX : Hid (BBox w1 w.heap.size b) := Lib.hid (by rw [hw1]; exact BBox.new w b)
  have HW : Hid (w.alloc (.cells #[.bool b.b0, .bool b.b1, .bool b.b2, .bool b.b3, .bool b.b4] 50) = w1) := Lib.hid hw1.symm
  obtain ⟨c0, c1, c2, c3, c4⟩ := HX.out.cells
  clear hw1 hbel hC
  go_enter Try.func46, Try.ntmps46
  go_wp2
  rw [HW.out]
  go_wp2
  go_loopw [7] (fun i wr => ∃ k : Nat, k ≤ 5 ∧ i = .int .i64 k ∧ IBox wr C ((cntUp b k : Nat) : Int) ∧ Below C w wr) (fun i _ => 5 - (intOf i).toNat)
  case atStart => exact ⟨0, by omega, rfl, HI.out, HB.out⟩
  case round =>
    obtain ⟨k, hk, rfl, hx, hbel⟩ := hrel
    replace HI := Lib.hid hx
    replace HB := Lib.hid hbel
    clear hx hbel
    by_cases hlt : k < 5
    · have HL := Lib.hid hlt
      have b1 : (k : Int) < 5 := by omega
      have hidx := run_index_b5 b k hlt
      clear hlt
      cases hg : getB b k
      case false =>
        have HS := Lib.hid (show cntUp b (k + 1) = cntUp b k by simp only [cntUp, hg]; rfl)
        rw [hg] at hidx
        clear hg
        go_wp2
        case roundEnd => exact ⟨⟨k + 1, HL.out, by go_num, by rw [HS.out]; exact HI.out, HB.out⟩, by have := HL.out; simp [intOf]; omega⟩
      case true =>
        have HS := Lib.hid (show cntUp b (k + 1) = cntUp b k + 1 by simp only [cntUp, hg]; rfl)
        rw [hg] at hidx
        clear hg
        go_wp2_with (go_at_call 49; refine (pones1_any k (cntUp b k) (by have := cntUp_le b k; have := HL.out; omega) C _ HI.out).mono ?_; rintro e w2 ⟨rfl, hi2, hb2⟩)
        case roundEnd => exact ⟨⟨k + 1, HL.out, by go_num, by rw [HS.out]; exact hi2, HB.out.trans hb2⟩, by have := HL.out; simp [intOf]; omega⟩
    · have e : k = 5 := by omega
      subst e
      have hb1 : ¬ (((5 : Nat) : Int) < 5) := by omega
      clear hlt hk
      go_wp2
      go_end0
      exact ⟨rfl, HI.out, HB.out⟩
set_option maxRecDepth 100000 in
set_option maxHeartbeats 1600000 in
theorem pof_any (b : B5) (v : Int) (hv : ofB b = v) (w : World) : Calls Try.prog 43 #[.agg #[.bool b.b0, .bool b.b1, .bool b.b2, .bool b.b3, .bool b.b4]] w fun e w' => e = .returned (.int .i64 v) ∧ Below w.heap.size w w' := by
  obtain ⟨w1, hw1⟩ : ∃ w1, w1 = w.alloc (.cells #[.bool b.b0, .bool b.b1, .bool b.b2, .bool b.b3, .bool b.b4] 50) := ⟨_, rfl⟩
  obtain ⟨w2, hw2⟩ : ∃ w2, w2 = w1.alloc (.cells #[.int .i64 0] 3) := ⟨_, rfl⟩
  have hsz : w1.heap.size = w.heap.size + 1 := by rw [hw1]; exact Array.size_push ..
  have HB : Hid (Below w.heap.size w w2) := Lib.hid (by rw [hw2, hw1]; exact (below_lit w _ _).trans ((below_lit _ _ _).mono (below_lit w _ _).size))
  have HX : Hid (BBox w2 w.heap.size b) := Lib.hid (by rw [hw2]; exact BBox.next (by rw [hw1]; exact BBox.new w b) (below_lit w1 _ _))
  have HI : Hid (IBox w2 (w.heap.size + 1) 0) := Lib.hid (by rw [hw2, ← hsz]; exact IBox.new w1 0)
  have HW : Hid ((w.alloc (.cells #[.bool b.b0, .bool b.b1, .bool b.b2, .bool b.b3, .bool b.b4] 50)).alloc (.cells #[.int .i64 0] 3) = w2) := Lib.hid (by rw [hw2, hw1])
  obtain ⟨c0, c1, c2, c3, c4⟩ := HX.out.cells
  have HV : Hid (((orUp b 5 : Nat) : Int) = v) := Lib.hid ((orUp_all b).trans hv)
  clear hw1 hw2 hsz w1 hv
  go_enter Try.func43, Try.ntmps43
  go_wp2_with (go_at_call 46; refine (peachof_any b (w.heap.size + 1) _ (by rw [HW.out]; exact HI.out)).mono ?_; rintro e w3 ⟨rfl, hi3, hb3⟩; rw [HV.out] at hi3; have cC := cell_of_one hi3)
  go_ret
  refine ⟨rfl, HB.out.trans (Below.mono ?_ (Nat.le_succ _))⟩
  rw [← HW.out]
  exact hb3
set_option maxRecDepth 100000 in
set_option maxHeartbeats 1600000 in
theorem pones_any (b : B5) (v : Int) (hv : ((cntUp b 5 : Nat) : Int) = v) (w : World) : Calls Try.prog 48 #[.agg #[.bool b.b0, .bool b.b1, .bool b.b2, .bool b.b3, .bool b.b4]] w fun e w' => e = .returned (.int .i64 v) ∧ Below w.heap.size w w' := by
  obtain ⟨w1, hw1⟩ : ∃ w1, w1 = w.alloc (.cells #[.bool b.b0, .bool b.b1, .bool b.b2, .bool b.b3, .bool b.b4] 50) := ⟨_, rfl⟩
  obtain ⟨w2, hw2⟩ : ∃ w2, w2 = w1.alloc (.cells #[.int .i64 0] 3) := ⟨_, rfl⟩
  have hsz : w1.heap.size = w.heap.size + 1 := by rw [hw1]; exact Array.size_push ..
  have HB : Hid (Below w.heap.size w w2) := Lib.hid (by rw [hw2, hw1]; exact (below_lit w _ _).trans ((below_lit _ _ _).mono (below_lit w _ _).size))
  have HX : Hid (BBox w2 w.heap.size b) := Lib.hid (by rw [hw2]; exact BBox.next (by rw [hw1]; exact BBox.new w b) (below_lit w1 _ _))
  have HI : Hid (IBox w2 (w.heap.size + 1) 0) := Lib.hid (by rw [hw2, ← hsz]; exact IBox.new w1 0)
  have HW : Hid ((w.alloc (.cells #[.bool b.b0, .bool b.b1, .bool b.b2, .bool b.b3, .bool b.b4] 50)).alloc (.cells #[.int .i64 0] 3) = w2) := Lib.hid (by rw [hw2, hw1])
  obtain ⟨c0, c1, c2, c3, c4⟩ := HX.out.cells
  have HV : Hid (((cntUp b 5 : Nat) : Int) = v) := Lib.hid (hv)
  clear hw1 hw2 hsz w1 hv
  go_enter Try.func48, Try.ntmps48
  go_wp2_with (go_at_call 46; refine (peachones_any b (w.heap.size + 1) _ (by rw [HW.out]; exact HI.out)).mono ?_; rintro e w3 ⟨rfl, hi3, hb3⟩; rw [HV.out] at hi3; have cC := cell_of_one hi3)
  go_ret
  refine ⟨rfl, HB.out.trans (Below.mono ?_ (Nat.le_succ _))⟩
  rw [← HW.out]
  exact hb3
end Go.Proofs.Ytjlcaobffhihhaa
