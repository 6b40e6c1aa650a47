/-
  The two closures, eachOne with either of them, ones and Of. Conditions: none.
  Contracts for the landed guarded, Char and Bits. Conditions: none.
  Contracts for the landed Char and Bits. Conditions: none.
  Contract for the landed Sum. Conditions: none.
  Contracts for the landed charOf, sumOf, bitsOf. Conditions: values below 16.
  Contracts for the landed mask, Pack and Unpack. Conditions: the slices read as bits and bytes; at most 8388608 and 1048576 of them.
  Contract for the landed Put. Conditions: the slice reads as bytes.
  Five bits are the same as themselves. Conditions: none.
  Five bits compared with five bits. Conditions: none.
  Contract for the landed Value. Conditions: none.
  Contract for the reference's Of. Conditions: none.
  Contract for the reference's at. Conditions: the slice reads as bits; five of them are there.
  Contracts for the landed demand, character and value. Conditions: the reader lies in a box of its own, behind its bits.
  An empty row; how a row of bits is read on. Conditions: none.
  Contract for the landed digits: what is read, or with what the reader gives up. Conditions: the reader lies in a box of its own, behind its bits, at their beginning.
  The deferred closure of Get, for a frame that panics and one that returns; an answer that both make. Conditions: none.
-/
import Derived.Test.YtaokhkbfiplfmaaGreatDoorLayPPut0
import Derived.Laws.EntriesVeiled
import Derived.Test.YtaokhkbfiplfmaaGreatDoorMath
import Derived.Test.YtaokhkbfiplfmaaGreatDoorFitsP
import Derived.Test.YtaokhkbfiplfmaaGreatDoorMacTag
import Derived.Deep.RegionWith
import Derived.Test.YtaokhkbfiplfmaaGreatDoorMem
import Derived.Deep.RegionHeld3
import Derived.Laws.CopyOwn
import Derived.WalkLawsBesides
import Derived.Defers
import Derived.Recover
import Derived.WalkMore
section
namespace Go.Proofs.YtaokhkbfiplfmaaGreatDoor
set_option linter.unusedVariables false
open Go.ChangeShapes Go.WideShapes Go.ChangeAt Go.RowKit

/-- A box of one int. -/
def IBox (w : World) (b : Nat) (x : Int) : Prop := w.heap[b]? = some (.cells #[.int .i64 x] 3 (0, 0))
theorem IBox.lt {w : World} {b : Nat} {x : Int} (h : IBox w b x) : b < w.heap.size := lt_of_block h
theorem IBox.next {w w' : World} {b : Nat} {x : Int} (h : IBox w b x) (hb : Below w.heap.size w w') : IBox w' b x := (hb.block _ h.lt).trans h
theorem IBox.new (w : World) (x : Int) : IBox (w.alloc (.cells #[.int .i64 x] 3)) w.heap.size x := heap_alloc_new w _
theorem IBox.set {w : World} {b : Nat} {x : Int} (h : IBox w b x) (y : Int) : IBox (w.setCell ⟨b, 0, none⟩ (.int .i64 y)) b y := one_setCell h
theorem run_index_b5 (b : B5) : ∀ k : Nat, k < 5 → ∀ w : World, (Instr.index 86 (.agg #[.bool b.b0, .bool b.b1, .bool b.b2, .bool b.b3, .bool b.b4]) (.int .i64 (k : Int))).run Tryz.prog w = .ok (.bool (getB b k)) w
  | 0, _ => fun w => by kernel_rfl
  | 1, _ => fun w => by kernel_rfl
  | 2, _ => fun w => by kernel_rfl
  | 3, _ => fun w => by kernel_rfl
  | 4, _ => fun w => by kernel_rfl
  | k + 5, h => absurd h (by omega)
set_option maxRecDepth 100000 in
set_option maxHeartbeats 1600000 in
theorem pof1_any (k m : Nat) (hk : k < 5) (hm : m < 32) (C : Nat) (w : World) (hC : IBox w C m) : Calls Tryz.prog 86 #[.int .i64 (k : Int), .pointer (some ⟨C, 0, none⟩)] w fun e w' => e = .returned (.tuple #[]) ∧ IBox w' C ((m ||| 2 ^ k : Nat) : Int) ∧ Below C w w' := by
  have c0 := cell_of_one hC
  have f0 := free_of_one hC
  have b0 : (0 : Int) ≤ (k : Int) := by omega
  have b1 : (k : Int) ≤ 64 := by omega
  have w1 : IntKind.i64.wrap (1 * 2 ^ k) = 2 ^ k := shl_small k hk
  have w2 : IntKind.i64.wrap (2 ^ k) = 2 ^ k := by have := shl_small k hk; rwa [Int.one_mul] at this
  have o1 := or_small m hm k hk
  have HO := Lib.hid o1
  have HI := Lib.hid hC
  clear o1 hC hk hm
  go_enter Tryz.func86, Tryz.ntmps86
  go_wp2
  go_region
  all_goals (try go_wp2)
  all_goals (try go_end0)
  all_goals
    rw [HO.out]
    exact ⟨rfl, HI.out.set _, below_drewN ((Below.refl C w).setCell (p := ⟨C, 0, none⟩) (Nat.le_refl _) _) 1⟩
set_option maxRecDepth 100000 in
set_option maxHeartbeats 1600000 in
theorem pones1_any (k m : Nat) (hm : m < 32) (C : Nat) (w : World) (hC : IBox w C m) : Calls Tryz.prog 99 #[.int .i64 (k : Int), .pointer (some ⟨C, 0, none⟩)] w fun e w' => e = .returned (.tuple #[]) ∧ IBox w' C ((m + 1 : Nat) : Int) ∧ Below C w w' := by
  have c0 := cell_of_one hC
  have f0 := free_of_one hC
  have w1 : IntKind.i64.wrap ((m : Int) + 1) = (m : Int) + 1 := IntWalk.i64_in _ (by omega)
  have HI := Lib.hid hC
  clear hC hm
  go_enter Tryz.func99, Tryz.ntmps99
  go_wp2
  go_end0
  exact ⟨rfl, HI.out.set _, (Below.refl C w).setCell (p := ⟨C, 0, none⟩) (Nat.le_refl _) _⟩
set_option maxRecDepth 100000 in
set_option maxHeartbeats 1600000 in
theorem peachof_any (b : B5) (C : Nat) (w : World) (hC : IBox w C 0) : Calls Tryz.prog 85 #[.agg #[.bool b.b0, .bool b.b1, .bool b.b2, .bool b.b3, .bool b.b4], .func (.func 86) #[] #[.pointer (some ⟨C, 0, none⟩)]] w fun e w' => e = .returned (.tuple #[]) ∧ IBox w' C ((orUp b 5 : Nat) : Int) ∧ Below C w w' := by
  obtain ⟨w1, hw1⟩ : ∃ w1, w1 = w.alloc (.cells #[.bool b.b0, .bool b.b1, .bool b.b2, .bool b.b3, .bool b.b4] 86) := ⟨_, rfl⟩
  have hbel := (below_lit w #[.bool b.b0, .bool b.b1, .bool b.b2, .bool b.b3, .bool b.b4] 86)
  rw [← hw1] at hbel
  have HI : Hid (IBox w1 C 0) := Lib.hid (hC.next hbel)
  have HB : Hid (Below C w w1) := Lib.hid (hbel.mono (Nat.le_of_lt hC.lt))
  have HX : Hid (BBox w1 w.heap.size b) := Lib.hid (by rw [hw1]; exact BBox.new w b)
  have HW : Hid (w.alloc (.cells #[.bool b.b0, .bool b.b1, .bool b.b2, .bool b.b3, .bool b.b4] 86) = w1) := Lib.hid hw1.symm
  obtain ⟨c0, c1, c2, c3, c4⟩ := HX.out.cells
  clear hw1 hbel hC
  go_enter Tryz.func85, Tryz.ntmps85
  go_wp2
  rw [HW.out]
  go_wp2
  go_loopw [7] (fun i wr => ∃ k : Nat, k ≤ 5 ∧ i = .int .i64 k ∧ IBox wr C ((orUp b k : Nat) : Int) ∧ Below C w wr) (fun i _ => 5 - (intOf i).toNat)
  case atStart => exact ⟨0, by omega, rfl, HI.out, HB.out⟩
  case round =>
    obtain ⟨k, hk, rfl, hx, hbel⟩ := hrel
    replace HI := Lib.hid hx
    replace HB := Lib.hid hbel
    clear hx hbel
    by_cases hlt : k < 5
    · have HL := Lib.hid hlt
      have b1 : (k : Int) < 5 := by omega
      have hidx := run_index_b5 b k hlt
      clear hlt
      cases hg : getB b k
      case false =>
        have HS := Lib.hid (show orUp b (k + 1) = orUp b k by simp only [orUp, hg]; rfl)
        rw [hg] at hidx
        clear hg
        go_wp2
        case roundEnd => exact ⟨⟨k + 1, HL.out, by go_num, by rw [HS.out]; exact HI.out, HB.out⟩, by have := HL.out; simp [intOf]; omega⟩
      case true =>
        have HS := Lib.hid (show orUp b (k + 1) = orUp b k ||| 2 ^ k by simp only [orUp, hg]; rfl)
        rw [hg] at hidx
        clear hg
        go_wp2_with (go_at_call 86; refine (pof1_any k (orUp b k) HL.out (orUp_lt b (Nat.le_of_lt HL.out)) C _ HI.out).mono ?_; rintro e w2 ⟨rfl, hi2, hb2⟩)
        case roundEnd => exact ⟨⟨k + 1, HL.out, by go_num, by rw [HS.out]; exact hi2, HB.out.trans hb2⟩, by have := HL.out; simp [intOf]; omega⟩
    · have e : k = 5 := by omega
      subst e
      have hb1 : ¬ (((5 : Nat) : Int) < 5) := by omega
      clear hlt hk
      go_wp2
      go_end0
      exact ⟨rfl, HI.out, HB.out⟩
set_option maxRecDepth 100000 in
set_option maxHeartbeats 1600000 in
theorem peachones_any (b : B5) (C : Nat) (w : World) (hC : IBox w C 0) : Calls Tryz.prog 85 #[.agg #[.bool b.b0, .bool b.b1, .bool b.b2, .bool b.b3, .bool b.b4], .func (.func 99) #[] #[.pointer (some ⟨C, 0, none⟩)]] w fun e w' => e = .returned (.tuple #[]) ∧ IBox w' C ((cntUp b 5 : Nat) : Int) ∧ Below C w w' := by
  obtain ⟨w1, hw1⟩ : ∃ w1, w1 = w.alloc (.cells #[.bool b.b0, .bool b.b1, .bool b.b2, .bool b.b3, .bool b.b4] 86) := ⟨_, rfl⟩
  have hbel := (below_lit w #[.bool b.b0, .bool b.b1, .bool b.b2, .bool b.b3, .bool b.b4] 86)
  rw [← hw1] at hbel
  have HI : Hid (IBox w1 C 0) := Lib.hid (hC.next hbel)
  have HB : Hid (Below C w w1) := Lib.hid (hbel.mono (Nat.le_of_lt hC.lt))
  have HX : Hid (BBox w1 w.heap.size b) := Lib.hid (by rw [hw1]; exact BBox.new w b)
  have HW : Hid (w.alloc (.cells #[.bool b.b0, .bool b.b1, .bool b.b2, .bool b.b3, .bool b.b4] 86) = w1) := Lib.hid hw1.symm
  obtain ⟨c0, c1, c2, c3, c4⟩ := HX.out.cells
  clear hw1 hbel hC
  go_enter Tryz.func85, Tryz.ntmps85
  go_wp2
  rw [HW.out]
  go_wp2
  go_loopw [7] (fun i wr => ∃ k : Nat, k ≤ 5 ∧ i = .int .i64 k ∧ IBox wr C ((cntUp b k : Nat) : Int) ∧ Below C w wr) (fun i _ => 5 - (intOf i).toNat)
  case atStart => exact ⟨0, by omega, rfl, HI.out, HB.out⟩
  case round =>
    obtain ⟨k, hk, rfl, hx, hbel⟩ := hrel
    replace HI := Lib.hid hx
    replace HB := Lib.hid hbel
    clear hx hbel
    by_cases hlt : k < 5
    · have HL := Lib.hid hlt
      have b1 : (k : Int) < 5 := by omega
      have hidx := run_index_b5 b k hlt
      clear hlt
      cases hg : getB b k
      case false =>
        have HS := Lib.hid (show cntUp b (k + 1) = cntUp b k by simp only [cntUp, hg]; rfl)
        rw [hg] at hidx
        clear hg
        go_wp2
        case roundEnd => exact ⟨⟨k + 1, HL.out, by go_num, by rw [HS.out]; exact HI.out, HB.out⟩, by have := HL.out; simp [intOf]; omega⟩
      case true =>
        have HS := Lib.hid (show cntUp b (k + 1) = cntUp b k + 1 by simp only [cntUp, hg]; rfl)
        rw [hg] at hidx
        clear hg
        go_wp2_with (go_at_call 99; refine (pones1_any k (cntUp b k) (by have := cntUp_le b k; have := HL.out; omega) C _ HI.out).mono ?_; rintro e w2 ⟨rfl, hi2, hb2⟩)
        case roundEnd => exact ⟨⟨k + 1, HL.out, by go_num, by rw [HS.out]; exact hi2, HB.out.trans hb2⟩, by have := HL.out; simp [intOf]; omega⟩
    · have e : k = 5 := by omega
      subst e
      have hb1 : ¬ (((5 : Nat) : Int) < 5) := by omega
      clear hlt hk
      go_wp2
      go_end0
      exact ⟨rfl, HI.out, HB.out⟩
set_option maxRecDepth 100000 in
set_option maxHeartbeats 1600000 in
theorem pof_any (b : B5) (v : Int) (hv : ofB b = v) (w : World) : Calls Tryz.prog 71 #[.agg #[.bool b.b0, .bool b.b1, .bool b.b2, .bool b.b3, .bool b.b4]] w fun e w' => e = .returned (.int .i64 v) ∧ Below w.heap.size w w' := by
  obtain ⟨w1, hw1⟩ : ∃ w1, w1 = w.alloc (.cells #[.bool b.b0, .bool b.b1, .bool b.b2, .bool b.b3, .bool b.b4] 86) := ⟨_, rfl⟩
  obtain ⟨w2, hw2⟩ : ∃ w2, w2 = w1.alloc (.cells #[.int .i64 0] 3) := ⟨_, rfl⟩
  have hsz : w1.heap.size = w.heap.size + 1 := by rw [hw1]; exact Array.size_push ..
  have HB : Hid (Below w.heap.size w w2) := Lib.hid (by rw [hw2, hw1]; exact (below_lit w _ _).trans ((below_lit _ _ _).mono (below_lit w _ _).size))
  have HX : Hid (BBox w2 w.heap.size b) := Lib.hid (by rw [hw2]; exact BBox.next (by rw [hw1]; exact BBox.new w b) (below_lit w1 _ _))
  have HI : Hid (IBox w2 (w.heap.size + 1) 0) := Lib.hid (by rw [hw2, ← hsz]; exact IBox.new w1 0)
  have HW : Hid ((w.alloc (.cells #[.bool b.b0, .bool b.b1, .bool b.b2, .bool b.b3, .bool b.b4] 86)).alloc (.cells #[.int .i64 0] 3) = w2) := Lib.hid (by rw [hw2, hw1])
  obtain ⟨c0, c1, c2, c3, c4⟩ := HX.out.cells
  have HV : Hid (((orUp b 5 : Nat) : Int) = v) := Lib.hid ((orUp_all b).trans hv)
  clear hw1 hw2 hsz w1 hv
  go_enter Tryz.func71, Tryz.ntmps71
  go_wp2_with (go_at_call 85; refine (peachof_any b (w.heap.size + 1) _ (by rw [HW.out]; exact HI.out)).mono ?_; rintro e w3 ⟨rfl, hi3, hb3⟩; rw [HV.out] at hi3; have cC := cell_of_one hi3)
  go_ret
  refine ⟨rfl, HB.out.trans (Below.mono ?_ (Nat.le_succ _))⟩
  rw [← HW.out]
  exact hb3
set_option maxRecDepth 100000 in
set_option maxHeartbeats 1600000 in
theorem pones_any (b : B5) (v : Int) (hv : ((cntUp b 5 : Nat) : Int) = v) (w : World) : Calls Tryz.prog 87 #[.agg #[.bool b.b0, .bool b.b1, .bool b.b2, .bool b.b3, .bool b.b4]] w fun e w' => e = .returned (.int .i64 v) ∧ Below w.heap.size w w' := by
  obtain ⟨w1, hw1⟩ : ∃ w1, w1 = w.alloc (.cells #[.bool b.b0, .bool b.b1, .bool b.b2, .bool b.b3, .bool b.b4] 86) := ⟨_, rfl⟩
  obtain ⟨w2, hw2⟩ : ∃ w2, w2 = w1.alloc (.cells #[.int .i64 0] 3) := ⟨_, rfl⟩
  have hsz : w1.heap.size = w.heap.size + 1 := by rw [hw1]; exact Array.size_push ..
  have HB : Hid (Below w.heap.size w w2) := Lib.hid (by rw [hw2, hw1]; exact (below_lit w _ _).trans ((below_lit _ _ _).mono (below_lit w _ _).size))
  have HX : Hid (BBox w2 w.heap.size b) := Lib.hid (by rw [hw2]; exact BBox.next (by rw [hw1]; exact BBox.new w b) (below_lit w1 _ _))
  have HI : Hid (IBox w2 (w.heap.size + 1) 0) := Lib.hid (by rw [hw2, ← hsz]; exact IBox.new w1 0)
  have HW : Hid ((w.alloc (.cells #[.bool b.b0, .bool b.b1, .bool b.b2, .bool b.b3, .bool b.b4] 86)).alloc (.cells #[.int .i64 0] 3) = w2) := Lib.hid (by rw [hw2, hw1])
  obtain ⟨c0, c1, c2, c3, c4⟩ := HX.out.cells
  have HV : Hid (((cntUp b 5 : Nat) : Int) = v) := Lib.hid (hv)
  clear hw1 hw2 hsz w1 hv
  go_enter Tryz.func87, Tryz.ntmps87
  go_wp2_with (go_at_call 85; refine (peachones_any b (w.heap.size + 1) _ (by rw [HW.out]; exact HI.out)).mono ?_; rintro e w3 ⟨rfl, hi3, hb3⟩; rw [HV.out] at hi3; have cC := cell_of_one hi3)
  go_ret
  refine ⟨rfl, HB.out.trans (Below.mono ?_ (Nat.le_succ _))⟩
  rw [← HW.out]
  exact hb3
end Go.Proofs.YtaokhkbfiplfmaaGreatDoor
end
section
namespace Go.Proofs.YtaokhkbfiplfmaaGreatDoor
set_option linter.unusedVariables false
open Go.ChangeShapes Go.WideShapes Go.ChangeAt Go.RowKit

set_option maxRecDepth 100000 in
set_option maxHeartbeats 1600000 in
theorem pguarded_any (n : Nat) (b : B5) (hn : n < 16) (hb : gB n = b) (w : World) : Calls Tryz.prog 72 #[.int .i64 (n : Int)] w fun e w' => e = .returned (.agg #[.bool b.b0, .bool b.b1, .bool b.b2, .bool b.b3, .bool b.b4]) ∧ Below w.heap.size w w' := by
  obtain ⟨d, hd⟩ : ∃ d, upB n 5 = d := ⟨_, rfl⟩
  obtain ⟨k, hk⟩ : ∃ k, cntUp d 5 = k := ⟨_, rfl⟩
  have hk5 : k ≤ 5 := by rw [← hk]; exact cntUp_le d 5
  obtain ⟨w1, hw1⟩ : ∃ w1, w1 = w.alloc (.cells #[.bool false, .bool false, .bool false, .bool false, .bool false] 86) := ⟨_, rfl⟩
  have HB : Hid (Below w.heap.size w w1) := Lib.hid (by rw [hw1]; exact below_lit w _ _)
  have HR : Hid (BBox w1 w.heap.size noB) := Lib.hid (by rw [hw1]; exact BBox.new w noB)
  have HW : Hid (w.alloc (.cells #[.bool false, .bool false, .bool false, .bool false, .bool false] 86) = w1) := Lib.hid hw1.symm
  have hsz1 : w.heap.size < w1.heap.size := HR.out.lt
  have HS1 := Lib.hid hsz1
  have HD := Lib.hid hd
  have HK := Lib.hid hk
  have HN := Lib.hid hn
  have HG : Hid (setB d (k % 2 == 0) 4 = b) := Lib.hid (by rw [← hb, gB, hd, hk])
  clear hw1 hsz1 hd hk hn hb
  cases q : ((k : Int) % 2 == 0)
  case false =>
    have HQ : Hid (setB d _ 4 = b) := Lib.hid (show setB d (decide ((k : Int) % 2 = 0)) 4 = b by rw [← HG.out]; congr 1; rw [Bool.eq_iff_iff]; simp; omega)
    have hq2 : decide ((k : Int) % 2 = 0) = _ := q
    rw [hq2] at HQ
    clear hq2
    go_enter Tryz.func72, Tryz.ntmps72
    go_wp2_with (first
      | (go_at_call 55; rw [HW.out]; refine (psplit_any n d (Nat.lt_trans HN.out (by decide)) HD.out _).mono ?_; rintro e w2 ⟨rfl, hb2⟩; have HX2 := BBox.new w2 d; have hr2 := (HR.out.next hb2).next (below_lit w2 #[.bool d.b0, .bool d.b1, .bool d.b2, .bool d.b3, .bool d.b4] 86); obtain ⟨c0, c1, c2, c3, c4⟩ := HX2.cells)
      | (go_at_call 87; refine (pones_any d k (by rw [HK.out]) _).mono ?_; rintro e w4 ⟨rfl, hb4⟩; clear c0 c1 c2 c3 c4; have HX4 := HX2.next hb4; have hne : w.heap.size ≠ w2.heap.size := (by have := HS1.out; have := hb2.size; omega); have f4 := HX4.frozen 4; have s4 := HX4.get 4 (by decide); have HX5 := HX4.set false 4 (by decide); rw [HQ.out] at HX5; have hr5 := (hr2.next hb4).setAt (.bool false) (j := 4) hne; obtain ⟨c0, c1, c2, c3, c4⟩ := HX5.cells)
      | ((with_reducible refine at_store 2 ?_); refine wpList_store_named (o := ⟨none, .store 86 (.tmp 2) (.tmp 11), _, _, _, _⟩) rfl 86 (.tmp 2) (.tmp 11) rfl w.heap.size #[.bool b.b0, .bool b.b1, .bool b.b2, .bool b.b3, .bool b.b4] rfl rfl 86 #[.bool false, .bool false, .bool false, .bool false, .bool false] hr5 infoB5 rfl (b5_one _ _ _ _ _) ?_; intro w6 hw6))
    have hr6 := setRow_heap (w4.setCell ⟨w2.heap.size, 4, none⟩ (.bool false)) w.heap.size #[.bool false, .bool false, .bool false, .bool false, .bool false] #[.bool b.b0, .bool b.b1, .bool b.b2, .bool b.b3, .bool b.b4] 86 (0, 0) hr5
    rw [← hw6.out] at hr6
    have hb6 := below_row hw6.out (Nat.le_refl w.heap.size)
    have hle1 := HS1.out
    have hle2 := hb2.size
    have hal := below_lit w2 #[.bool d.b0, .bool d.b1, .bool d.b2, .bool d.b3, .bool d.b4] 86
    have h1 := (HB.out.trans (hb2.mono (Nat.le_of_lt hle1))).trans (hal.mono (by omega))
    have h2 := (h1.trans (hb4.mono (by have := hal.size; omega))).setCell (p := ⟨w2.heap.size, 4, none⟩) (by show w.heap.size ≤ w2.heap.size; omega) (.bool false)
    refine bodyPost_ret (results_row Tryz.results72 _ w6 w.heap.size 86 #[.bool b.b0, .bool b.b1, .bool b.b2, .bool b.b3, .bool b.b4] (0, 0) _ rfl hr6 Tryz.underlying86 rfl infoB5) rfl ⟨rfl, h2.trans hb6⟩
  case true =>
    have HQ : Hid (setB d _ 4 = b) := Lib.hid (show setB d (decide ((k : Int) % 2 = 0)) 4 = b by rw [← HG.out]; congr 1; rw [Bool.eq_iff_iff]; simp; omega)
    have hq2 : decide ((k : Int) % 2 = 0) = _ := q
    rw [hq2] at HQ
    clear hq2
    go_enter Tryz.func72, Tryz.ntmps72
    go_wp2_with (first
      | (go_at_call 55; rw [HW.out]; refine (psplit_any n d (Nat.lt_trans HN.out (by decide)) HD.out _).mono ?_; rintro e w2 ⟨rfl, hb2⟩; have HX2 := BBox.new w2 d; have hr2 := (HR.out.next hb2).next (below_lit w2 #[.bool d.b0, .bool d.b1, .bool d.b2, .bool d.b3, .bool d.b4] 86); obtain ⟨c0, c1, c2, c3, c4⟩ := HX2.cells)
      | (go_at_call 87; refine (pones_any d k (by rw [HK.out]) _).mono ?_; rintro e w4 ⟨rfl, hb4⟩; clear c0 c1 c2 c3 c4; have HX4 := HX2.next hb4; have hne : w.heap.size ≠ w2.heap.size := (by have := HS1.out; have := hb2.size; omega); have f4 := HX4.frozen 4; have s4 := HX4.get 4 (by decide); have HX5 := HX4.set true 4 (by decide); rw [HQ.out] at HX5; have hr5 := (hr2.next hb4).setAt (.bool true) (j := 4) hne; obtain ⟨c0, c1, c2, c3, c4⟩ := HX5.cells)
      | ((with_reducible refine at_store 2 ?_); refine wpList_store_named (o := ⟨none, .store 86 (.tmp 2) (.tmp 11), _, _, _, _⟩) rfl 86 (.tmp 2) (.tmp 11) rfl w.heap.size #[.bool b.b0, .bool b.b1, .bool b.b2, .bool b.b3, .bool b.b4] rfl rfl 86 #[.bool false, .bool false, .bool false, .bool false, .bool false] hr5 infoB5 rfl (b5_one _ _ _ _ _) ?_; intro w6 hw6))
    have hr6 := setRow_heap (w4.setCell ⟨w2.heap.size, 4, none⟩ (.bool true)) w.heap.size #[.bool false, .bool false, .bool false, .bool false, .bool false] #[.bool b.b0, .bool b.b1, .bool b.b2, .bool b.b3, .bool b.b4] 86 (0, 0) hr5
    rw [← hw6.out] at hr6
    have hb6 := below_row hw6.out (Nat.le_refl w.heap.size)
    have hle1 := HS1.out
    have hle2 := hb2.size
    have hal := below_lit w2 #[.bool d.b0, .bool d.b1, .bool d.b2, .bool d.b3, .bool d.b4] 86
    have h1 := (HB.out.trans (hb2.mono (Nat.le_of_lt hle1))).trans (hal.mono (by omega))
    have h2 := (h1.trans (hb4.mono (by have := hal.size; omega))).setCell (p := ⟨w2.heap.size, 4, none⟩) (by show w.heap.size ≤ w2.heap.size; omega) (.bool true)
    refine bodyPost_ret (results_row Tryz.results72 _ w6 w.heap.size 86 #[.bool b.b0, .bool b.b1, .bool b.b2, .bool b.b3, .bool b.b4] (0, 0) _ rfl hr6 Tryz.underlying86 rfl infoB5) rfl ⟨rfl, h2.trans hb6⟩
end Go.Proofs.YtaokhkbfiplfmaaGreatDoor
end
section
namespace Go.Proofs.YtaokhkbfiplfmaaGreatDoor
set_option linter.unusedVariables false
open Go.ChangeShapes Go.WideShapes Go.ChangeAt Go.RowKit

set_option maxRecDepth 100000 in
set_option maxHeartbeats 1600000 in
theorem pchar_any (v x E : Int) (hv : charV v = x) (hE : charE v = E) (w : World) : Calls Tryz.prog 56 #[.int .i64 v] w fun e w' => e = .returned (.tuple #[.int .i64 x, .int .i64 E]) ∧ Below w.heap.size w w' := by
  cases h : isV v with
  | false =>
    have e1 : x = 0 := by rw [← hv, charV, h]; rfl
    have e2 : E = 1 := by rw [← hE, charE, h]; rfl
    subst e1 e2
    have HV := Lib.hid h
    clear hv hE h
    go_enter Tryz.func56, Tryz.ntmps56
    go_wp2_with (go_at_call 57; refine (pisvalue_any v false HV.out _).mono ?_; rintro e w1 ⟨rfl, rfl⟩)
    go_ret2
    exact ⟨rfl, Below.refl _ _⟩
  | true =>
    have hs := (isV_iff v).1 h
    obtain ⟨n, hn⟩ : ∃ n : Nat, v = (n : Int) := ⟨v.toNat, by omega⟩
    subst hn
    have e2 : E = 0 := by rw [← hE, charE, h]; rfl
    subst e2
    have HN := Lib.hid (show n < 16 by omega)
    obtain ⟨b, hb⟩ : ∃ b, gB n = b := ⟨_, rfl⟩
    have HB := Lib.hid hb
    have HO : Hid (ofB b = x) := Lib.hid (by rw [← hb, gB_char n HN.out, hv])
    have HV := Lib.hid h
    clear hv hE h hs hb
    go_enter Tryz.func56, Tryz.ntmps56
    go_wp2_with (first
      | (go_at_call 57; refine (pisvalue_any n true HV.out _).mono ?_; rintro e w1 ⟨rfl, rfl⟩)
      | (go_at_call 72; refine (pguarded_any n b HN.out HB.out _).mono ?_; rintro e w2 ⟨rfl, hb2⟩)
      | (go_at_call 71; refine (pof_any b x HO.out _).mono ?_; rintro e w3 ⟨rfl, hb3⟩))
    go_ret2
    exact ⟨rfl, hb2.trans (hb3.mono hb2.size)⟩
set_option maxRecDepth 100000 in
set_option maxHeartbeats 1600000 in
theorem pbits_any (c : Int) (b : B5) (E : Int) (hb : bitsB c = b) (hE : bitsE c = E) (w : World) : Calls Tryz.prog 38 #[.int .i64 c] w fun e w' => e = .returned (.tuple #[.agg #[.bool b.b0, .bool b.b1, .bool b.b2, .bool b.b3, .bool b.b4], .int .i64 E]) ∧ Below w.heap.size w w' := by
  obtain ⟨w1, hw1⟩ : ∃ w1, w1 = w.alloc (.cells #[.bool false, .bool false, .bool false, .bool false, .bool false] 86) := ⟨_, rfl⟩
  have HB : Hid (Below w.heap.size w w1) := Lib.hid (by rw [hw1]; exact below_lit w _ _)
  have HR : Hid (BBox w1 w.heap.size noB) := Lib.hid (by rw [hw1]; exact BBox.new w noB)
  have HW : Hid (w.alloc (.cells #[.bool false, .bool false, .bool false, .bool false, .bool false] 86) = w1) := Lib.hid hw1.symm
  clear hw1
  cases h : isC c with
  | false =>
    have e1 : b = noB := by rw [← hb, bitsB, h]; rfl
    have e2 : E = 1 := by rw [← hE, bitsE, h]; rfl
    subst e1 e2
    clear hb hE
    cases q1 : decide (c < 0)
    case true =>
      clear h
      go_enter Tryz.func38, Tryz.ntmps38
      go_wp2_with ((with_reducible refine at_store 2 ?_); (try rw [HW.out]); refine wpList_store_named (o := ⟨none, .store 86 (.tmp 2) (.tmp 10), _, _, _, _⟩) rfl 86 (.tmp 2) (.tmp 10) rfl w.heap.size #[.bool false, .bool false, .bool false, .bool false, .bool false] rfl rfl 86 #[.bool false, .bool false, .bool false, .bool false, .bool false] HR.out infoB5 rfl (b5_one false false false false false) ?_; intro w6 hw6)
      have hr6 := setRow_heap w1 w.heap.size #[.bool false, .bool false, .bool false, .bool false, .bool false] #[.bool false, .bool false, .bool false, .bool false, .bool false] 86 (0, 0) HR.out
      rw [← hw6.out] at hr6
      have hb6 := below_row hw6.out (Nat.le_refl w.heap.size)
      refine bodyPost_ret (results_row_tmp' Tryz.results38 _ w6 w.heap.size 86 #[.bool false, .bool false, .bool false, .bool false, .bool false] (0, 0) _ rfl hr6 Tryz.underlying86 rfl infoB5) rfl ⟨rfl, HB.out.trans hb6⟩
    case false =>
      have q2 : decide (32 ≤ c) = true := by
        rw [decide_eq_false_iff_not] at q1
        refine decide_eq_true ?_
        rcases Int.lt_or_le 31 c with h1 | h1
        · omega
        · rw [(isC_iff c).2 ⟨by omega, h1⟩] at h; cases h
      clear h
      go_enter Tryz.func38, Tryz.ntmps38
      go_wp2_with ((with_reducible refine at_store 2 ?_); (try rw [HW.out]); refine wpList_store_named (o := ⟨none, .store 86 (.tmp 2) (.tmp 10), _, _, _, _⟩) rfl 86 (.tmp 2) (.tmp 10) rfl w.heap.size #[.bool false, .bool false, .bool false, .bool false, .bool false] rfl rfl 86 #[.bool false, .bool false, .bool false, .bool false, .bool false] HR.out infoB5 rfl (b5_one false false false false false) ?_; intro w6 hw6)
      have hr6 := setRow_heap w1 w.heap.size #[.bool false, .bool false, .bool false, .bool false, .bool false] #[.bool false, .bool false, .bool false, .bool false, .bool false] 86 (0, 0) HR.out
      rw [← hw6.out] at hr6
      have hb6 := below_row hw6.out (Nat.le_refl w.heap.size)
      refine bodyPost_ret (results_row_tmp' Tryz.results38 _ w6 w.heap.size 86 #[.bool false, .bool false, .bool false, .bool false, .bool false] (0, 0) _ rfl hr6 Tryz.underlying86 rfl infoB5) rfl ⟨rfl, HB.out.trans hb6⟩
  | true =>
    have hs := (isC_iff c).1 h
    have q1 : decide (c < 0) = false := decide_eq_false (by omega)
    have q2 : decide (32 ≤ c) = false := decide_eq_false (by omega)
    have e2 : E = 0 := by rw [← hE, bitsE, if_pos h]
    have hbb := (upB_all h).trans hb
    obtain ⟨n, hn⟩ : ∃ n : Nat, c = (n : Int) := ⟨c.toNat, by omega⟩
    subst hn e2
    have ht : (n : Int).toNat = n := by omega
    rw [ht] at hbb
    have HBB := Lib.hid hbb
    have HN := Lib.hid (show n < 32 by omega)
    clear hb hE h hs hbb ht
    go_enter Tryz.func38, Tryz.ntmps38
    go_wp2_with (first
      | (go_at_call 55; rw [HW.out]; refine (psplit_any n b HN.out HBB.out _).mono ?_; rintro e w2 ⟨rfl, hb2⟩; have hr2 := HR.out.next hb2)
      | ((with_reducible refine at_store 2 ?_); refine wpList_store_named (o := ⟨none, .store 86 (.tmp 2) (.tmp 12), _, _, _, _⟩) rfl 86 (.tmp 2) (.tmp 12) rfl w.heap.size #[.bool b.b0, .bool b.b1, .bool b.b2, .bool b.b3, .bool b.b4] rfl rfl 86 #[.bool false, .bool false, .bool false, .bool false, .bool false] hr2 infoB5 rfl (b5_one _ _ _ _ _) ?_; intro w6 hw6))
    have hr6 := setRow_heap w2 w.heap.size #[.bool false, .bool false, .bool false, .bool false, .bool false] #[.bool b.b0, .bool b.b1, .bool b.b2, .bool b.b3, .bool b.b4] 86 (0, 0) hr2
    rw [← hw6.out] at hr6
    have hb6 := below_row hw6.out (Nat.le_refl w.heap.size)
    refine bodyPost_ret (results_row_tmp' Tryz.results38 _ w6 w.heap.size 86 #[.bool b.b0, .bool b.b1, .bool b.b2, .bool b.b3, .bool b.b4] (0, 0) _ rfl hr6 Tryz.underlying86 rfl infoB5) rfl ⟨rfl, (HB.out.trans (hb2.mono HB.out.size)).trans hb6⟩
end Go.Proofs.YtaokhkbfiplfmaaGreatDoor
end
section
namespace Go.Proofs.YtaokhkbfiplfmaaGreatDoor
set_option linter.unusedVariables false
open Go.ChangeShapes Go.WideShapes Go.ChangeAt Go.RowKit

set_option maxRecDepth 100000 in
set_option maxHeartbeats 1600000 in
theorem psum_any (l : List Int) (n : Nat) (hn : n = l.length) (A : Option Addr) (c : Nat) (x E : Int) (hv : sumV l = x) (hE : sumE l = E) (w : World) (hA : Zs w w.heap.size l A c) : Calls Tryz.prog 40 #[.slice A n c] w fun e w' => e = .returned (.tuple #[.int .i64 x, .int .i64 E]) ∧ w' = w := by
  have HN := Lib.hid hn
  have HV := Lib.hid hv
  have HE := Lib.hid hE
  have HA := Lib.hid hA
  have hc := hA.cap
  have hlc := hA.len
  have hn3 : n ≤ 9223372036854775807 := by omega
  clear hn hv hE hA hc hlc
  go_enter Tryz.func40, Tryz.ntmps40
  go_wp2
  go_loop [4, 9] (fun s i => ∃ k : Nat, k ≤ n ∧ i = .int .i64 k ∧ s = .int .i64 (sumX (l.take k) : Nat) ∧ sumOk (l.take k) = true) (fun _ i => n - (intOf i).toNat)
  case atStart => exact ⟨0, by omega, rfl, rfl, rfl⟩
  case round =>
    obtain ⟨k, hk, rfl, rfl, hok⟩ := hrel
    have HO := Lib.hid hok
    clear hok
    by_cases hlt : k < n
    · have hkl : k < l.length := by rw [← HN.out]; exact hlt
      obtain ⟨z, hz⟩ : ∃ z, l[k]? = some z := ⟨_, List.getElem?_eq_getElem hkl⟩
      obtain ⟨ad, rfl, hadl, hc⟩ := HA.out.at hz
      have b1 : (k : Int) < (n : Int) := by omega
      have b0 : (0 : Int) ≤ (k : Int) := by omega
      have HZ := Lib.hid hz
      clear hz hkl hadl
      cases hvz : isV z
      case true =>
        obtain ⟨m, hm⟩ : ∃ m : Nat, z = (m : Int) := ⟨z.toNat, by have := (isV_iff z).1 hvz; omega⟩
        have hx : bits BinOp.xor IntKind.i64 ((sumX (l.take k) : Nat) : Int) z = ((sumX (l.take (k + 1)) : Nat) : Int) := by
          rw [sumX_take HZ.out, hm]
          exact xor_small _ (sumX_lt _ HO.out) m (by have := (isV_iff z).1 hvz; omega)
        have HS := Lib.hid hx
        have HO2 := Lib.hid (show sumOk (l.take (k + 1)) = true by rw [sumOk_take HZ.out, HO.out, hvz]; rfl)
        have HV2 := Lib.hid hvz
        clear hlt hm hx hvz
        go_wp2_with (go_at_call 57; refine (pisvalue_any z true HV2.out _).mono ?_; rintro e w1 ⟨rfl, rfl⟩)
        case roundEnd => exact ⟨⟨k + 1, by omega, by go_num, by rw [HS.out], HO2.out⟩, by simp [intOf]; omega⟩
      case false =>
        have hb := hvz
        have HV2 := Lib.hid hvz
        have hs := sum_bad HZ.out hb
        have e1 : x = 0 := by rw [← HV.out, sumV, hs]; rfl
        have e2 : E = 1 := by rw [← HE.out, sumE, hs]; rfl
        subst e1 e2
        clear hb hs hvz
        go_wp2_with (go_at_call 57; refine (pisvalue_any z false HV2.out _).mono ?_; rintro e w1 ⟨rfl, rfl⟩)
        go_ret2
        exact ⟨rfl, rfl⟩
    · have e : k = n := by omega
      have ht : l.take k = l := by rw [e, HN.out]; exact List.take_length
      have hs : sumOk l = true := by have := HO.out; rwa [ht] at this
      have e1 : ((sumX l : Nat) : Int) = x := by rw [← HV.out, sumV, if_pos hs]
      have e2 : E = 0 := by rw [← HE.out, sumE, if_pos hs]
      subst e2
      have hnb : ¬ ((k : Int) < (n : Int)) := by omega
      rw [ht, e1]
      clear ht hs e1 hlt e
      go_wp2
      go_ret2
      exact ⟨rfl, rfl⟩
end Go.Proofs.YtaokhkbfiplfmaaGreatDoor
end
section
namespace Go.Proofs.YtaokhkbfiplfmaaGreatDoor
set_option linter.unusedVariables false
open Go.ChangeShapes Go.WideShapes Go.ChangeAt Go.RowKit

set_option maxRecDepth 100000 in
set_option maxHeartbeats 1600000 in
theorem pcharof_any (v c : Nat) (hv : v < 16) (hc : charN v = c) (w : World) : Calls Tryz.prog 39 #[.int .i64 (v : Int)] w fun e w' => e = .returned (.int .i64 (c : Int)) ∧ Below w.heap.size w w' := by
  have cf := char_facts v hv
  rw [hc] at cf
  have HCF := Lib.hid cf
  clear cf hc
  go_enter Tryz.func39, Tryz.ntmps39
  go_wp2_with (go_at_call 56; refine (pchar_any _ _ _ HCF.out.1 HCF.out.2.1 _).mono ?_; rintro e w2 ⟨rfl, hb⟩)
  go_ret
  exact ⟨rfl, hb⟩
set_option maxRecDepth 100000 in
set_option maxHeartbeats 1600000 in
theorem psumof_any (vs : List Nat) (hv : ∀ v ∈ vs, v < 16) (n : Nat) (hn : n = vs.length) (A : Option Addr) (c : Nat) (x : Nat) (hx : xorL vs = x) (w : World) (hA : Zs w w.heap.size (NZ vs) A c) : Calls Tryz.prog 26 #[.slice A n c] w fun e w' => e = .returned (.int .i64 (x : Int)) ∧ w' = w := by
  have cf := sum_nz hv
  rw [hx] at cf
  have HCF := Lib.hid cf
  have HN := Lib.hid (show n = (NZ vs).length by rw [NZ_len]; exact hn)
  have HA := Lib.hid hA
  clear cf hx hn hA
  go_enter Tryz.func26, Tryz.ntmps26
  go_wp2_with (go_at_call 40; refine (psum_any _ _ HN.out _ _ _ _ HCF.out.1 HCF.out.2 _ HA.out).mono ?_; rintro e w2 ⟨rfl, rfl⟩)
  go_ret
  exact ⟨rfl, rfl⟩
set_option maxRecDepth 100000 in
set_option maxHeartbeats 1600000 in
theorem pbitsof_any (vs : List Nat) (hv : ∀ v ∈ vs, v < 16) (n : Nat) (hn : n = vs.length) (hn2 : n ≤ 2000) (A : Option Addr) (c : Nat) (w : World) (hA : Zs w w.heap.size (NZ vs) A c) : Calls Tryz.prog 25 #[.slice A n c] w fun e w' => ∃ A' c', e = .returned (.slice A' ((5 * n : Nat)) c') ∧ Vs w' w'.heap.size (charsL vs) A' c' ∧ Below w.heap.size w w' := by
  obtain ⟨i0, hi, hz0, hz1, hz2⟩ := info_parts infoBoolT
  have HN := Lib.hid hn
  have HA := Lib.hid hA
  have HV := Lib.hid hv
  have hn3 : n ≤ 9223372036854775807 := by omega
  clear hn hA hv
  go_enter Tryz.func25, Tryz.ntmps25
  go_wp2
  go_loopw [3, 11] (fun v i wr => ∃ k : Nat, k ≤ n ∧ i = .int .i64 k ∧ wr.ownsRow w.heap.size 4 1 v (5 * k) (BL (charsL (vs.take k))) ∧ Below w.heap.size w wr) (fun _ i _ => n - (intOf i).toNat)
  case atStart => exact ⟨0, by omega, rfl, World.ownsRow_lit w #[] 0 (Nat.le_refl _) (by decide) rfl, below_lit w _ _⟩
  case round =>
    obtain ⟨k, hk, rfl, hown, hbel⟩ := hrel
    by_cases hlt : k < n
    · obtain ⟨x, hx⟩ : ∃ x, vs[k]? = some x := ⟨_, List.getElem?_eq_getElem (by rw [← HN.out]; exact hlt)⟩
      have hx16 : x < 16 := HV.out x (List.mem_of_getElem? hx)
      obtain ⟨ad, rfl, hadl, hc0⟩ := HA.out.at (NZ_at hx)
      have hc : wr.cell? (ad.add k) = some (.int .i64 (x : Int)) := (hbel.cell (by rw [add_block]; exact hadl)).trans hc0
      have HX := Lib.hid hx
      have HOW := Lib.hid hown
      have HBL := Lib.hid hbel
      have cf := char_facts x hx16
      obtain ⟨ch, hch⟩ : ∃ ch, charN x = ch := ⟨_, rfl⟩
      rw [hch] at cf
      obtain ⟨b, hb⟩ : ∃ b, bitsB (ch : Int) = b := ⟨_, rfl⟩
      rw [hb] at cf
      have HCF := Lib.hid cf
      have HB := Lib.hid hb
      have HCH := Lib.hid hch
      have b0 : (0 : Int) ≤ (k : Int) := by omega
      have b1 : (k : Int) < (n : Int) := by omega
      clear hown hbel hx hadl hc0 cf hb hch
      go_wp2_with (go_at_call 39; refine (pcharof_any x ch hx16 HCH.out _).mono ?_; rintro e w2 ⟨rfl, hb2⟩)
      have HO2 := Lib.hid (own_below HOW.out hb2)
      have HB2 := Lib.hid (HBL.out.trans (hb2.mono HBL.out.size))
      clear hb2 hc
      have hm1 : 5 * k + 5 ≤ maxLen := by unfold maxLen; omega
      have hm2 : (5 * k + 5) * 1 ≤ 140737488355328 := by omega
      have hsz := HB2.out.size
      go_wp2_with (first | (go_at_call 38; refine (pbits_any _ b 0 HB.out HCF.out.2.2.1 _).mono ?_; rintro e w3 ⟨rfl, hb3⟩) | (at_builtin; refine wpList_append_own _ rfl (.tmp 21) (.tmp 22) 63 rfl w.heap.size 4 i0 (.bool false) 1 1 Tryz.underlying63 hi hz0 hz1 hz2 rfl (by decide) _ (5 * k) (BL (charsL (vs.take k))) rfl (own_below (own_below HO2.out hb3) (below_lit w3 _ _)) ⟨w3.heap.size, 0, none⟩ 5 5 (BL (B5L b)) rfl rfl (bbox_rd (BBox.new w3 b)) (BL_one _) hm1 hm2 (by have := hb3.size; simp; omega) ?_))
      have hszA : w.heap.size ≤ w3.heap.size := Nat.le_trans hsz hb3.size
      replace HOW := Lib.hid (own_below (own_below HO2.out hb3) (below_lit w3 #[.bool b.b0, .bool b.b1, .bool b.b2, .bool b.b3, .bool b.b4] 86))
      replace HBL := Lib.hid ((HB2.out.trans (hb3.mono HB2.out.size)).trans ((below_lit w3 #[.bool b.b0, .bool b.b1, .bool b.b2, .bool b.b3, .bool b.b4] 86).mono hszA))
      clear hb3 HO2 HB2 hsz
      intro v8 w8 hown8 hg8 _
      have HO8 := Lib.hid (show w8.ownsRow w.heap.size 4 1 v8 (5 * (k + 1)) (BL (charsL (vs.take (k + 1)))) by
        rw [charsL_take HX.out, ← HCF.out.2.2.2, BL_append, show 5 * (k + 1) = 5 * k + 5 by omega]
        exact hown8)
      have HB8 := Lib.hid (HBL.out.grown hg8 (by simp; omega) (fun p hp => own_ge HOW.out hp))
      clear hown8 hg8 HOW HBL
      go_wp2
      go_roundw
      case rel => exact ⟨k + 1, by omega, by go_num, HO8.out, HB8.out⟩
      case measure => simp [intOf]; omega
    · have e : k = n := by omega
      have hb : ¬ ((k : Int) < (n : Int)) := by omega
      have ht : charsL (vs.take k) = charsL vs := by rw [e, HN.out, List.take_length]
      rw [ht, e] at hown
      clear ht hlt
      obtain ⟨A', c', hv, _, hbs⟩ := vs_of_own hown
      subst hv
      go_wp2
      go_ret
      exact ⟨_, _, rfl, hbs, hbel⟩
end Go.Proofs.YtaokhkbfiplfmaaGreatDoor
end
section
namespace Go.Proofs.YtaokhkbfiplfmaaGreatDoor
set_option linter.unusedVariables false
open Go.ChangeShapes Go.WideShapes Go.ChangeAt Go.RowKit

set_option maxRecDepth 100000 in
set_option maxHeartbeats 1600000 in
theorem or_u8 : ∀ r : Nat, r < 8 → ∀ p : Nat, p < 2 ^ r → bits BinOp.or IntKind.u8 ((p * 2 ^ (8 - r) : Nat) : Int) ((2 ^ (7 - r) : Nat) : Int) = ((p * 2 ^ (8 - r) + 1 * 2 ^ (7 - r) : Nat) : Int) := by decide +kernel
theorem mask_u8 : ∀ r : Nat, r < 8 → (2 : Int) ^ (7 - r) % 256 = ((2 ^ (7 - r) : Nat) : Int) := by decide
set_option maxRecDepth 100000 in
set_option maxHeartbeats 1600000 in
theorem pmask_any (i : Nat) (hi : i < 100000000) (w : World) : Calls Tryz.prog 37 #[.int .i64 (i : Int)] w fun e w' => e = .returned (.int .u8 ((2 ^ (7 - i % 8) : Nat) : Int)) ∧ w' = w := by
  obtain ⟨r, hr⟩ : ∃ r, i % 8 = r := ⟨_, rfl⟩
  have hr8 : r < 8 := by omega
  have hm : ((i : Int) % 8) = (r : Int) := by omega
  have hm2 : ((i : Int).tmod 8) = (r : Int) := by rw [Int.tmod_eq_emod_of_nonneg (by omega)]; omega
  have b0 : 0 ≤ 7 - (r : Int) := by omega
  have b1 : 7 - (r : Int) ≤ 64 := by omega
  have hk := mask_u8 r hr8
  rw [hr]
  go_enter Tryz.func37, Tryz.ntmps37
  go_wp2
  go_ret
  exact ⟨congrArg (fun z => Ending.returned (Value.int IntKind.u8 z)) hk, rfl⟩
set_option linter.unusedVariables false
open Go.ChangeShapes Go.WideShapes Go.ChangeAt Go.RowKit

set_option maxRecDepth 100000 in
set_option maxHeartbeats 1600000 in
theorem ppack_any (l : List Bool) (n : Nat) (hn : n = l.length) (hn2 : n ≤ 8388608) (A : Option Addr) (c : Nat) (w : World) (hA : Vs w w.heap.size l A c) : Calls Tryz.prog 24 #[.slice A n c] w fun e w' => ∃ A' c', e = .returned (.slice A' ((n + 7) / 8) c') ∧ Bs w' w'.heap.size (packL l) A' c' ∧ Below w.heap.size w w' := by
  obtain ⟨i0, hi, hz0, hz1, hz2⟩ := info_parts infoU8
  obtain ⟨m, hm⟩ : ∃ m, (n + 7) / 8 = m := ⟨_, rfl⟩
  have HM := Lib.hid hm
  have HN := Lib.hid hn
  have HA := Lib.hid hA
  have hm2 : m ≤ 8388608 := by omega
  have e1 : ((n : Int) + 8 - 1) / 8 = (m : Int) := by omega
  have e2 : ((n : Int) + 8 - 1).tdiv 8 = (m : Int) := by rw [Int.tdiv_eq_ediv_of_nonneg (by omega)]; exact e1
  rw [hm]
  clear hn hA hm
  go_enter Tryz.func24, Tryz.ntmps24
  go_wp2_with (at_make; refine wpList_make_full _ rfl _ _ 26 rfl w.heap.size 5 i0 (.int .u8 0) 1 Tryz.underlying26 hi hz0 hz1 _ _ _ _ m rfl rfl (by omega) (by omega) ?b2 ?b3 (Nat.le_refl _) ?_)
  case b2 => rw [hz2]; omega
  case b3 => unfold maxLen; omega
  intro w1 hown hg
  have HOW := Lib.hid (show w1.ownsRow w.heap.size 5 1 (.slice (some ⟨w.heap.size, 0, none⟩) m m) m (U8 (packN (l.take 0) m)) by
    rw [toList_madeCells_one] at hown
    rw [pk_zero, U8, List.map_replicate]
    exact hown)
  have HBL := Lib.hid (show Below w.heap.size w w1 from (Below.refl _ _).grown hg (Nat.le_refl _) (by simp))
  clear hown hg
  go_wp2
  go_loopw [14] (fun i wr => ∃ k : Nat, k ≤ n ∧ i = .int .i64 k ∧ wr.ownsRow w.heap.size 5 1 (.slice (some ⟨w.heap.size, 0, none⟩) m m) m (U8 (packN (l.take k) m)) ∧ Below w.heap.size w wr) (fun i _ => n - (intOf i).toNat)
  case atStart => exact ⟨0, Nat.zero_le _, rfl, HOW.out, HBL.out⟩
  case round =>
    obtain ⟨k, hk, rfl, hown, hbel⟩ := hrel
    replace HOW := Lib.hid hown
    replace HBL := Lib.hid hbel
    clear hown hbel
    by_cases hlt : k < n
    · have hkl : k < l.length := by rw [← HN.out]; exact hlt
      obtain ⟨x, hx⟩ : ∃ x, l[k]? = some x := ⟨_, List.getElem?_eq_getElem hkl⟩
      obtain ⟨ad, rfl, hadl, hc0⟩ := HA.out.at hx
      have hc : wr.cell? (ad.add k) = some (.bool x) := (HBL.out.cell (by rw [add_block]; exact hadl)).trans hc0
      obtain ⟨j, hj⟩ : ∃ j, k / 8 = j := ⟨_, rfl⟩
      have hjm : j < m := by have := HM.out; omega
      have e3 : (k : Int) / 8 = (j : Int) := by omega
      have e4 : (k : Int).tdiv 8 = (j : Int) := by rw [Int.tdiv_eq_ediv_of_nonneg (by omega)]; exact e3
      have hst := pk_step l k m (by rw [hj]; exact hjm)
      have hol := pk_old l k m (by rw [hj]; exact hjm)
      have hg : l.getD k false = x := by rw [List.getD_eq_getElem?_getD, hx]; rfl
      rw [hj] at hst hol
      rw [hg] at hst
      have HPB := Lib.hid (pk_bit l k)
      obtain ⟨y, hy⟩ : ∃ y, pkOld l k = y := ⟨_, rfl⟩
      rw [hy] at hst hol HPB
      have hf := HOW.out.frozenAt j
      have hc2 : wr.cell? ⟨w.heap.size, j, none⟩ = some (.int .u8 (y : Int)) := by
        rw [HOW.out.cellAt j (by omega), U8, List.getElem?_map, hol]; rfl
      have HST := Lib.hid hst
      have b0 : (0 : Int) ≤ (j : Int) := by omega
      have wj : IntKind.i64.wrap (j : Int) = (j : Int) := IntWalk.i64_in _ (by omega)
      have b1 : (j : Int) < (m : Int) := by omega
      have b2 : (k : Int) < (n : Int) := by omega
      clear hst hol hg hy hx hc0 hadl hkl hlt hj
      cases x with
      | false =>
        have hs0 : packN (l.take (k + 1)) m = packN (l.take k) m := by
          rw [HST.out]
          simp only [bit, Bool.false_eq_true, if_false, Nat.zero_mul, Nat.add_zero]
          exact List.ext_getElem? fun q => by
            by_cases hq : q = j
            · subst hq
              rw [List.getElem?_set_self (by rw [packN_len]; exact hjm)]
              have := HOW.out.cellAt q (by omega)
              rw [hc2, U8, List.getElem?_map] at this
              cases hz : (packN (l.take k) m)[q]? with
              | none => rw [hz] at this; cases this
              | some z =>
                rw [hz] at this
                simp at this
                congr 1
                omega
            · rw [List.getElem?_set_ne (by omega)]
        have HS0 := Lib.hid hs0
        clear hs0 hc2
        go_wp2
        go_roundw
        case rel => exact ⟨k + 1, by omega, by go_num, by rw [HS0.out]; exact HOW.out, HBL.out⟩
        case measure => simp [intOf]; omega
      | true =>
        obtain ⟨r, p, hr8, hp, hkr, hyp⟩ := HPB.out
        have hor : bits BinOp.or IntKind.u8 (y : Int) ((2 ^ (7 - k % 8) : Nat) : Int) = ((y + 1 * 2 ^ (7 - k % 8) : Nat) : Int) := by rw [hyp, hkr]; exact or_u8 r hr8 p hp
        obtain ⟨z, hz⟩ : ∃ z, 2 ^ (7 - k % 8) = z := ⟨_, rfl⟩
        have hmask := pmask_any k (by omega)
        rw [hz] at hor hmask
        have HMK := Lib.hid hmask
        have HSR := Lib.hid (HOW.out.stored j (.int .u8 ((y : Int) + (z : Int)))).1
        have HSE := Lib.hid (show (U8 (packN (l.take k) m)).set j (.int .u8 ((y : Int) + (z : Int))) = U8 (packN (l.take (k + 1)) m) by rw [HST.out, hz, U8, U8, List.map_set]; simp [bit])
        clear hp hkr hyp hz hmask HPB HST
        go_wp2
        go_region_with (go_at_call 37; refine (HMK.out _).mono ?_; rintro e w8 ⟨rfl, rfl⟩)
        all_goals
          go_wp2
          go_roundw
          case rel => exact ⟨k + 1, by omega, by go_num, by rw [← HSE.out]; exact HSR.out.drew, (HBL.out.setCell (p := ⟨w.heap.size, j, none⟩) (Nat.le_refl _) _).drew⟩
          case measure => simp [intOf]; omega
    · have e : k = n := by omega
      have hb : ¬ ((k : Int) < (n : Int)) := by omega
      have ht : packN (l.take k) m = packL l := by rw [e, HN.out, List.take_length, packL, ← HM.out, HN.out]
      rw [ht] at HOW
      clear ht hlt e
      go_wp2
      go_ret
      refine ⟨_, _, rfl, ?_, HBL.out⟩
      have h := bs_of_own HOW.out (packL_lt l)
      obtain ⟨A', c', hv, hbs⟩ := h
      cases hv
      exact hbs
set_option linter.unusedVariables false
open Go.ChangeShapes Go.WideShapes Go.ChangeAt Go.RowKit
end Go.Proofs.YtaokhkbfiplfmaaGreatDoor
end
section
namespace Go.Proofs.YtaokhkbfiplfmaaGreatDoor
set_option linter.unusedVariables false
open Go.ChangeShapes Go.WideShapes Go.ChangeAt Go.RowKit

set_option maxRecDepth 100000 in
set_option maxHeartbeats 1600000 in
theorem pput_any (d : List Nat) (n : Nat) (hn : n = d.length) (hn2 : n ≤ 9223372036854775807) (E : Int) (hE : putE d = E) (p : List Nat) (hP : putL d = p) (A : Option Addr) (c : Nat) (w : World) (hA : Bs w w.heap.size d A c) : Calls Tryz.prog 15 #[.slice A n c] w fun e w' => ∃ A' c', e = .returned (.tuple #[.slice A' (p.length : Nat) c', .int .i64 E]) ∧ Bs w' w'.heap.size p A' c' ∧ Below w.heap.size w w' := by
  obtain ⟨i0, hi, hz0, hz1, hz2⟩ := info_parts infoInt
  have HN := Lib.hid hn
  have HA := Lib.hid hA
  have HE := Lib.hid hE
  have HP := Lib.hid hP
  have hn3 : n ≤ 9223372036854775807 := by omega
  by_cases h77 : 77 < n
  · have e21 : E = 21 := by rw [← hE, putE, if_pos (by rw [← hn]; exact h77)]
    have hp : p = [] := by rw [← hP, putL, if_neg (by rw [hE, e21]; decide)]
    subst e21 hp
    have b0 : (77 : Int) < (n : Int) := by omega
    clear hn hA hE hP
    go_enter Tryz.func15, Tryz.ntmps15
    go_wp2
    go_ret2
    exact ⟨none, 0, rfl, ⟨by intro k u hu; simp [U8] at hu, fun _ => rfl, by simp, by omega, by simp⟩, Below.refl _ _⟩
  have b77 : ¬ ((77 : Int) < (n : Int)) := by omega
  clear hn hA hE hP
  go_enter Tryz.func15, Tryz.ntmps15
  go_wp2
  go_loopw [4, 13] (fun v i wr => ∃ k : Nat, k ≤ n ∧ i = .int .i64 k ∧ wr.ownsRow w.heap.size 3 1 v (k + 1) (I64 (NZ (11 :: d.take k))) ∧ digitsOk (d.take k) = true ∧ Below w.heap.size w wr) (fun _ i _ => n - (intOf i).toNat)
  case atStart => exact ⟨0, by omega, rfl, World.ownsRow_lit w #[.int .i64 11] 1 (Nat.le_refl _) (by decide) rfl, rfl, below_lit w _ _⟩
  case round =>
    obtain ⟨k, hk, rfl, hown, hdg, hbel⟩ := hrel
    have HOW := Lib.hid hown
    have HBL := Lib.hid hbel
    have HDG := Lib.hid hdg
    clear hown hbel hdg
    by_cases hlt : k < n
    · have hkl : k < d.length := by rw [← HN.out]; exact hlt
      obtain ⟨x, hx⟩ : ∃ x, d[k]? = some x := ⟨_, List.getElem?_eq_getElem hkl⟩
      have hx256 : x < 256 := HA.out.lt x (List.mem_of_getElem? hx)
      have hU : (U8 d)[k]? = some (.int .u8 (x : Int)) := by simp [U8, hx]
      obtain ⟨ad, rfl, hadl, hc0⟩ := HA.out.rd k _ hU
      have hc : wr.cell? (ad.add k) = some (.int .u8 (x : Int)) := (HBL.out.cell (by rw [add_block]; exact hadl)).trans hc0
      have HX := Lib.hid hx
      have b0 : (0 : Int) ≤ (k : Int) := by omega
      have b1 : (k : Int) < (n : Int) := by omega
      clear hx hkl hU hadl hc0
      by_cases hx9 : x ≤ 9
      · have b2 : ¬ ((9 : Int) < (x : Int)) := by omega
        have wx : IntKind.i64.wrap (x : Int) = (x : Int) := IntWalk.i64_in _ (by omega)
        have HST := Lib.hid (nz_step HX.out)
        have HD2 := Lib.hid (show digitsOk (d.take (k + 1)) = true by rw [digits_take HX.out, HDG.out, decide_eq_true hx9]; rfl)
        have hm1 : k + 1 + 1 ≤ maxLen := by unfold maxLen; omega
        have hm2 : (k + 1 + 1) * 8 ≤ 140737488355328 := by omega
        have hsz := HBL.out.size
        go_wp2_with (at_builtin; refine wpList_append_own _ rfl (.tmp 19) (.tmp 22) 52 rfl w.heap.size 3 i0 (.int .i64 0) 1 8 Tryz.underlying52 hi hz0 hz1 hz2 rfl (by decide) _ (k + 1) (I64 (NZ (11 :: d.take k))) rfl (HOW.out.alloc _) ⟨_, 0, none⟩ 1 1 (I64 [(x : Int)]) rfl rfl (int_lit _ _) (I64_one _) hm1 hm2 (by simp; omega) ?_)
        intro v8 w8 hown8 hg8 _
        have HO8 := Lib.hid (show w8.ownsRow w.heap.size 3 1 v8 (k + 1 + 1) (I64 (NZ (11 :: d.take (k + 1)))) by
          rw [HST.out, I64_append]
          exact hown8)
        have HB8 := Lib.hid ((HBL.out.alloc HBL.out.size _).grown hg8 (by simp; omega) (fun p hp => own_ge HOW.out hp))
        clear hown8 hg8 HOW HBL hc
        go_wp2
        go_roundw
        case rel => exact ⟨k + 1, by omega, by go_num, HO8.out, HD2.out, HB8.out⟩
        case measure => simp [intOf]; omega
      · have b2 : (9 : Int) < (x : Int) := by omega
        have hbad := digits_bad HX.out hx9
        have e7 : E = 7 := by rw [← HE.out, putE, if_neg (by rw [← HN.out]; exact h77), if_neg (by rw [hbad]; decide)]
        have hp : p = [] := by rw [← HP.out, putL, if_neg (by rw [HE.out, e7]; decide)]
        subst e7 hp
        clear hbad hlt
        go_wp2
        go_ret2
        exact ⟨none, 0, rfl, ⟨by intro k u hu; simp [U8] at hu, fun _ => rfl, by simp, by omega, by simp⟩, HBL.out⟩
    · have e : k = n := by omega
      have hb : ¬ ((k : Int) < (n : Int)) := by omega
      have ht : d.take k = d := by rw [e, HN.out, List.take_length]
      rw [ht] at HOW HDG
      have e0 : E = 0 := by rw [← HE.out, putE, if_neg (by rw [← HN.out]; exact h77), if_pos HDG.out]
      have hE0 : putE d = 0 := HE.out.trans e0
      have hp : p = packL (charsL (trackV d)) := by rw [← HP.out, putL, if_pos hE0]
      have hpl : (packL (charsL (trackV d))).length = (5 * (n + 3) + 7) / 8 := by rw [packL_len, charsL_len, trackV_len, ← HN.out]
      subst e0 e hp
      have HPL := Lib.hid hpl
      have HP1 := Lib.hid (nz_pv d)
      have HP2 := Lib.hid (nz_tv d)
      obtain ⟨x, hx⟩ : ∃ x, xorL (putVals d) = x := ⟨_, rfl⟩
      have HX := Lib.hid hx
      rw [hx] at HP2
      have hm1 : k + 1 + 1 ≤ maxLen := by unfold maxLen; omega
      have hm2 : (k + 1 + 1) * 8 ≤ 140737488355328 := by omega
      have hm3 : k + 2 + 1 ≤ maxLen := by unfold maxLen; omega
      have hm4 : (k + 2 + 1) * 8 ≤ 140737488355328 := by omega
      have hsz := HBL.out.size
      clear ht hlt hx hpl hE0 HP
      go_wp2_with (at_builtin; refine wpList_append_own _ rfl (.tmp 25) (.tmp 26) 52 rfl w.heap.size 3 i0 (.int .i64 0) 1 8 Tryz.underlying52 hi hz0 hz1 hz2 rfl (by decide) _ (k + 1) (I64 (NZ (11 :: d))) rfl (HOW.out.alloc _) ⟨_, 0, none⟩ 1 1 (I64 [15]) rfl rfl (int_lit _ _) (I64_one _) hm1 hm2 (by simp; omega) ?_)
      intro v8 w8 hown8 hg8 _
      have HO8 := Lib.hid (show w8.ownsRow w.heap.size 3 1 v8 (k + 2) (I64 (NZ (putVals d))) by
        rw [HP1.out, I64_append]
        exact hown8)
      have HB8 := Lib.hid ((HBL.out.alloc HBL.out.size _).grown hg8 (by simp; omega) (fun p hp => own_ge HOW.out hp))
      clear hown8 hg8 HOW HBL
      obtain ⟨A8, c8, hv8, hl8, hz8⟩ := zs_of_own HO8.out
      subst hv8
      have HZ8 := Lib.hid hz8
      have HL8 := Lib.hid (show k + 2 = (putVals d).length by rw [hl8, NZ_len])
      clear hz8 hl8
      have hsz8 := HB8.out.size
      have hsz8' := HZ8.out.len
      go_wp2_with (first | (go_at_call 26; refine (psumof_any (putVals d) (pv_lt HDG.out) (k + 2) HL8.out A8 c8 x HX.out _ HZ8.out).mono ?_; rintro e w10 ⟨rfl, rfl⟩) | (at_builtin; refine wpList_append_own _ rfl (.tmp 28) (.tmp 31) 52 rfl w.heap.size 3 i0 (.int .i64 0) 1 8 Tryz.underlying52 hi hz0 hz1 hz2 rfl (by decide) _ (k + 2) (I64 (NZ (putVals d))) rfl (HO8.out.alloc _) ⟨_, 0, none⟩ 1 1 (I64 [(x : Int)]) rfl rfl (int_lit _ _) (I64_one _) hm3 hm4 (by simp; omega) ?_))
      intro v9 w9 hown9 hg9 _
      have HO9 := Lib.hid (show w9.ownsRow w.heap.size 3 1 v9 (k + 3) (I64 (NZ (trackV d))) by
        rw [HP2.out, I64_append]
        exact hown9)
      have HB9 := Lib.hid ((HB8.out.alloc HB8.out.size _).grown hg9 (by simp; omega) (fun p hp => own_ge HO8.out hp))
      clear hown9 hg9 HO8 HB8 HZ8
      obtain ⟨A9, c9, hv9, hl9, hz9⟩ := zs_of_own HO9.out
      subst hv9
      have HZ9 := Lib.hid hz9
      have HL9 := Lib.hid (show k + 3 = (trackV d).length by rw [hl9, NZ_len])
      have HC9 := Lib.hid (show 5 * (k + 3) = (charsL (trackV d)).length by rw [charsL_len, ← HL9.out])
      clear hz9 hl9
      have hb5 : 5 * (k + 3) ≤ 5000 := by omega
      have hk3 : k + 3 ≤ 2000 := by omega
      go_wp2_with (first | (go_at_call 25; refine (pbitsof_any (trackV d) (tv_lt HDG.out) (k + 3) HL9.out hk3 A9 c9 _ HZ9.out).mono ?_; rintro e w11 ⟨A11, c11, rfl, hvs, hb11⟩; replace HB9 := Lib.hid (HB9.out.trans (hb11.mono HB9.out.size)); clear hb11) | (go_at_call 24; refine (ppack_any (charsL (trackV d)) (5 * (k + 3)) HC9.out (by omega) A11 c11 _ hvs).mono ?_; rintro e w12 ⟨A12, c12, rfl, hbs, hb12⟩))
      go_ret2
      exact ⟨_, _, by rw [HPL.out]; rfl, hbs, HB9.out.trans (hb12.mono HB9.out.size)⟩
end Go.Proofs.YtaokhkbfiplfmaaGreatDoor
end
section
namespace Go.Proofs.YtaokhkbfiplfmaaGreatDoor
set_option linter.unusedVariables false
open Go.ChangeShapes Go.WideShapes Go.ChangeAt Go.RowKit

section
variable {P : Program} (w : World)
end
end Go.Proofs.YtaokhkbfiplfmaaGreatDoor
end
section
namespace Go.Proofs.YtaokhkbfiplfmaaGreatDoor
set_option linter.unusedVariables false
open Go.ChangeShapes Go.WideShapes Go.ChangeAt Go.RowKit

section
variable {P : Program} (w : World)
end
end Go.Proofs.YtaokhkbfiplfmaaGreatDoor
end
section
namespace Go.Proofs.YtaokhkbfiplfmaaGreatDoor
set_option linter.unusedVariables false
open Go.ChangeShapes Go.WideShapes Go.ChangeAt Go.RowKit
end Go.Proofs.YtaokhkbfiplfmaaGreatDoor
end
section
namespace Go.Proofs.YtaokhkbfiplfmaaGreatDoor
set_option linter.unusedVariables false
open Go.ChangeShapes Go.WideShapes Go.ChangeAt Go.RowKit
end Go.Proofs.YtaokhkbfiplfmaaGreatDoor
end
section
namespace Go.Proofs.YtaokhkbfiplfmaaGreatDoor
set_option linter.unusedVariables false
open Go.ChangeShapes Go.WideShapes Go.ChangeAt Go.RowKit
end Go.Proofs.YtaokhkbfiplfmaaGreatDoor
end
section
namespace Go.Proofs.YtaokhkbfiplfmaaGreatDoor
set_option linter.unusedVariables false
open Go.ChangeShapes Go.WideShapes Go.ChangeAt Go.RowKit

/-- The panic of a number. -/
def told (E : Int) : List PanicEntry := [{ v := .iface 32 (.int .i64 E), recovered := false }]
theorem Vs.grown {w w' : World} {X : Nat} {l : List Bool} {A : Option Addr} {c : Nat} (h : Vs w X l A c) (hX : X < w.heap.size) (hg : w.grownBy w' (some X)) : Vs w' X l A c := by
  refine ⟨fun k u hu => ?_, h.nil, h.len, h.cap⟩
  obtain ⟨ad, e, hlt, hc⟩ := h.rd k u hu
  refine ⟨ad, e, hlt, ?_⟩
  have hblk : w'.heap[(ad.add k).block]? = w.heap[(ad.add k).block]? := hg.block _ (by rw [add_block]; omega) (by rw [add_block]; simp; omega)
  exact (World.cell?_of_block hblk).trans hc
set_option linter.unusedVariables false
open Go.ChangeShapes Go.WideShapes Go.ChangeAt Go.RowKit

set_option linter.unusedVariables false
open Go.ChangeShapes Go.WideShapes Go.ChangeAt Go.RowKit

set_option linter.unusedVariables false
open Go.ChangeShapes Go.WideShapes Go.ChangeAt Go.RowKit
end Go.Proofs.YtaokhkbfiplfmaaGreatDoor
end
section
namespace Go.Proofs.YtaokhkbfiplfmaaGreatDoor
set_option linter.unusedVariables false
open Go.ChangeShapes Go.WideShapes Go.ChangeAt Go.RowKit

theorem bs_nil (w : World) (B : Nat) : Bs w B [] none 0 := ⟨by intro k u hu; simp [U8] at hu, fun _ => rfl, by simp, by omega, by simp⟩
theorem Vs.below {w w' : World} {B : Nat} {l : List Bool} {A : Option Addr} {c : Nat} (h : Vs w B l A c) (hb : Below B w w') : Vs w' B l A c := ⟨h.rd.below hb, h.nil, h.len, h.cap⟩
theorem Vs.more {w : World} {B B' : Nat} {l : List Bool} {A : Option Addr} {c : Nat} (h : Vs w B l A c) (hB : B ≤ B') : Vs w B' l A c := ⟨h.rd.more hB, h.nil, h.len, h.cap⟩
theorem Vs.take {w : World} {B : Nat} {l : List Bool} {A : Option Addr} {c : Nat} (h : Vs w B l A c) (k : Nat) (hk : k ≤ c) : Vs w B (l.take k) A c := by
  refine ⟨fun j u hu => h.rd j u ?_, h.nil, by rw [List.length_take]; omega, h.cap⟩
  rw [BL, List.map_take, List.getElem?_take] at hu
  split at hu
  · exact hu
  · cases hu
end Go.Proofs.YtaokhkbfiplfmaaGreatDoor
end
section
namespace Go.Proofs.YtaokhkbfiplfmaaGreatDoor
set_option linter.unusedVariables false
open Go.ChangeShapes Go.WideShapes Go.ChangeAt Go.RowKit
end Go.Proofs.YtaokhkbfiplfmaaGreatDoor
end
section
namespace Go.Proofs.YtaokhkbfiplfmaaGreatDoor
set_option linter.unusedVariables false
open Go.ChangeShapes Go.WideShapes Go.ChangeAt Go.RowKit

/-- Behind the digits: what Get answers. -/
def getD (b : List Nat) (l : List Bool) : Except Int (List Nat × Nat) → Except Int (List Nat)
  | .error e => .error e
  | .ok (out, i) => if 77 < out.length then .error 21 else if packL (l.take i) ≠ b then .error 14 else .ok out
end Go.Proofs.YtaokhkbfiplfmaaGreatDoor
end
