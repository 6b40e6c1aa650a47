/-
  Contract for schedule of package sha: sixteen words make just these sixty-four. Conditions: the words fit 32 bits.
-/
import Derived.Test.YtdpijlkhcagfaaaDoorShaMix
import Derived.Test.YtdpijlkhcagfaaaDoorShaBlock
import Derived.Test.YtdpijlkhcagfaaaDoorArr
namespace Go.Proofs.YtdpijlkhcagfaaaDoor
set_option linter.unusedVariables false
open Go.ChangeShapes Go.WideShapes Go.ChangeAt Go.RowKit

/-- The first k words, and zeros behind them. -/
def wlZ (w : List Nat) (k : Nat) : List Nat := wl w k ++ List.replicate (64 - k) 0
theorem length_wlZ (w : List Nat) (k : Nat) (h : k ≤ 64) : (wlZ w k).length = 64 := by simp [wlZ, length_wl]; omega
theorem wlZ_set (w : List Nat) (k : Nat) (h : k < 64) : (wlZ w k).set k (wNext w (wl w k) k) = wlZ w (k + 1) := by
  unfold wlZ
  rw [List.set_append_right _ _ (by rw [length_wl]; exact Nat.le_refl _), length_wl, Nat.sub_self, show 64 - k = (64 - (k + 1)) + 1 by omega, List.replicate_succ, List.set_cons_zero, wl]
  simp
theorem wlZ_at (w : List Nat) (k i : Nat) (h : i < k) : (wlZ w k).getD i 0 = (wl w k).getD i 0 := by
  unfold wlZ
  rw [List.getD_eq_getElem?_getD, List.getD_eq_getElem?_getD, List.getElem?_append_left (by rw [length_wl]; exact h)]
theorem wlZ_all (w : List Nat) : wlZ w 64 = wl w 64 := by simp [wlZ]

theorem three_made {w w' : World} {ca cb cc cd : Array Value} {ta tb tc : TypeId} (h : w' = (((w.alloc (.cells ca ta)).alloc (.cells cb tb)).alloc (.cells cc tc)).setRow (w.heap.size + 1 + 1) cd) :
    w'.heap.size = w.heap.size + 1 + 1 + 1 ∧ w'.heap[w.heap.size]? = some (.cells ca ta (0, 0)) ∧ w'.heap[w.heap.size + 1]? = some (.cells cb tb (0, 0)) ∧ w'.heap[w.heap.size + 1 + 1]? = some (.cells cd tc (0, 0)) ∧ Below w.heap.size w w' := by
  have h2 : (((w.alloc (.cells ca ta)).alloc (.cells cb tb)).alloc (.cells cc tc)).heap[w.heap.size + 1 + 1]? = some (.cells cc tc (0, 0)) := by
    have := heap_alloc_new ((w.alloc (.cells ca ta)).alloc (.cells cb tb)) (.cells cc tc)
    simpa using this
  subst h
  refine ⟨by simp, ?_, ?_, setRow_heap _ _ _ _ _ _ h2, ?_⟩
  · rw [setRow_other _ _ _ _ (by omega), Below.heap_alloc _ _ _ (by simp; omega), Below.heap_alloc _ _ _ (by simp), heap_alloc_new]
  · rw [setRow_other _ _ _ _ (by omega), Below.heap_alloc _ _ _ (by simp), heap_alloc2_new]
  · exact below_setRow ((((Below.refl _ _).alloc (Nat.le_refl _) _).alloc (by simp) _).alloc (by simp; omega) _) (by omega) _

theorem stirEarly_q (x : Nat) (w : World) (hx : x < 4294967296) :
    Calls Tryd.prog 36 #[.int .u32 x] w fun e w' => e = .returned (.int .u32 ((twoN x 7 18 8 : Nat) : Int)) ∧ w' = w := (stirEarly_any x w hx).mono fun _ _ ⟨a, b⟩ => ⟨a, b.symm⟩
theorem stirLate_q (x : Nat) (w : World) (hx : x < 4294967296) :
    Calls Tryd.prog 37 #[.int .u32 x] w fun e w' => e = .returned (.int .u32 ((twoN x 17 19 1024 : Nat) : Int)) ∧ w' = w := (stirLate_any x w hx).mono fun _ _ ⟨a, b⟩ => ⟨a, b.symm⟩
theorem info42 : (Tryd.prog.info? 44).map (·.size) = some 64 := by kernel_rfl
theorem sched_here {w : World} {A B C : Obj} : (((w.alloc A).alloc B).alloc C).heap[w.heap.size + 1 + 1]? = some C := by
  have := heap_alloc_new ((w.alloc A).alloc B) C
  simpa using this

set_option maxRecDepth 100000 in
set_option maxHeartbeats 1600000 in
theorem sched_any (x0 x1 x2 x3 x4 x5 x6 x7 x8 x9 x10 x11 x12 x13 x14 x15 : Nat) (w : World) (hx : ∀ x ∈ [x0, x1, x2, x3, x4, x5, x6, x7, x8, x9, x10, x11, x12, x13, x14, x15], x < 4294967296) :
    Calls Tryd.prog 22 #[agg16 x0 x1 x2 x3 x4 x5 x6 x7 x8 x9 x10 x11 x12 x13 x14 x15] w fun e w' => e = .returned (.agg (U32 (wl [x0, x1, x2, x3, x4, x5, x6, x7, x8, x9, x10, x11, x12, x13, x14, x15] 64)).toArray) ∧ Below w.heap.size w w' := by
  obtain ⟨xl, hxl⟩ : ∃ xl : List Nat, xl = [x0, x1, x2, x3, x4, x5, x6, x7, x8, x9, x10, x11, x12, x13, x14, x15] := ⟨_, rfl⟩
  rw [← hxl] at hx ⊢
  have hlen : xl.length = 16 := by rw [hxl]; rfl
  have HXL := Lib.hid hxl
  have HX := Lib.hid hx
  have HLEN := Lib.hid hlen
  clear hx hxl hlen
  unfold agg16
  go_enter Tryd.func22, Tryd.ntmps22
  go_wp2_with ((with_reducible refine at_store 3 ?_); refine wpList_store_named (o := ⟨none, .store 44 (.tmp 3) (.tmp 5), _, _, _, _⟩) rfl 44 (.tmp 3) (.tmp 5) rfl (w.heap.size + 1 + 1) z64 rfl rfl 44 z64 sched_here info42 rfl (all_one32 (List.replicate 64 0)) ?_; intro w0 hw0)
  obtain ⟨hs0, hbl0, hbl1, hbl2, hb0⟩ := three_made hw0.out
  clear hw0
  have hbl2' : w0.heap[w.heap.size + 1 + 1]? = some (.cells (U32 (wlZ xl 0)).toArray 44 (0, 0)) := hbl2
  have hbl0' : w0.heap[w.heap.size]? = some (.cells (U32 xl).toArray 24 (0, 0)) := by rw [HXL.out]; exact hbl0
  have HS0 := Lib.hid hs0
  have HB2 := Lib.hid hbl2'
  have HB1 := Lib.hid hbl1
  have HB0 := Lib.hid hbl0'
  clear hs0 hbl0 hbl1 hbl2 hbl2' hbl0'
  go_loopw [6] (fun i wr => ∃ k : Nat, k ≤ 64 ∧ i = .int .i64 k ∧ wr.heap[w.heap.size + 1 + 1]? = some (.cells (U32 (wlZ xl k)).toArray 44 (0, 0)) ∧ Below (w.heap.size + 1 + 1) w0 wr) (fun i _ => 64 - (intOf i).toNat)
  case atStart => exact ⟨0, Nat.zero_le _, rfl, HB2.out, Below.refl _ _⟩
  case round =>
    obtain ⟨k, hk, rfl, hv, hbel⟩ := hrel
    by_cases hlt : k < 64
    · have hfz := frozen_of_row wr _ k _ _ hv
      have hset := heap_setCell_same wr _ k _ 44 (.int .u32 ((wNext xl (wl xl k) k : Nat) : Int)) hv
      have hst : (U32 (wlZ xl k)).toArray.setIfInBounds k (.int .u32 ((wNext xl (wl xl k) k : Nat) : Int)) = (U32 (wlZ xl (k + 1))).toArray := by
        rw [List.setIfInBounds_toArray, ← wlZ_set xl k hlt, U32, U32, List.map_set]
      rw [hst] at hset
      have HSET := Lib.hid hset
      have hcur : wr.cell? ⟨w.heap.size + 1 + 1, k, none⟩ = some (.int .u32 (((wlZ xl k).getD k 0 : Nat) : Int)) := by
        rw [cell_of_row wr _ k _ _ (0, 0) hv, List.getElem?_toArray, U32_getD _ k (by rw [length_wlZ xl k hk]; exact hlt)]
      clear hset hst
      have bk0 : (0 : Int) ≤ (k : Int) := Int.natCast_nonneg _
      have bk1 : (k : Int) < 64 := by omega
      by_cases h16 : k < 16
      · have hc : wr.cell? ⟨w.heap.size, k, none⟩ = some (.int .u32 ((xl.getD k 0 : Nat) : Int)) := by
          rw [cell_of_row wr _ k _ _ (0, 0) ((hbel.block _ (by omega)).trans HB0.out), List.getElem?_toArray, U32_getD xl k (by rw [HLEN.out]; exact h16)]
        have hnx : wNext xl (wl xl k) k = xl.getD k 0 := by unfold wNext; rw [if_pos h16]
        rw [hnx] at HSET
        have bk2 : (k : Int) < 16 := by omega
        generalize (wlZ xl k).getD k 0 = z at *
        generalize xl.getD k 0 = y at *
        have HV := Lib.hid hv
        clear hv hnx
        go_wp2
        go_roundw
        case rel => exact ⟨k + 1, by omega, by go_num, HSET.out, hbel.setCell (Nat.le_refl _) _⟩
        case measure => simp [intOf]; omega
      · have hcs : ∀ i, i < k → wr.cell? ⟨w.heap.size + 1 + 1, i, none⟩ = some (.int .u32 (((wl xl k).getD i 0 : Nat) : Int)) := by
          intro i hi
          rw [cell_of_row wr _ i _ _ (0, 0) hv, List.getElem?_toArray, U32_getD _ i (by rw [length_wlZ xl k hk]; omega), wlZ_at xl k i hi]
        have hc1 := hcs (k - 16) (by omega)
        have hc2 := hcs (k - 15) (by omega)
        have hc3 := hcs (k - 7) (by omega)
        have hc4 := hcs (k - 2) (by omega)
        clear hcs
        have hy1 := getD_lt (wl_lt xl HX.out k) (k - 16)
        have hy2 := getD_lt (wl_lt xl HX.out k) (k - 15)
        have hy3 := getD_lt (wl_lt xl HX.out k) (k - 7)
        have hy4 := getD_lt (wl_lt xl HX.out k) (k - 2)
        have hnx : wNext xl (wl xl k) k = ((wl xl k).getD (k - 16) 0 + twoN ((wl xl k).getD (k - 15) 0) 7 18 8 + (wl xl k).getD (k - 7) 0 + twoN ((wl xl k).getD (k - 2) 0) 17 19 1024) % 4294967296 := by rw [wNext, if_neg h16]
        rw [hnx] at HSET
        clear hnx
        generalize (wl xl k).getD (k - 16) 0 = y1 at *
        generalize (wl xl k).getD (k - 15) 0 = y2 at *
        generalize (wl xl k).getD (k - 7) 0 = y3 at *
        generalize (wl xl k).getD (k - 2) 0 = y4 at *
        generalize (wlZ xl k).getD k 0 = z at *
        have h16' : 16 ≤ k := by omega
        have h15' : (15 : Int) ≤ (k : Int) := by omega
        have h7' : (7 : Int) ≤ (k : Int) := by omega
        have h2' : (2 : Int) ≤ (k : Int) := by omega
        have b1 : (0 : Int) ≤ (k : Int) - 16 := by omega
        have b1' : (k : Int) - 16 < 64 := by omega
        have b2 : (0 : Int) ≤ (k : Int) - 15 := by omega
        have b2' : (k : Int) - 15 < 64 := by omega
        have b3 : (0 : Int) ≤ (k : Int) - 7 := by omega
        have b3' : (k : Int) - 7 < 64 := by omega
        have b4 : (0 : Int) ≤ (k : Int) - 2 := by omega
        have b4' : (k : Int) - 2 < 64 := by omega
        have e1 : ((k : Int) - 16).toNat = k - 16 := by omega
        have e2 : ((k : Int) - 15).toNat = k - 15 := by omega
        have e3 : ((k : Int) - 7).toNat = k - 7 := by omega
        have e4 : ((k : Int) - 2).toNat = k - 2 := by omega
        have f1 : IntKind.i64.wrap ((k : Int) - 16) = (k : Int) - 16 := IntWalk.i64_in _ (by omega)
        have f2 : IntKind.i64.wrap ((k : Int) - 15) = (k : Int) - 15 := IntWalk.i64_in _ (by omega)
        have f3 : IntKind.i64.wrap ((k : Int) - 7) = (k : Int) - 7 := IntWalk.i64_in _ (by omega)
        have f4 : IntKind.i64.wrap ((k : Int) - 2) = (k : Int) - 2 := IntWalk.i64_in _ (by omega)
        have HV := Lib.hid hv
        clear hv
        go_wp2
        refine wp_region_still_tail 23 (by kernel_rfl) (by kernel_rfl) ?_
        simp only [List.take_succ_cons, List.take_zero, List.drop_succ_cons, List.drop_zero]
        repeat still_step
        still_call (stirEarly_q _ _ (by assumption))
        repeat still_step
        still_call (stirLate_q _ _ (by assumption))
        repeat still_step
        refine wpStill_nil ?_
        change wpList _ _ _ _ _ wr.drew
        clear e1 e2 e3 e4 f1 f2 f3 f4
        go_wp2
        go_roundw
        case rel =>
          refine ⟨k + 1, by omega, by go_num, ?_, (hbel.setCell (Nat.le_refl _) _).drew⟩
          have e : ((y1 : Int) + (twoN y2 7 18 8 : Nat) + (y3 : Int) + (twoN y4 17 19 1024 : Nat)) % 4294967296 = (((y1 + twoN y2 7 18 8 + y3 + twoN y4 17 19 1024) % 4294967296 : Nat) : Int) := by omega
          rw [e]
          exact HSET.out
        case measure => simp [intOf]; omega
    · have k64 : k = 64 := by omega
      subst k64
      have hbr : wr.heap[w.heap.size + 1]? = some (.cells z64 44 (0, 0)) := (hbel.block _ (by omega)).trans HB1.out
      rw [wlZ_all] at hv
      obtain ⟨fin, hfin⟩ : ∃ fin : Array Value, fin = (U32 (wl xl 64)).toArray := ⟨_, rfl⟩
      have hsz : fin.size = 64 := by rw [hfin]; simp [U32, length_wl]
      have hone : fin.all (·.oneCell') = true := by rw [hfin]; exact all_one32 _
      have hin : (Tryd.prog.info? 44).map (·.size) = some fin.size := by rw [hsz]; exact info42
      rw [← hfin] at hv
      have HFIN := Lib.hid hfin
      have HV := Lib.hid hv
      have HBR := Lib.hid hbr
      have HSZ := Lib.hid hsz
      have HONE := Lib.hid hone
      have HIN := Lib.hid hin
      clear hv hbr hsz hfin hone hin
      go_wp2_with (first
        | ((with_reducible refine at_load 40 ?_); refine wpList_load_row (o := ⟨some 40, .load 44 (.tmp 3), _, _, _, _⟩) rfl 44 (.tmp 3) rfl (w.heap.size + 1 + 1) rfl 44 fin (0, 0) _ HV.out Tryd.underlying44 rfl HIN.out ?_)
        | ((with_reducible refine at_store 2 ?_); refine wpList_store_named (o := ⟨none, .store 44 (.tmp 2) (.tmp 40), _, _, _, _⟩) rfl 44 (.tmp 2) (.tmp 40) rfl (w.heap.size + 1) fin rfl rfl 44 z64 HBR.out HIN.out HSZ.out.symm HONE.out ?_; intro w1 hw1))
      have hr1 : w1.heap[w.heap.size + 1]? = some (.cells fin 44 (0, 0)) := by rw [hw1.out]; exact setRow_heap _ _ _ _ _ _ HBR.out
      refine bodyPost_ret (results_cell_row Tryd.results22 _ w1 (w.heap.size + 1) 44 _ (0, 0) _ rfl hr1 Tryd.underlying44 rfl HIN.out) rfl ⟨by rw [HFIN.out], ?_⟩
      have h1 : Below w.heap.size w0 wr := hbel.mono (by omega)
      exact (hb0.trans (h1.mono (by omega))).trans (below_row hw1.out (by omega))
end Go.Proofs.YtdpijlkhcagfaaaDoor
