/-
  Contract for digest of package sha: the thirty-two bytes of eight words. Conditions: the words fit 32 bits.
-/
import Derived.Test.YtdpijlkhcagfaaaDoorShaPWords
namespace Go.Proofs.YtdpijlkhcagfaaaDoor
set_option linter.unusedVariables false
open Go.ChangeShapes Go.WideShapes Go.ChangeAt Go.RowKit

theorem row_spliced8 {w3 : World} {g : Nat} {W : List Nat} {t : TypeId} (h : w3.heap[g]? = some (.cells (splice b32.toList 0 (U8 W)).toArray t (0, 0))) (hW : W.length = 32) : w3.heap[g]? = some (.cells (U8 W).toArray t (0, 0)) := by
  rw [splice_all _ _ (by rw [U8, List.length_map, hW]; rfl)] at h
  exact h

set_option maxRecDepth 100000 in
set_option maxHeartbeats 800000 in
theorem digest_any (h : St) (w : World) (hh : h.ok) :
    Calls Tryd.prog 32 #[h.val] w fun e w' => e = .returned (.agg (U8 (bytesOf h.list)).toArray) ∧ Below w.heap.size w w' := by
  obtain ⟨W, hWE⟩ : ∃ W, W = bytesOf h.list := ⟨_, rfl⟩
  have hW : W.length = 32 := by rw [hWE, length_bytesOf]; rfl
  have hsz : (U8 W).toArray.size = 32 := by simp [U8, hW]
  have hin : (Tryd.prog.info? 36).map (·.size) = some (U8 W).toArray.size := by rw [hsz]; exact info32
  rw [← hWE]
  have HWE := Lib.hid hWE
  have HW := Lib.hid hW
  have HSZ := Lib.hid hsz
  have HIN := Lib.hid hin
  clear hWE hW hsz hin
  unfold St.val
  go_enter Tryd.func32, Tryd.ntmps32
  go_wp2_with ((with_reducible refine at_store 3 ?_); refine wpList_store_named (o := ⟨none, .store 36 (.tmp 3) (.tmp 4), _, _, _, _⟩) rfl 36 (.tmp 3) (.tmp 4) rfl (w.heap.size + 1 + 1) b32 rfl rfl 36 b32 sched_here info32 rfl (all_one8 (List.replicate 32 0)) ?_; intro w0 hw0)
  obtain ⟨hs0, hbl0, hbl1, hbl2, hb0⟩ := three_made hw0.out
  clear hw0
  have HS0 := Lib.hid hs0
  have HB0 := Lib.hid hbl0
  have HB1 := Lib.hid hbl1
  have HB2 := Lib.hid hbl2
  clear hs0 hbl0 hbl1 hbl2
  have hrd : Rd w0.drew w0.drew.heap.size (some ⟨w.heap.size, 0, none⟩) (U32 h.list) := by
    intro k u hu
    refine ⟨_, rfl, by show w.heap.size < w0.heap.size; rw [HS0.out]; omega, ?_⟩
    have h0 : w0.drew.heap[w.heap.size]? = some (.cells (U32 h.list).toArray 23 (0, 0)) := HB0.out
    rw [at_add, cell_of_row w0.drew _ k _ _ (0, 0) h0]
    simpa using hu
  have HRD := Lib.hid hrd
  have HB := Lib.hid hb0
  clear hrd hb0
  go_region_held3 (fun _ => True) (trivial) (first
    | (refine step_copy_splice (o := ⟨some 8, _, _, _, _, _⟩) (by rfl) (.tmp 5) (.tmp 7) 28 28 (by rfl) 5 Tryd.underlying28 sizeU8 (some ⟨w.heap.size + 1 + 1, 0, none⟩) (some ⟨g1, 0, none⟩) 32 32 32 c1 (by rfl) (by rfl) (w.heap.size + 1 + 1) 0 b32.toList 36 H12.out (U8 W) ((U8_length W).trans HW.out) (fun _ => ⟨rfl, _, rfl, own_cells HO.out (Below.refl _ _)⟩) (Nat.le_of_eq ((congrArg (0 + ·) (U8_length W)).trans (by rw [HW.out]; rfl))) (U8_one W) (w.heap.size + 1 + 1) w1 (Below.refl _ _) (Nat.le_refl _) ?_; intro w3 hw3 hb3)
    | (go_at_call 16; refine (bytes_len h.list 8 rfl (some ⟨w.heap.size, 0, none⟩) 8 w0.drew HRD.out (St.list_lt hh) (by omega)).mono ?_; rintro e w1 ⟨g1, c1, rfl, hown1, hb1⟩; rw [← HWE.out] at hown1; have hs1 : w.heap.size + 1 + 1 + 1 ≤ w1.heap.size := (by have h7 := hb1.size; have h8 := HS0.out; have h9 : w0.drew.heap.size = w0.heap.size := rfl; omega); have H11 := Lib.hid ((hb1.block (w.heap.size + 1) (by show _ < w0.heap.size; rw [HS0.out]; omega)).trans HB1.out); have H12 := Lib.hid ((hb1.block (w.heap.size + 1 + 1) (by show _ < w0.heap.size; rw [HS0.out]; omega)).trans HB2.out); have hb01 : Below w.heap.size w w1 := HB.out.drew.trans (hb1.mono HB.out.size); have HO := Lib.hid hown1; clear hown1 hb1))
  go_wp2_with (first
    | ((with_reducible refine at_load 9 ?_); have hw3' := row_spliced8 hw3.out HW.out; refine wpList_load_row (o := ⟨some 9, .load 36 (.tmp 3), _, _, _, _⟩) rfl 36 (.tmp 3) rfl (w.heap.size + 1 + 1) rfl 36 (U8 W).toArray (0, 0) _ hw3' Tryd.underlying36 rfl (HIN.out) ?_; clear hw3')
    | ((with_reducible refine at_store 2 ?_); refine wpList_store_named (o := ⟨none, .store 36 (.tmp 2) (.tmp 9), _, _, _, _⟩) rfl 36 (.tmp 2) (.tmp 9) rfl (w.heap.size + 1) (U8 W).toArray rfl rfl 36 b32 ((hb3.block _ (by omega)).trans H11.out) HIN.out HSZ.out.symm (all_one8 W) ?_; intro w4 hw4))
  have hr4 : w4.heap[w.heap.size + 1]? = some (.cells (U8 W).toArray 36 (0, 0)) := by
    rw [hw4.out]; exact setRow_heap _ _ _ _ _ _ ((hb3.block _ (by omega)).trans H11.out)
  refine bodyPost_ret (results_cell_row Tryd.results32 _ w4 (w.heap.size + 1) 36 _ (0, 0) _ rfl hr4 Tryd.underlying36 rfl HIN.out) rfl ⟨rfl, ?_⟩
  exact (hb01.trans (hb3.mono (by omega))).trans (below_row hw4.out (by omega))
end Go.Proofs.YtdpijlkhcagfaaaDoor
