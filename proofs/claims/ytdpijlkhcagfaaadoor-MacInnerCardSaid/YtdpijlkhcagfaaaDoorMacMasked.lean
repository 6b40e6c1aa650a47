/-
  Contract for masked of package mac: each byte of a block by exclusive or with a mask. Conditions: the bytes fit 8 bits.
-/
import Derived.Test.YtdpijlkhcagfaaaDoorMacMath
import Derived.Test.YtdpijlkhcagfaaaDoorArr
namespace Go.Proofs.YtdpijlkhcagfaaaDoor
set_option linter.unusedVariables false
open Go.ChangeShapes Go.WideShapes Go.ChangeAt Go.RowKit

def b64 : Array Value := #[.int .u8 0, .int .u8 0, .int .u8 0, .int .u8 0, .int .u8 0, .int .u8 0, .int .u8 0, .int .u8 0, .int .u8 0, .int .u8 0, .int .u8 0, .int .u8 0, .int .u8 0, .int .u8 0, .int .u8 0, .int .u8 0, .int .u8 0, .int .u8 0, .int .u8 0, .int .u8 0, .int .u8 0, .int .u8 0, .int .u8 0, .int .u8 0, .int .u8 0, .int .u8 0, .int .u8 0, .int .u8 0, .int .u8 0, .int .u8 0, .int .u8 0, .int .u8 0, .int .u8 0, .int .u8 0, .int .u8 0, .int .u8 0, .int .u8 0, .int .u8 0, .int .u8 0, .int .u8 0, .int .u8 0, .int .u8 0, .int .u8 0, .int .u8 0, .int .u8 0, .int .u8 0, .int .u8 0, .int .u8 0, .int .u8 0, .int .u8 0, .int .u8 0, .int .u8 0, .int .u8 0, .int .u8 0, .int .u8 0, .int .u8 0, .int .u8 0, .int .u8 0, .int .u8 0, .int .u8 0, .int .u8 0, .int .u8 0, .int .u8 0, .int .u8 0]
theorem b64_eq : b64 = (U8 (List.replicate 64 0)).toArray := rfl
theorem info64 : (Tryd.prog.info? 41).map (·.size) = some 64 := by kernel_rfl
theorem U8_getD (l : List Nat) (k : Nat) (h : k < l.length) : (U8 l)[k]? = some (.int .u8 ((l.getD k 0 : Nat) : Int)) := by
  rw [U8_at l k h, List.getD_eq_getElem?_getD, List.getElem?_eq_getElem h]; rfl
/-- A byte of a row of bytes. -/
theorem cell_u8 {w : World} {g : Nat} {l : List Nat} {t : TypeId} (h : w.heap[g]? = some (.cells (U8 l).toArray t (0, 0))) (k : Nat) (hk : k < l.length) : w.cell? ⟨g, k, none⟩ = some (.int .u8 ((l.getD k 0 : Nat) : Int)) := by
  rw [cell_of_row w g k _ _ (0, 0) h, List.getElem?_toArray, U8_getD l k hk]

set_option maxRecDepth 100000 in
set_option maxHeartbeats 800000 in
theorem masked_any (K : List Nat) (m : Nat) (w : World) (hK : ∀ x ∈ K, x < 256) (hl : K.length = 64) (hm : m < 256) :
    Calls Tryd.prog 34 #[.agg (U8 K).toArray, .int .u8 m] w fun e w' => e = .returned (.agg (U8 (maskN K m)).toArray) ∧ Below w.heap.size w w' := by
  obtain ⟨X, hX⟩ : ∃ X : Array Value, X = (U8 K).toArray := ⟨_, rfl⟩
  obtain ⟨w0, hw0⟩ : ∃ w0 : World, w0 = (w.alloc (.cells X 41)).alloc (.cells b64 41) := ⟨_, rfl⟩
  rw [← hX]
  obtain ⟨hs0, hx0, hr0, hb0⟩ := two_made hw0
  rw [hX] at hx0
  have HX0 := Lib.hid hx0
  have HR0 := Lib.hid hr0
  have HK := Lib.hid hK
  have HL := Lib.hid hl
  have HW := Lib.hid hw0
  have HS := Lib.hid hs0
  clear hX hw0 hx0 hr0 hK hl hs0
  go_enter Tryd.func34, Tryd.ntmps34
  go_wp2_with fail
  have e0 : (w.alloc (.cells X 41)).alloc (.cells b64 41) = w0 := HW.out.symm
  unfold b64 at e0
  rw [e0]
  clear e0
  go_loopw [5, 6] (fun _ i wr => ∃ k : Nat, k ≤ 64 ∧ i = .int .i64 k ∧ wr.heap[w.heap.size]? = some (.cells (U8 (maskTo K m k)).toArray 41 (0, 0)) ∧ wr.heap[w.heap.size + 1]? = some (.cells b64 41 (0, 0)) ∧ Below w.heap.size w wr) (fun _ i _ => 64 - (intOf i).toNat)
  case atStart => exact ⟨0, Nat.zero_le _, rfl, by rw [maskTo_zero]; exact HX0.out, HR0.out, hb0⟩
  case round =>
    obtain ⟨k, hk, rfl, hv, hr, hbel⟩ := hrel
    by_cases hlt : k < 64
    · have hkl : k < K.length := by rw [HL.out]; exact hlt
      have hfz := frozen_of_row wr _ k _ _ hv
      have hcur := cell_u8 hv k (by rw [length_maskTo]; exact hkl)
      rw [maskTo_get] at hcur
      have hset := heap_setCell_same wr _ k _ 41 (.int .u8 ((K.getD k 0 ^^^ m : Nat) : Int)) hv
      have hst : (U8 (maskTo K m k)).toArray.setIfInBounds k (.int .u8 ((K.getD k 0 ^^^ m : Nat) : Int)) = (U8 (maskTo K m (k + 1))).toArray := by
        rw [List.setIfInBounds_toArray, ← maskTo_set K m k hkl, U8, U8, List.map_set]
      rw [hst] at hset
      have HSET := Lib.hid hset
      have HR := Lib.hid ((heap_setCell_other wr ⟨w.heap.size, k, none⟩ (w.heap.size + 1) (.int .u8 ((K.getD k 0 ^^^ m : Nat) : Int)) (by show w.heap.size + 1 ≠ w.heap.size; omega)).trans hr)
      have hx8 := getD_lt8 HK.out k
      have hxor := u8_xor_nat (K.getD k 0) m hx8 hm
      have bk0 : (0 : Int) ≤ (k : Int) := Int.natCast_nonneg _
      have bk1 : (k : Int) < 64 := by omega
      clear hset hst hv hr
      generalize K.getD k 0 = y at *
      go_wp2
      go_roundw
      case rel => exact ⟨k + 1, by omega, by go_num, HSET.out, HR.out, hbel.setCell (Nat.le_refl _) _⟩
      case measure => simp [intOf]; omega
    · have k64 : k = 64 := by omega
      subst k64
      have hall : maskTo K m 64 = maskN K m := by rw [← HL.out]; exact maskTo_all K m
      rw [hall] at hv
      obtain ⟨F, hF⟩ : ∃ F : Array Value, F = (U8 (maskN K m)).toArray := ⟨_, rfl⟩
      rw [← hF] at hv
      have hsz : F.size = 64 := by rw [hF]; simp [U8, length_maskN, HL.out]
      have hin : (Tryd.prog.info? 41).map (·.size) = some F.size := by rw [hsz]; exact info64
      have hone : F.all (·.oneCell') = true := by rw [hF]; exact all_one8 _
      have HF := Lib.hid hF
      have HV := Lib.hid hv
      have HR := Lib.hid hr
      have HSZ := Lib.hid hsz
      have HIN := Lib.hid hin
      have HONE := Lib.hid hone
      clear hF hv hr hsz hin hone hall
      go_wp2_with (first
        | ((with_reducible refine at_load 16 ?_); refine wpList_load_row (o := ⟨some 16, .load 41 (.tmp 2), _, _, _, _⟩) rfl 41 (.tmp 2) rfl w.heap.size rfl 41 F (0, 0) _ HV.out Tryd.underlying41 rfl HIN.out ?_)
        | ((with_reducible refine at_store 4 ?_); refine wpList_store_named (o := ⟨none, .store 41 (.tmp 4) (.tmp 16), _, _, _, _⟩) rfl 41 (.tmp 4) (.tmp 16) rfl (w.heap.size + 1) F rfl rfl 41 b64 HR.out HIN.out HSZ.out.symm HONE.out ?_; intro w1 hw1))
      have hr1 : w1.heap[w.heap.size + 1]? = some (.cells F 41 (0, 0)) := by rw [hw1.out]; exact setRow_heap _ _ _ _ _ _ HR.out
      refine bodyPost_ret (results_cell_row Tryd.results34 _ w1 (w.heap.size + 1) 41 _ (0, 0) _ rfl hr1 Tryd.underlying41 rfl HIN.out) rfl ⟨by rw [HF.out], ?_⟩
      exact hbel.trans (below_row hw1.out (by omega))
end Go.Proofs.YtdpijlkhcagfaaaDoor
