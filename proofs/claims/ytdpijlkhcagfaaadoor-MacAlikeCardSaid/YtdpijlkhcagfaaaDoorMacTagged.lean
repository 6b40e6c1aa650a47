/-
  Contract for the laws' own check of layer 3 (tagged): a tag that is known. Conditions: the package's tables hold what its text lays.
-/
import Derived.Test.YtdpijlkhcagfaaaDoorMacTag
import Derived.Lib.SmallJoins
namespace Go.Proofs.YtdpijlkhcagfaaaDoor
set_option linter.unusedVariables false
open Go.ChangeShapes Go.WideShapes Go.ChangeAt Go.RowKit

def jefe : List Nat := [74, 101, 102, 101]
def whatB : List Nat := [119, 104, 97, 116, 32, 100, 111, 32, 121, 97, 32, 119, 97, 110, 116, 32, 102, 111, 114, 32, 110, 111, 116, 104, 105, 110, 103, 63]
def jefeIn : List Nat := [124, 83, 80, 83, 54, 54, 54, 54, 54, 54, 54, 54, 54, 54, 54, 54, 54, 54, 54, 54, 54, 54, 54, 54, 54, 54, 54, 54, 54, 54, 54, 54, 54, 54, 54, 54, 54, 54, 54, 54, 54, 54, 54, 54, 54, 54, 54, 54, 54, 54, 54, 54, 54, 54, 54, 54, 54, 54, 54, 54, 54, 54, 54, 54, 119, 104, 97, 116, 32, 100, 111, 32, 121, 97, 32, 119, 97, 110, 116, 32, 102, 111, 114, 32, 110, 111, 116, 104, 105, 110, 103, 63]
def jefeD : List Nat := [162, 228, 133, 134, 61, 39, 249, 216, 100, 172, 141, 128, 36, 50, 161, 237, 71, 125, 140, 76, 111, 52, 157, 22, 212, 231, 233, 23, 198, 41, 202, 215]
def jefeOut : List Nat := [22, 57, 58, 57, 92, 92, 92, 92, 92, 92, 92, 92, 92, 92, 92, 92, 92, 92, 92, 92, 92, 92, 92, 92, 92, 92, 92, 92, 92, 92, 92, 92, 92, 92, 92, 92, 92, 92, 92, 92, 92, 92, 92, 92, 92, 92, 92, 92, 92, 92, 92, 92, 92, 92, 92, 92, 92, 92, 92, 92, 92, 92, 92, 92, 162, 228, 133, 134, 61, 39, 249, 216, 100, 172, 141, 128, 36, 50, 161, 237, 71, 125, 140, 76, 111, 52, 157, 22, 212, 231, 233, 23, 198, 41, 202, 215]
def jefeT : List Nat := [91, 220, 193, 70, 191, 96, 117, 78, 106, 4, 36, 38, 8, 149, 117, 199, 90, 0, 63, 8, 157, 39, 57, 131, 157, 236, 88, 185, 100, 236, 56, 67]
theorem jefe_in : maskN (blockM jefe) 54 ++ whatB = jefeIn := by kernel_rfl
theorem jefe_d : digestN jefeIn = jefeD := by rw [digestF_eq _ (by decide)]; kernel_rfl
theorem jefe_out : maskN (blockM jefe) 92 ++ jefeD = jefeOut := by kernel_rfl
theorem jefe_t : digestN jefeOut = jefeT := by rw [digestF_eq _ (by decide)]; kernel_rfl
theorem jefe_tag : tagN jefe whatB = jefeT := by rw [tagN, jefe_in, jefe_d, jefe_out, jefe_t]
def tagV : Array Value := #[.int .u8 91, .int .u8 220, .int .u8 193, .int .u8 70, .int .u8 191, .int .u8 96, .int .u8 117, .int .u8 78, .int .u8 106, .int .u8 4, .int .u8 36, .int .u8 38, .int .u8 8, .int .u8 149, .int .u8 117, .int .u8 199, .int .u8 90, .int .u8 0, .int .u8 63, .int .u8 8, .int .u8 157, .int .u8 39, .int .u8 57, .int .u8 131, .int .u8 157, .int .u8 236, .int .u8 88, .int .u8 185, .int .u8 100, .int .u8 236, .int .u8 56, .int .u8 67]
theorem tagV_eq : (U8 jefeT).toArray = tagV := rfl
def keyV : Array Value := #[.int .u8 74, .int .u8 101, .int .u8 102, .int .u8 101, .int .u8 0, .int .u8 0, .int .u8 0, .int .u8 0, .int .u8 0, .int .u8 0, .int .u8 0, .int .u8 0, .int .u8 0, .int .u8 0, .int .u8 0, .int .u8 0, .int .u8 0, .int .u8 0, .int .u8 0, .int .u8 0, .int .u8 0, .int .u8 0, .int .u8 0, .int .u8 0, .int .u8 0, .int .u8 0, .int .u8 0, .int .u8 0, .int .u8 0, .int .u8 0, .int .u8 0, .int .u8 0, .int .u8 0, .int .u8 0, .int .u8 0, .int .u8 0, .int .u8 0, .int .u8 0, .int .u8 0, .int .u8 0, .int .u8 0, .int .u8 0, .int .u8 0, .int .u8 0, .int .u8 0, .int .u8 0, .int .u8 0, .int .u8 0, .int .u8 0, .int .u8 0, .int .u8 0, .int .u8 0, .int .u8 0, .int .u8 0, .int .u8 0, .int .u8 0, .int .u8 0, .int .u8 0, .int .u8 0, .int .u8 0, .int .u8 0, .int .u8 0, .int .u8 0, .int .u8 0]
theorem keyV_eq : (U8 (blockM jefe)).toArray = keyV := by kernel_rfl

theorem key_cells {w : World} {g : Nat} {t : TypeId} (h : w.heap[g]? = some (.cells keyV t (0, 0))) : w.cell? ⟨g, 0, none⟩ = some (.int .u8 74) ∧ w.cell? ⟨g, 63, none⟩ = some (.int .u8 0) := by
  constructor
  · rw [cell_of_row w g 0 _ _ (0, 0) h]; rfl
  · rw [cell_of_row w g 63 _ _ (0, 0) h]; rfl
theorem mark2 (w : World) (a b : Array Value) (t : TypeId) (fa fb : Nat × Nat) : Rd ((w.alloc (.cells a t fa)).alloc (.cells b t fb)) ((w.alloc (.cells a t fa)).alloc (.cells b t fb)).heap.size (some ⟨w.heap.size, 0, none⟩) a.toList ∧
    Rd ((w.alloc (.cells a t fa)).alloc (.cells b t fb)) ((w.alloc (.cells a t fa)).alloc (.cells b t fb)).heap.size (some ⟨w.heap.size + 1, 0, none⟩) b.toList ∧ Below w.heap.size w ((w.alloc (.cells a t fa)).alloc (.cells b t fb)) := by
  have h1 := rd_lit_mark w a t fa
  have h2 := rd_lit_mark (w.alloc (.cells a t fa)) b t fb
  have e : (w.alloc (.cells a t fa)).heap.size = w.heap.size + 1 := by simp
  refine ⟨h1.next ((Below.refl _ _).alloc (Nat.le_refl _) _), ?_, ((Below.refl _ _).alloc (Nat.le_refl _) _).alloc (by simp) _⟩
  rw [e] at h2
  exact h2

set_option maxRecDepth 100000 in
theorem tagged_any (w : World) (hT : Tabs w) : Calls Tryd.prog 17 #[] w fun e w' => e = .returned (.bool true) ∧ Below w.heap.size w w' := by
  have HT := Lib.hid hT
  have hcv := Joins.run_convert_bytes_const_at (P := Tryd.prog) w 28 5 #[.int .u8 74, .int .u8 101, .int .u8 102, .int .u8 101] 4 4 w.heap.size rfl Tryd.underlying28 Tryd.underlying5
  have hcv2 := Joins.run_convert_bytes_const_at (P := Tryd.prog) (w.alloc (.cells #[.int .u8 74, .int .u8 101, .int .u8 102, .int .u8 101] 5 (4, 5))) 28 5 #[.int .u8 119, .int .u8 104, .int .u8 97, .int .u8 116, .int .u8 32, .int .u8 100, .int .u8 111, .int .u8 32, .int .u8 121, .int .u8 97, .int .u8 32, .int .u8 119, .int .u8 97, .int .u8 110, .int .u8 116, .int .u8 32, .int .u8 102, .int .u8 111, .int .u8 114, .int .u8 32, .int .u8 110, .int .u8 111, .int .u8 116, .int .u8 104, .int .u8 105, .int .u8 110, .int .u8 103, .int .u8 63] 28 28 (w.heap.size + 1) (by simp) Tryd.underlying28 Tryd.underlying5
  have heq : ∀ w, (Op.equalIn 10000 36 (.agg tagV) (.agg #[.int .u8 91, .int .u8 220, .int .u8 193, .int .u8 70, .int .u8 191, .int .u8 96, .int .u8 117, .int .u8 78, .int .u8 106, .int .u8 4, .int .u8 36, .int .u8 38, .int .u8 8, .int .u8 149, .int .u8 117, .int .u8 199, .int .u8 90, .int .u8 0, .int .u8 63, .int .u8 8, .int .u8 157, .int .u8 39, .int .u8 57, .int .u8 131, .int .u8 157, .int .u8 236, .int .u8 88, .int .u8 185, .int .u8 100, .int .u8 236, .int .u8 56, .int .u8 67])).run Tryd.prog w = .ok true w := fun w => run_equalIn_same w 9998 36 5 32 .u8 .u8 Tryd.underlying36 Tryd.underlying5 sizeRunU8 (jefeT.map fun x : Nat => (x : Int)) rfl
  have HT32 := Lib.hid (isArr32 (l := jefeT) (F := tagV) tagV_eq.symm rfl)
  have HT64 := Lib.hid (isArr64 (l := blockM jefe) (F := keyV) keyV_eq.symm (length_blockM _))
  clear hT
  go_enter Tryd.func17, Tryd.ntmps17
  go_wp2_with fail
  obtain ⟨hr1, hr2, hb0⟩ := mark2 w #[.int .u8 74, .int .u8 101, .int .u8 102, .int .u8 101] #[.int .u8 119, .int .u8 104, .int .u8 97, .int .u8 116, .int .u8 32, .int .u8 100, .int .u8 111, .int .u8 32, .int .u8 121, .int .u8 97, .int .u8 32, .int .u8 119, .int .u8 97, .int .u8 110, .int .u8 116, .int .u8 32, .int .u8 102, .int .u8 111, .int .u8 114, .int .u8 32, .int .u8 110, .int .u8 111, .int .u8 116, .int .u8 104, .int .u8 105, .int .u8 110, .int .u8 103, .int .u8 63] 5 (4, 5) (28, 29)
  refine (mactag_any jefe whatB 4 28 rfl rfl (some ⟨w.heap.size, 0, none⟩) (some ⟨w.heap.size + 1, 0, none⟩) 4 28 _ (HT.out.next hb0) hr1 hr2 (fun h => by cases h) (fun h => by cases h) (by decide) (by decide) (by omega) (by omega) tagV (by rw [jefe_tag, tagV_eq])).mono ?_
  rintro e w1 ⟨rfl, hb1⟩
  have HB1 := Lib.hid (hb0.trans (hb1.mono hb0.size))
  clear hcv hcv2 hr1 hr2 hb0 hb1
  go_wp2_with ((with_reducible refine at_store 1 ?_); refine wpList_store_named (o := ⟨none, .store 36 (.tmp 1) (.tmp 7), _, _, _, _⟩) rfl 36 (.tmp 1) (.tmp 7) rfl w1.heap.size tagV rfl rfl 36 b32 (heap_alloc_new w1 _) HT32.out.1 HT32.out.2.1 HT32.out.2.2 ?_; intro w2 hw2; have hcv3 := Joins.run_convert_bytes_const_at (P := Tryd.prog) w2 28 5 #[.int .u8 74, .int .u8 101, .int .u8 102, .int .u8 101] 4 4 w2.heap.size rfl Tryd.underlying28 Tryd.underlying5)
  obtain ⟨hs2, hv2, hb2⟩ := row_made hw2.out
  have HB2 := Lib.hid (HB1.out.trans (hb2.mono HB1.out.size))
  have hm2 : Below w2.heap.size w2 (w2.alloc (.cells #[.int .u8 74, .int .u8 101, .int .u8 102, .int .u8 101] 5 (4, 5))) := (Below.refl _ _).alloc (Nat.le_refl _) _
  refine (macblock_any jefe 4 rfl (some ⟨w2.heap.size, 0, none⟩) 4 _ (HT.out.next (HB2.out.trans (hm2.mono HB2.out.size))) (rd_lit_mark w2 #[.int .u8 74, .int .u8 101, .int .u8 102, .int .u8 101] 5 (4, 5)) (by decide) (fun h => by cases h) (by omega) keyV keyV_eq.symm).mono ?_
  rintro e w3 ⟨rfl, hb3⟩
  have hm23 : Below w2.heap.size w2 w3 := hm2.trans (hb3.mono hm2.size)
  have HV3 := Lib.hid ((hm23.block w1.heap.size (by omega)).trans hv2)
  have HB3 := Lib.hid (HB2.out.trans (hm23.mono HB2.out.size))
  have hs3 : w1.heap.size < w3.heap.size := by have := hm23.size; omega
  clear hcv3 hm2 hm23 hs2 hv2 hb2 hw2 hb3
  go_wp2_with (first
    | ((with_reducible refine at_store 2 ?_); refine wpList_store_named (o := ⟨none, .store 41 (.tmp 2) (.tmp 10), _, _, _, _⟩) rfl 41 (.tmp 2) (.tmp 10) rfl w3.heap.size keyV rfl rfl 41 b64 (heap_alloc_new w3 _) HT64.out.1 HT64.out.2.1 HT64.out.2.2 ?_; intro w4 hw4; have H4 := Lib.hid (row_made hw4.out); obtain ⟨k0, k63⟩ := key_cells H4.out.2.1; have HV4 := Lib.hid ((H4.out.2.2.block w1.heap.size hs3).trans HV3.out))
    | ((with_reducible refine at_load 11 ?_); refine wpList_load_row (o := ⟨some 11, .load 36 (.tmp 1), _, _, _, _⟩) rfl 36 (.tmp 1) rfl w1.heap.size rfl 36 tagV (0, 0) _ HV4.out Tryd.underlying36 rfl HT32.out.1 ?_))
  go_ret
  exact ⟨rfl, HB3.out.trans (H4.out.2.2.mono HB3.out.size)⟩
end Go.Proofs.YtdpijlkhcagfaaaDoor
