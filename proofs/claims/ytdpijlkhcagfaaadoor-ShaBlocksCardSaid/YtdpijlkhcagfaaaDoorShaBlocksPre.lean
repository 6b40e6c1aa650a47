/-
  What the law ShaBlocks will want: the boxes of its two arrays, and the reference's Block with a named answer. The law itself is not here. Conditions: none of its own.
-/
import Derived.Test.YtdpijlkhcagfaaaDoorShaLaw
namespace Go.Proofs.YtdpijlkhcagfaaaDoor
set_option linter.unusedVariables false
open Go.ChangeShapes Go.WideShapes Go.ChangeAt Go.RowKit

theorem refblock_r (h : St) (W : List Nat) (w : World) (R : St) (hR : Hid (R = blockN h W)) (hh : h.ok) (hx : ∀ x ∈ W, x < 4294967296) (hl : W.length = 16) :
    Calls Tryd.prog 10 #[h.val, .agg (U32 W).toArray] w fun e w' => e = .returned (.agg #[.int .u32 R.a, .int .u32 R.b, .int .u32 R.c, .int .u32 R.d, .int .u32 R.e, .int .u32 R.f, .int .u32 R.g, .int .u32 R.h]) ∧ Below w.heap.size w w' := by
  have e := hR.out
  subst e
  exact refblock_list h W w hh hx hl
theorem cells24 {w : World} {B : Nat} {h : St} {x0 x1 x2 x3 x4 x5 x6 x7 x8 x9 x10 x11 x12 x13 x14 x15 : Nat} (h1 : w.heap[B]? = some (.cells (U32 h.list).toArray 23 (0, 0))) (h2 : w.heap[B + 1]? = some (.cells (U32 [x0, x1, x2, x3, x4, x5, x6, x7, x8, x9, x10, x11, x12, x13, x14, x15]).toArray 24 (0, 0))) : w.cell? ⟨B, 0, none⟩ = some (.int .u32 (h.a : Int)) ∧ w.cell? ⟨B, 1, none⟩ = some (.int .u32 (h.b : Int)) ∧ w.cell? ⟨B, 2, none⟩ = some (.int .u32 (h.c : Int)) ∧ w.cell? ⟨B, 3, none⟩ = some (.int .u32 (h.d : Int)) ∧ w.cell? ⟨B, 4, none⟩ = some (.int .u32 (h.e : Int)) ∧ w.cell? ⟨B, 5, none⟩ = some (.int .u32 (h.f : Int)) ∧ w.cell? ⟨B, 6, none⟩ = some (.int .u32 (h.g : Int)) ∧ w.cell? ⟨B, 7, none⟩ = some (.int .u32 (h.h : Int)) ∧ w.cell? ⟨B + 1, 0, none⟩ = some (.int .u32 (x0 : Int)) ∧ w.cell? ⟨B + 1, 1, none⟩ = some (.int .u32 (x1 : Int)) ∧ w.cell? ⟨B + 1, 2, none⟩ = some (.int .u32 (x2 : Int)) ∧ w.cell? ⟨B + 1, 3, none⟩ = some (.int .u32 (x3 : Int)) ∧ w.cell? ⟨B + 1, 4, none⟩ = some (.int .u32 (x4 : Int)) ∧ w.cell? ⟨B + 1, 5, none⟩ = some (.int .u32 (x5 : Int)) ∧ w.cell? ⟨B + 1, 6, none⟩ = some (.int .u32 (x6 : Int)) ∧ w.cell? ⟨B + 1, 7, none⟩ = some (.int .u32 (x7 : Int)) ∧ w.cell? ⟨B + 1, 8, none⟩ = some (.int .u32 (x8 : Int)) ∧ w.cell? ⟨B + 1, 9, none⟩ = some (.int .u32 (x9 : Int)) ∧ w.cell? ⟨B + 1, 10, none⟩ = some (.int .u32 (x10 : Int)) ∧ w.cell? ⟨B + 1, 11, none⟩ = some (.int .u32 (x11 : Int)) ∧ w.cell? ⟨B + 1, 12, none⟩ = some (.int .u32 (x12 : Int)) ∧ w.cell? ⟨B + 1, 13, none⟩ = some (.int .u32 (x13 : Int)) ∧ w.cell? ⟨B + 1, 14, none⟩ = some (.int .u32 (x14 : Int)) ∧ w.cell? ⟨B + 1, 15, none⟩ = some (.int .u32 (x15 : Int)) := by
  have hlc : ∀ i (v : Nat), h.list[i]? = some v → w.cell? ⟨B, i, none⟩ = some (.int .u32 (v : Int)) := by
    intro i v hv
    rw [cell_of_row w B i _ _ (0, 0) h1, List.getElem?_toArray, U32, List.getElem?_map, hv]; rfl
  have hlx : ∀ i (v : Nat), ([x0, x1, x2, x3, x4, x5, x6, x7, x8, x9, x10, x11, x12, x13, x14, x15] : List Nat)[i]? = some v → w.cell? ⟨B + 1, i, none⟩ = some (.int .u32 (v : Int)) := by
    intro i v hv
    rw [cell_of_row w (B + 1) i _ _ (0, 0) h2, List.getElem?_toArray, U32, List.getElem?_map, hv]; rfl
  exact ⟨hlc 0 _ rfl, hlc 1 _ rfl, hlc 2 _ rfl, hlc 3 _ rfl, hlc 4 _ rfl, hlc 5 _ rfl, hlc 6 _ rfl, hlc 7 _ rfl, hlx 0 _ rfl, hlx 1 _ rfl, hlx 2 _ rfl, hlx 3 _ rfl, hlx 4 _ rfl, hlx 5 _ rfl, hlx 6 _ rfl, hlx 7 _ rfl, hlx 8 _ rfl, hlx 9 _ rfl, hlx 10 _ rfl, hlx 11 _ rfl, hlx 12 _ rfl, hlx 13 _ rfl, hlx 14 _ rfl, hlx 15 _ rfl⟩
/-- Both boxes lie in a world. -/
def Boxes (w : World) (B : Nat) (h : St) (xl : List Nat) : Prop := w.heap[B]? = some (.cells (U32 h.list).toArray 23 (0, 0)) ∧ w.heap[B + 1]? = some (.cells (U32 xl).toArray 24 (0, 0)) ∧ B + 1 < w.heap.size
theorem Boxes.next {w w' : World} {B : Nat} {h : St} {xl : List Nat} (hb : Boxes w B h xl) (hbel : Below w.heap.size w w') : Boxes w' B h xl :=
  ⟨(hbel.block _ (by have := hb.2.2; omega)).trans hb.1, (hbel.block _ hb.2.2).trans hb.2.1, Nat.lt_of_lt_of_le hb.2.2 hbel.size⟩
theorem sizeRunU32 (w : World) : (sizeOf 22).run Tryd.prog w = .ok 1 w := by kernel_rfl

end Go.Proofs.YtdpijlkhcagfaaaDoor
