/-
  Five bits in a box of their own. No program of its own; conditions: the block is there.
-/
import Derived.Test.YtjlcaobffhihhaaCells
import Derived.Test.YtjlcaobffhihhaaParityMath
namespace Go.Proofs.Ytjlcaobffhihhaa
set_option linter.unusedVariables false
open Go.ChangeShapes Go.WideShapes Go.ChangeAt Go.RowKit

theorem infoB5 : (Try.prog.info? 50).map (·.size) = some 5 := by kernel_rfl
theorem infoB1 : (Try.prog.info? 4).map (·.size) = some 1 := by kernel_rfl
theorem b5_one (x0 x1 x2 x3 x4 : Bool) : (#[Value.bool x0, .bool x1, .bool x2, .bool x3, .bool x4] : Array Value).all (·.oneCell') = true := by
  rw [Array.all_eq_true_iff_forall_mem]
  intro u hu
  simp at hu
  rcases hu with rfl | rfl | rfl | rfl | rfl <;> rfl
def BBox (w : World) (b : Nat) (d : B5) : Prop := w.heap[b]? = some (.cells #[.bool d.b0, .bool d.b1, .bool d.b2, .bool d.b3, .bool d.b4] 50 (0, 0))
theorem BBox.lt {w : World} {b : Nat} {d : B5} (h : BBox w b d) : b < w.heap.size := (Array.getElem?_eq_some_iff.1 h).1
theorem BBox.next {w w' : World} {b : Nat} {d : B5} (h : BBox w b d) (hb : Below w.heap.size w w') : BBox w' b d := (hb.block _ h.lt).trans h
theorem BBox.cells {w : World} {b : Nat} {d : B5} (h : BBox w b d) : w.cell? ⟨b, 0, none⟩ = some (.bool d.b0) ∧ w.cell? ⟨b, 1, none⟩ = some (.bool d.b1) ∧ w.cell? ⟨b, 2, none⟩ = some (.bool d.b2) ∧ w.cell? ⟨b, 3, none⟩ = some (.bool d.b3) ∧ w.cell? ⟨b, 4, none⟩ = some (.bool d.b4) :=
  ⟨by rw [cell_of_row w b 0 _ _ (0, 0) h]; rfl, by rw [cell_of_row w b 1 _ _ (0, 0) h]; rfl, by rw [cell_of_row w b 2 _ _ (0, 0) h]; rfl, by rw [cell_of_row w b 3 _ _ (0, 0) h]; rfl, by rw [cell_of_row w b 4 _ _ (0, 0) h]; rfl⟩
theorem BBox.some {w : World} {b : Nat} {d : B5} (h : BBox w b d) (j : Nat) (hj : j < 5) : (w.cell? ⟨b, j, none⟩).isSome = true := by
  rcases (show j = 0 ∨ j = 1 ∨ j = 2 ∨ j = 3 ∨ j = 4 by omega) with rfl | rfl | rfl | rfl | rfl
  · rw [h.cells.1]; rfl
  · rw [h.cells.2.1]; rfl
  · rw [h.cells.2.2.1]; rfl
  · rw [h.cells.2.2.2.1]; rfl
  · rw [h.cells.2.2.2.2]; rfl
theorem BBox.frozen {w : World} {b : Nat} {d : B5} (h : BBox w b d) (j : Nat) : w.frozen? ⟨b, j, none⟩ = false := frozen_of_row w b j _ _ h
def setB (d : B5) (v : Bool) : Nat → B5
  | 0 => { d with b0 := v }
  | 1 => { d with b1 := v }
  | 2 => { d with b2 := v }
  | 3 => { d with b3 := v }
  | _ => { d with b4 := v }
def getB (d : B5) : Nat → Bool
  | 0 => d.b0
  | 1 => d.b1
  | 2 => d.b2
  | 3 => d.b3
  | _ => d.b4
theorem BBox.set {w : World} {b : Nat} {d : B5} (h : BBox w b d) (v : Bool) (j : Nat) (hj : j < 5) : BBox (w.setCell ⟨b, j, none⟩ (.bool v)) b (setB d v j) := by
  rcases (show j = 0 ∨ j = 1 ∨ j = 2 ∨ j = 3 ∨ j = 4 by omega) with rfl | rfl | rfl | rfl | rfl <;> exact heap_setCell_same w b _ _ _ _ h
theorem BBox.get {w : World} {b : Nat} {d : B5} (h : BBox w b d) (j : Nat) (hj : j < 5) : w.cell? ⟨b, j, none⟩ = Option.some (.bool (getB d j)) := by
  rcases (show j = 0 ∨ j = 1 ∨ j = 2 ∨ j = 3 ∨ j = 4 by omega) with rfl | rfl | rfl | rfl | rfl
  · exact h.cells.1
  · exact h.cells.2.1
  · exact h.cells.2.2.1
  · exact h.cells.2.2.2.1
  · exact h.cells.2.2.2.2
theorem BBox.setAt {w : World} {b b' j : Nat} {d : B5} (h : BBox w b d) (v : Value) (hne : b ≠ b') : BBox (w.setCell ⟨b', j, none⟩ v) b d := (heap_setCell_other w _ _ v hne).trans h
theorem BBox.new (w : World) (d : B5) : BBox (w.alloc (.cells #[.bool d.b0, .bool d.b1, .bool d.b2, .bool d.b3, .bool d.b4] 50)) w.heap.size d := heap_alloc_new w _
/-- The first k bits of n, the others not set. -/
def upB (n k : Nat) : B5 := ⟨decide (0 < k) && bitB n 0, decide (1 < k) && bitB n 1, decide (2 < k) && bitB n 2, decide (3 < k) && bitB n 3, decide (4 < k) && bitB n 4⟩
theorem upB_step (n k : Nat) (hk : k < 5) : setB (upB n k) (bitB n k) k = upB n (k + 1) := by
  rcases (show k = 0 ∨ k = 1 ∨ k = 2 ∨ k = 3 ∨ k = 4 by omega) with rfl | rfl | rfl | rfl | rfl <;> simp [setB, upB]
theorem upB_all {c : Int} (h : isC c = true) : upB c.toNat 5 = bitsB c := by rw [bitsB, if_pos h]; simp [upB]
end Go.Proofs.Ytjlcaobffhihhaa
