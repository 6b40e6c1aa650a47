/-
  A date in a box of its own. No program of its own; conditions: the block is there.
-/
import Derived.Test.YtiekfcpinljcjaaCells
import Derived.Test.YtiekfcpinljcjaaDayMath
namespace Go.Proofs.Ytiekfcpinljcjaa
set_option linter.unusedVariables false
open Go.ChangeShapes Go.WideShapes Go.ChangeAt Go.RowKit

theorem infoDate : (Try.prog.info? 23).map (·.size) = some 3 := by kernel_rfl
theorem infoInt : (Try.prog.info? 3).map (·.size) = some 1 := by kernel_rfl
def D.cs (d : D) : Array Value := #[.int .i64 d.y, .int .i64 d.m, .int .i64 d.d]
theorem dc_one (a b c : Int) : (#[Value.int .i64 a, .int .i64 b, .int .i64 c] : Array Value).all (·.oneCell') = true := by
  rw [Array.all_eq_true_iff_forall_mem]
  intro u hu
  simp at hu
  rcases hu with rfl | rfl | rfl <;> rfl
def DBox (w : World) (b : Nat) (d : D) : Prop := w.heap[b]? = some (.cells #[.int .i64 d.y, .int .i64 d.m, .int .i64 d.d] 23 (0, 0))
theorem DBox.lt {w : World} {b : Nat} {d : D} (h : DBox w b d) : b < w.heap.size := (Array.getElem?_eq_some_iff.1 h).1
theorem DBox.next {w w' : World} {b : Nat} {d : D} (h : DBox w b d) (hb : Below w.heap.size w w') : DBox w' b d := (hb.block _ h.lt).trans h
theorem DBox.below {w w' : World} {b B : Nat} {d : D} (h : DBox w b d) (hB : b < B) (hb : Below B w w') : DBox w' b d := (hb.block _ hB).trans h
theorem DBox.cells {w : World} {b : Nat} {d : D} (h : DBox w b d) : w.cell? ⟨b, 0, none⟩ = some (.int .i64 d.y) ∧ w.cell? ⟨b, 1, none⟩ = some (.int .i64 d.m) ∧ w.cell? ⟨b, 2, none⟩ = some (.int .i64 d.d) :=
  ⟨by rw [cell_of_row w b 0 _ _ (0, 0) h]; rfl, by rw [cell_of_row w b 1 _ _ (0, 0) h]; rfl, by rw [cell_of_row w b 2 _ _ (0, 0) h]; rfl⟩
theorem DBox.some {w : World} {b : Nat} {d : D} (h : DBox w b d) (j : Nat) (hj : j < 3) : (w.cell? ⟨b, j, none⟩).isSome = true := by
  rcases (show j = 0 ∨ j = 1 ∨ j = 2 by omega) with rfl | rfl | rfl
  · rw [h.cells.1]; rfl
  · rw [h.cells.2.1]; rfl
  · rw [h.cells.2.2]; rfl
theorem DBox.frozen {w : World} {b : Nat} {d : D} (h : DBox w b d) (j : Nat) : w.frozen? ⟨b, j, none⟩ = false := frozen_of_row w b j _ _ h
theorem DBox.set0 {w : World} {b : Nat} {d : D} (h : DBox w b d) (y : Int) : DBox (w.setCell ⟨b, 0, none⟩ (.int .i64 y)) b ⟨y, d.m, d.d⟩ := heap_setCell_same w b 0 _ _ _ h
theorem DBox.set1 {w : World} {b : Nat} {d : D} (h : DBox w b d) (m : Int) : DBox (w.setCell ⟨b, 1, none⟩ (.int .i64 m)) b ⟨d.y, m, d.d⟩ := heap_setCell_same w b 1 _ _ _ h
theorem DBox.set2 {w : World} {b : Nat} {d : D} (h : DBox w b d) (x : Int) : DBox (w.setCell ⟨b, 2, none⟩ (.int .i64 x)) b ⟨d.y, d.m, x⟩ := heap_setCell_same w b 2 _ _ _ h
theorem DBox.setAt {w : World} {b b' j : Nat} {d : D} (h : DBox w b d) (v : Value) (hne : b ≠ b') : DBox (w.setCell ⟨b', j, none⟩ v) b d := (heap_setCell_other w _ _ v hne).trans h
theorem DBox.new (w : World) (d : D) : DBox (w.alloc (.cells #[.int .i64 d.y, .int .i64 d.m, .int .i64 d.d] 23)) w.heap.size d := heap_alloc_new w _
end Go.Proofs.Ytiekfcpinljcjaa
