/-
  Thirteen ints in a block of the call's own. No program of its own; conditions: the block is there.
-/
import Derived.Test.YtaldpioahnbkgaaFieldsA
namespace Go.Proofs.Ytaldpioahnbkgaa
set_option linter.unusedVariables false
open Go.ChangeShapes Go.WideShapes Go.ChangeAt Go.RowKit

/-- Ints in their block. -/
def NBox (w : World) (X : Nat) (l : List Int) : Prop := w.heap[X]? = some (.cells ((l.map fun x => Value.int .i64 x).toArray) 3 (0, 0))
theorem NBox.lt {w : World} {X : Nat} {l : List Int} (h : NBox w X l) : X < w.heap.size := (Array.getElem?_eq_some_iff.1 h).1
theorem NBox.alloc {w : World} {X : Nat} {l : List Int} (h : NBox w X l) (o : Obj) : NBox (w.alloc o) X l := (heap_alloc_old w o h.lt).trans h
theorem NBox.next {w w' : World} {X : Nat} {l : List Int} (h : NBox w X l) (hb : Below w.heap.size w w') : NBox w' X l := (hb.block _ h.lt).trans h
theorem NBox.set {w : World} {X : Nat} {l : List Int} (h : NBox w X l) (o : Nat) (x : Int) : NBox (w.setCell ⟨X, o, none⟩ (.int .i64 x)) X (l.set o x) := by
  have := heap_setCell_same w X o _ _ (.int .i64 x) h
  rw [NBox, this]
  simp [List.map_set]
theorem NBox.cell {w : World} {X o : Nat} {l : List Int} {x : Int} (h : NBox w X l) (ho : l[o]? = some x) : w.cell? ⟨X, o, none⟩ = some (.int .i64 x) := by
  rw [cell_of_row w X o _ _ (0, 0) h]
  simp [ho]
theorem NBox.frozen {w : World} {X : Nat} {l : List Int} (h : NBox w X l) (o : Nat) : w.frozen? ⟨X, o, none⟩ = false := frozen_of_row w X o _ _ h
theorem NBox.cells {w : World} {b : Nat} {r : Rg} (h : NBox w b (numL r)) : w.cell? ⟨b, 0, none⟩ = some (.int .i64 r.ver) ∧ w.cell? ⟨b, 1, none⟩ = some (.int .i64 r.key) ∧ w.cell? ⟨b, 2, none⟩ = some (.int .i64 r.t.kind) ∧ w.cell? ⟨b, 3, none⟩ = some (.int .i64 r.t.ser) ∧ w.cell? ⟨b, 4, none⟩ = some (.int .i64 r.t.frm) ∧ w.cell? ⟨b, 5, none⟩ = some (.int .i64 r.t.till) ∧ w.cell? ⟨b, 6, none⟩ = some (.int .i64 r.t.cls) ∧ w.cell? ⟨b, 7, none⟩ = some (.int .i64 r.t.card) ∧ w.cell? ⟨b, 8, none⟩ = some (.int .i64 r.t.seat) ∧ w.cell? ⟨b, 9, none⟩ = some (.int .i64 r.t.day) ∧ w.cell? ⟨b, 10, none⟩ = some (.int .i64 r.t.days) ∧ w.cell? ⟨b, 11, none⟩ = some (.int .i64 r.t.uses) ∧ w.cell? ⟨b, 12, none⟩ = some (.int .i64 r.t.epoch) :=
  ⟨h.cell rfl, h.cell rfl, h.cell rfl, h.cell rfl, h.cell rfl, h.cell rfl, h.cell rfl, h.cell rfl, h.cell rfl, h.cell rfl, h.cell rfl, h.cell rfl, h.cell rfl⟩
theorem nbox_new (w : World) (l : List Int) (cs : Array Value) (h : cs.toList = l.map fun x => Value.int .i64 x) : NBox (w.alloc (.cells cs 3)) w.heap.size l := by
  have e : cs = (l.map fun x => Value.int .i64 x).toArray := by rw [← h]
  rw [e]
  exact heap_alloc_new w _
end Go.Proofs.Ytaldpioahnbkgaa
