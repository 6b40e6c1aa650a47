/-
  A ticket in a box of its own. No program of its own; conditions: the block is there.
-/
import Derived.Test.YtaokhkbfiplfmaaCells
import Derived.Test.YtaokhkbfiplfmaaTicketMath
import Derived.Test.YtaokhkbfiplfmaaIn64
namespace Go.Proofs.Ytaokhkbfiplfmaa
set_option linter.unusedVariables false
open Go.ChangeShapes Go.WideShapes Go.ChangeAt Go.RowKit

theorem infoTk : (Try.prog.info? 23).map (·.size) = some 11 := by kernel_rfl
theorem tc_one (a0 a1 a2 a3 a4 a5 a6 a7 a8 a9 a10 : Int) : (#[Value.int .i64 a0, Value.int .i64 a1, Value.int .i64 a2, Value.int .i64 a3, Value.int .i64 a4, Value.int .i64 a5, Value.int .i64 a6, Value.int .i64 a7, Value.int .i64 a8, Value.int .i64 a9, Value.int .i64 a10] : Array Value).all (·.oneCell') = true := by
  rw [Array.all_eq_true_iff_forall_mem]
  intro u hu
  simp at hu
  rcases hu with rfl | rfl | rfl | rfl | rfl | rfl | rfl | rfl | rfl | rfl | rfl <;> rfl
def TBox (w : World) (b : Nat) (t : Tk) : Prop := w.heap[b]? = some (.cells #[.int .i64 t.ser, .int .i64 t.kind, .int .i64 t.frm, .int .i64 t.till, .int .i64 t.cls, .int .i64 t.card, .int .i64 t.seat, .int .i64 t.day, .int .i64 t.days, .int .i64 t.uses, .int .i64 t.epoch] 23 (0, 0))
theorem TBox.lt {w : World} {b : Nat} {t : Tk} (h : TBox w b t) : b < w.heap.size := (Array.getElem?_eq_some_iff.1 h).1
theorem TBox.next {w w' : World} {b : Nat} {t : Tk} (h : TBox w b t) (hb : Below w.heap.size w w') : TBox w' b t := (hb.block _ h.lt).trans h
theorem TBox.cells {w : World} {b : Nat} {t : Tk} (h : TBox w b t) : w.cell? ⟨b, 0, none⟩ = some (.int .i64 t.ser) ∧ w.cell? ⟨b, 1, none⟩ = some (.int .i64 t.kind) ∧ w.cell? ⟨b, 2, none⟩ = some (.int .i64 t.frm) ∧ w.cell? ⟨b, 3, none⟩ = some (.int .i64 t.till) ∧ w.cell? ⟨b, 4, none⟩ = some (.int .i64 t.cls) ∧ w.cell? ⟨b, 5, none⟩ = some (.int .i64 t.card) ∧ w.cell? ⟨b, 6, none⟩ = some (.int .i64 t.seat) ∧ w.cell? ⟨b, 7, none⟩ = some (.int .i64 t.day) ∧ w.cell? ⟨b, 8, none⟩ = some (.int .i64 t.days) ∧ w.cell? ⟨b, 9, none⟩ = some (.int .i64 t.uses) ∧ w.cell? ⟨b, 10, none⟩ = some (.int .i64 t.epoch) :=
  ⟨by rw [cell_of_row w b 0 _ _ (0, 0) h]; rfl, by rw [cell_of_row w b 1 _ _ (0, 0) h]; rfl, by rw [cell_of_row w b 2 _ _ (0, 0) h]; rfl, by rw [cell_of_row w b 3 _ _ (0, 0) h]; rfl, by rw [cell_of_row w b 4 _ _ (0, 0) h]; rfl, by rw [cell_of_row w b 5 _ _ (0, 0) h]; rfl, by rw [cell_of_row w b 6 _ _ (0, 0) h]; rfl, by rw [cell_of_row w b 7 _ _ (0, 0) h]; rfl, by rw [cell_of_row w b 8 _ _ (0, 0) h]; rfl, by rw [cell_of_row w b 9 _ _ (0, 0) h]; rfl, by rw [cell_of_row w b 10 _ _ (0, 0) h]; rfl⟩
theorem TBox.frozen {w : World} {b : Nat} {t : Tk} (h : TBox w b t) (j : Nat) : w.frozen? ⟨b, j, none⟩ = false := frozen_of_row w b j _ _ h
theorem TBox.new (w : World) (t : Tk) : TBox (w.alloc (.cells #[.int .i64 t.ser, .int .i64 t.kind, .int .i64 t.frm, .int .i64 t.till, .int .i64 t.cls, .int .i64 t.card, .int .i64 t.seat, .int .i64 t.day, .int .i64 t.days, .int .i64 t.uses, .int .i64 t.epoch] 23)) w.heap.size t := heap_alloc_new w _
theorem tbox_made {w1 w2 : World} {cc : Array Value} {t : Tk} (h : w2 = (w1.alloc (.cells cc 23)).setRow w1.heap.size #[.int .i64 t.ser, .int .i64 t.kind, .int .i64 t.frm, .int .i64 t.till, .int .i64 t.cls, .int .i64 t.card, .int .i64 t.seat, .int .i64 t.day, .int .i64 t.days, .int .i64 t.uses, .int .i64 t.epoch]) :
    TBox w2 w1.heap.size t ∧ Below w1.heap.size w1 w2 := by
  subst h
  exact ⟨setRow_heap _ _ _ _ _ _ (heap_alloc_new w1 _), below_setRow ((Below.refl _ _).alloc (Nat.le_refl _) _) (Nat.le_refl _) _⟩
end Go.Proofs.Ytaokhkbfiplfmaa
