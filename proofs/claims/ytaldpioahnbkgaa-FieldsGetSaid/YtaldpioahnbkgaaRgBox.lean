/-
  A reading in a box; a journey in one. No program of its own; conditions: the block is there.
-/
import Derived.Test.YtaldpioahnbkgaaTicketM
import Derived.Test.YtaldpioahnbkgaaRg
import Derived.Test.YtaldpioahnbkgaaBase
namespace Go.Proofs.Ytaldpioahnbkgaa
set_option linter.unusedVariables false
open Go.ChangeShapes Go.WideShapes Go.ChangeAt Go.RowKit

theorem infoRd : (Try.prog.info? 27).map (·.size) = some 15 := by kernel_rfl
theorem infoJy : (Try.prog.info? 25).map (·.size) = some 2 := by kernel_rfl
theorem rg_one (a0 a1 a2 a3 a4 a5 a6 a7 a8 a9 a10 a11 a12 a13 a14 : Int) : (#[.int .i64 a0, .int .i64 a1, .int .i64 a2, .int .i64 a3, .int .i64 a4, .int .i64 a5, .int .i64 a6, .int .i64 a7, .int .i64 a8, .int .i64 a9, .int .i64 a10, .int .i64 a11, .int .i64 a12, .int .i64 a13, .int .i64 a14] : Array Value).all (·.oneCell') = true := by
  rw [Array.all_eq_true_iff_forall_mem]
  intro u hu
  simp at hu
  rcases hu with rfl | rfl | rfl | rfl | rfl | rfl | rfl | rfl | rfl | rfl | rfl | rfl | rfl | rfl | rfl <;> rfl
/-- A reading in its block. -/
def RBox (w : World) (b : Nat) (r : Rg) : Prop := w.heap[b]? = some (.cells #[.int .i64 r.t.ser, .int .i64 r.t.kind, .int .i64 r.t.frm, .int .i64 r.t.till, .int .i64 r.t.cls, .int .i64 r.t.card, .int .i64 r.t.seat, .int .i64 r.t.day, .int .i64 r.t.days, .int .i64 r.t.uses, .int .i64 r.t.epoch, .int .i64 r.key, .int .i64 r.left, .int .i64 r.inn, .int .i64 r.ver] 27 (0, 0))
theorem RBox.lt {w : World} {b : Nat} {r : Rg} (h : RBox w b r) : b < w.heap.size := (Array.getElem?_eq_some_iff.1 h).1
theorem RBox.next {w w' : World} {b : Nat} {r : Rg} (h : RBox w b r) (hb : Below w.heap.size w w') : RBox w' b r := (hb.block _ h.lt).trans h
theorem RBox.below {w w' : World} {b B : Nat} {r : Rg} (h : RBox w b r) (hlt : b < B) (hb : Below B w w') : RBox w' b r := (hb.block _ hlt).trans h
theorem RBox.cells {w : World} {b : Nat} {r : Rg} (h : RBox w b r) : w.cell? ⟨b, 0, none⟩ = some (.int .i64 r.t.ser) ∧ w.cell? ⟨b, 1, none⟩ = some (.int .i64 r.t.kind) ∧ w.cell? ⟨b, 2, none⟩ = some (.int .i64 r.t.frm) ∧ w.cell? ⟨b, 3, none⟩ = some (.int .i64 r.t.till) ∧ w.cell? ⟨b, 4, none⟩ = some (.int .i64 r.t.cls) ∧ w.cell? ⟨b, 5, none⟩ = some (.int .i64 r.t.card) ∧ w.cell? ⟨b, 6, none⟩ = some (.int .i64 r.t.seat) ∧ w.cell? ⟨b, 7, none⟩ = some (.int .i64 r.t.day) ∧ w.cell? ⟨b, 8, none⟩ = some (.int .i64 r.t.days) ∧ w.cell? ⟨b, 9, none⟩ = some (.int .i64 r.t.uses) ∧ w.cell? ⟨b, 10, none⟩ = some (.int .i64 r.t.epoch) ∧ w.cell? ⟨b, 11, none⟩ = some (.int .i64 r.key) ∧ w.cell? ⟨b, 12, none⟩ = some (.int .i64 r.left) ∧ w.cell? ⟨b, 13, none⟩ = some (.int .i64 r.inn) ∧ w.cell? ⟨b, 14, none⟩ = some (.int .i64 r.ver) :=
  ⟨by rw [cell_of_row w b 0 _ _ (0, 0) h]; rfl, by rw [cell_of_row w b 1 _ _ (0, 0) h]; rfl, by rw [cell_of_row w b 2 _ _ (0, 0) h]; rfl, by rw [cell_of_row w b 3 _ _ (0, 0) h]; rfl, by rw [cell_of_row w b 4 _ _ (0, 0) h]; rfl, by rw [cell_of_row w b 5 _ _ (0, 0) h]; rfl, by rw [cell_of_row w b 6 _ _ (0, 0) h]; rfl, by rw [cell_of_row w b 7 _ _ (0, 0) h]; rfl, by rw [cell_of_row w b 8 _ _ (0, 0) h]; rfl, by rw [cell_of_row w b 9 _ _ (0, 0) h]; rfl, by rw [cell_of_row w b 10 _ _ (0, 0) h]; rfl, by rw [cell_of_row w b 11 _ _ (0, 0) h]; rfl, by rw [cell_of_row w b 12 _ _ (0, 0) h]; rfl, by rw [cell_of_row w b 13 _ _ (0, 0) h]; rfl, by rw [cell_of_row w b 14 _ _ (0, 0) h]; rfl⟩
theorem RBox.frozen {w : World} {b : Nat} {r : Rg} (h : RBox w b r) (j : Nat) : w.frozen? ⟨b, j, none⟩ = false := frozen_of_row w b j _ _ h
theorem RBox.new (w : World) (r : Rg) : RBox (w.alloc (.cells #[.int .i64 r.t.ser, .int .i64 r.t.kind, .int .i64 r.t.frm, .int .i64 r.t.till, .int .i64 r.t.cls, .int .i64 r.t.card, .int .i64 r.t.seat, .int .i64 r.t.day, .int .i64 r.t.days, .int .i64 r.t.uses, .int .i64 r.t.epoch, .int .i64 r.key, .int .i64 r.left, .int .i64 r.inn, .int .i64 r.ver] 27)) w.heap.size r := heap_alloc_new w _
theorem RBox.alloc {w : World} {b : Nat} {r : Rg} (h : RBox w b r) (o : Obj) : RBox (w.alloc o) b r := (heap_alloc_old w o h.lt).trans h
theorem RBox.made {w1 w2 : World} {cc : Array Value} {r : Rg} (h : w2 = (w1.alloc (.cells cc 27)).setRow w1.heap.size #[.int .i64 r.t.ser, .int .i64 r.t.kind, .int .i64 r.t.frm, .int .i64 r.t.till, .int .i64 r.t.cls, .int .i64 r.t.card, .int .i64 r.t.seat, .int .i64 r.t.day, .int .i64 r.t.days, .int .i64 r.t.uses, .int .i64 r.t.epoch, .int .i64 r.key, .int .i64 r.left, .int .i64 r.inn, .int .i64 r.ver]) : RBox w2 w1.heap.size r ∧ Below w1.heap.size w1 w2 := by
  subst h
  exact ⟨setRow_heap _ _ _ _ _ _ (heap_alloc_new w1 _), below_setRow ((Below.refl _ _).alloc (Nat.le_refl _) _) (Nat.le_refl _) _⟩
/-- A journey in its block. -/
def JBox (w : World) (b : Nat) (l i : Int) : Prop := w.heap[b]? = some (.cells #[.int .i64 l, .int .i64 i] 25 (0, 0))
theorem JBox.lt {w : World} {b : Nat} {l i : Int} (h : JBox w b l i) : b < w.heap.size := (Array.getElem?_eq_some_iff.1 h).1
theorem JBox.next {w w' : World} {b : Nat} {l i : Int} (h : JBox w b l i) (hb : Below w.heap.size w w') : JBox w' b l i := (hb.block _ h.lt).trans h
theorem JBox.below {w w' : World} {b B : Nat} {l i : Int} (h : JBox w b l i) (hlt : b < B) (hb : Below B w w') : JBox w' b l i := (hb.block _ hlt).trans h
theorem JBox.cells {w : World} {b : Nat} {l i : Int} (h : JBox w b l i) : w.cell? ⟨b, 0, none⟩ = some (.int .i64 l) ∧ w.cell? ⟨b, 1, none⟩ = some (.int .i64 i) :=
  ⟨by rw [cell_of_row w b 0 _ _ (0, 0) h]; rfl, by rw [cell_of_row w b 1 _ _ (0, 0) h]; rfl⟩
theorem JBox.frozen {w : World} {b : Nat} {l i : Int} (h : JBox w b l i) (j : Nat) : w.frozen? ⟨b, j, none⟩ = false := frozen_of_row w b j _ _ h
theorem JBox.new (w : World) (l i : Int) : JBox (w.alloc (.cells #[.int .i64 l, .int .i64 i] 25)) w.heap.size l i := heap_alloc_new w _
theorem JBox.alloc {w : World} {b : Nat} {l i : Int} (h : JBox w b l i) (o : Obj) : JBox (w.alloc o) b l i := (heap_alloc_old w o h.lt).trans h
theorem JBox.made {w1 w2 : World} {cc : Array Value} {l i : Int} (h : w2 = (w1.alloc (.cells cc 25)).setRow w1.heap.size #[.int .i64 l, .int .i64 i]) : JBox w2 w1.heap.size l i ∧ Below w1.heap.size w1 w2 := by
  subst h
  exact ⟨setRow_heap _ _ _ _ _ _ (heap_alloc_new w1 _), below_setRow ((Below.refl _ _).alloc (Nat.le_refl _) _) (Nat.le_refl _) _⟩
end Go.Proofs.Ytaldpioahnbkgaa
