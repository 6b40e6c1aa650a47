/-
  A reading stored cell by cell into its block. No program of its own; conditions: the block is there.
-/
import Derived.Test.YtaldpioahnbkgaaRgBox
namespace Go.Proofs.Ytaldpioahnbkgaa
set_option linter.unusedVariables false
open Go.ChangeShapes Go.WideShapes Go.ChangeAt Go.RowKit

set_option maxRecDepth 100000 in
set_option maxHeartbeats 1600000 in
theorem set_cells (D : Nat) (r : Rg) (a0 a1 a2 a3 a4 a5 a6 a7 a8 a9 a10 a11 a12 a13 a14 : Int) (w : World) (hd : RBox w D r) : ∃ W, W = (((((((((((((((w.setCell ⟨D, 0, none⟩ (.int .i64 a0)).setCell ⟨D, 1, none⟩ (.int .i64 a1)).setCell ⟨D, 2, none⟩ (.int .i64 a2)).setCell ⟨D, 3, none⟩ (.int .i64 a3)).setCell ⟨D, 4, none⟩ (.int .i64 a4)).setCell ⟨D, 5, none⟩ (.int .i64 a5)).setCell ⟨D, 6, none⟩ (.int .i64 a6)).setCell ⟨D, 7, none⟩ (.int .i64 a7)).setCell ⟨D, 8, none⟩ (.int .i64 a8)).setCell ⟨D, 9, none⟩ (.int .i64 a9)).setCell ⟨D, 10, none⟩ (.int .i64 a10)).setCell ⟨D, 11, none⟩ (.int .i64 a11)).setCell ⟨D, 12, none⟩ (.int .i64 a12)).setCell ⟨D, 13, none⟩ (.int .i64 a13)).setCell ⟨D, 14, none⟩ (.int .i64 a14)) ∧ W.heap[D]? = some (.cells #[.int .i64 a0, .int .i64 a1, .int .i64 a2, .int .i64 a3, .int .i64 a4, .int .i64 a5, .int .i64 a6, .int .i64 a7, .int .i64 a8, .int .i64 a9, .int .i64 a10, .int .i64 a11, .int .i64 a12, .int .i64 a13, .int .i64 a14] 27 (0, 0)) ∧ ∀ B, B ≤ D → Below B w W := by
  have Hm : w.heap[D]? = some (.cells #[.int .i64 r.t.ser, .int .i64 r.t.kind, .int .i64 r.t.frm, .int .i64 r.t.till, .int .i64 r.t.cls, .int .i64 r.t.card, .int .i64 r.t.seat, .int .i64 r.t.day, .int .i64 r.t.days, .int .i64 r.t.uses, .int .i64 r.t.epoch, .int .i64 r.key, .int .i64 r.left, .int .i64 r.inn, .int .i64 r.ver] 27 (0, 0)) := hd
  have Bm : ∀ B, B ≤ D → Below B w w := fun B _ => Below.refl B w
  obtain ⟨W0, hW0⟩ : ∃ W, W = w.setCell ⟨D, 0, none⟩ (.int .i64 a0) := ⟨_, rfl⟩
  rw [← hW0]
  have H0 : W0.heap[D]? = some (.cells #[.int .i64 a0, .int .i64 r.t.kind, .int .i64 r.t.frm, .int .i64 r.t.till, .int .i64 r.t.cls, .int .i64 r.t.card, .int .i64 r.t.seat, .int .i64 r.t.day, .int .i64 r.t.days, .int .i64 r.t.uses, .int .i64 r.t.epoch, .int .i64 r.key, .int .i64 r.left, .int .i64 r.inn, .int .i64 r.ver] 27 (0, 0)) := by rw [hW0]; exact heap_setCell_same w D 0 _ _ (.int .i64 a0) Hm
  have B0 : ∀ B, B ≤ D → Below B w W0 := fun B h => by rw [hW0]; exact (Bm B h).setCell (p := ⟨D, 0, none⟩) h _
  obtain ⟨W1, hW1⟩ : ∃ W, W = W0.setCell ⟨D, 1, none⟩ (.int .i64 a1) := ⟨_, rfl⟩
  rw [← hW1]
  have H1 : W1.heap[D]? = some (.cells #[.int .i64 a0, .int .i64 a1, .int .i64 r.t.frm, .int .i64 r.t.till, .int .i64 r.t.cls, .int .i64 r.t.card, .int .i64 r.t.seat, .int .i64 r.t.day, .int .i64 r.t.days, .int .i64 r.t.uses, .int .i64 r.t.epoch, .int .i64 r.key, .int .i64 r.left, .int .i64 r.inn, .int .i64 r.ver] 27 (0, 0)) := by rw [hW1]; exact heap_setCell_same W0 D 1 _ _ (.int .i64 a1) H0
  have B1 : ∀ B, B ≤ D → Below B w W1 := fun B h => by rw [hW1]; exact (B0 B h).setCell (p := ⟨D, 1, none⟩) h _
  obtain ⟨W2, hW2⟩ : ∃ W, W = W1.setCell ⟨D, 2, none⟩ (.int .i64 a2) := ⟨_, rfl⟩
  rw [← hW2]
  have H2 : W2.heap[D]? = some (.cells #[.int .i64 a0, .int .i64 a1, .int .i64 a2, .int .i64 r.t.till, .int .i64 r.t.cls, .int .i64 r.t.card, .int .i64 r.t.seat, .int .i64 r.t.day, .int .i64 r.t.days, .int .i64 r.t.uses, .int .i64 r.t.epoch, .int .i64 r.key, .int .i64 r.left, .int .i64 r.inn, .int .i64 r.ver] 27 (0, 0)) := by rw [hW2]; exact heap_setCell_same W1 D 2 _ _ (.int .i64 a2) H1
  have B2 : ∀ B, B ≤ D → Below B w W2 := fun B h => by rw [hW2]; exact (B1 B h).setCell (p := ⟨D, 2, none⟩) h _
  obtain ⟨W3, hW3⟩ : ∃ W, W = W2.setCell ⟨D, 3, none⟩ (.int .i64 a3) := ⟨_, rfl⟩
  rw [← hW3]
  have H3 : W3.heap[D]? = some (.cells #[.int .i64 a0, .int .i64 a1, .int .i64 a2, .int .i64 a3, .int .i64 r.t.cls, .int .i64 r.t.card, .int .i64 r.t.seat, .int .i64 r.t.day, .int .i64 r.t.days, .int .i64 r.t.uses, .int .i64 r.t.epoch, .int .i64 r.key, .int .i64 r.left, .int .i64 r.inn, .int .i64 r.ver] 27 (0, 0)) := by rw [hW3]; exact heap_setCell_same W2 D 3 _ _ (.int .i64 a3) H2
  have B3 : ∀ B, B ≤ D → Below B w W3 := fun B h => by rw [hW3]; exact (B2 B h).setCell (p := ⟨D, 3, none⟩) h _
  obtain ⟨W4, hW4⟩ : ∃ W, W = W3.setCell ⟨D, 4, none⟩ (.int .i64 a4) := ⟨_, rfl⟩
  rw [← hW4]
  have H4 : W4.heap[D]? = some (.cells #[.int .i64 a0, .int .i64 a1, .int .i64 a2, .int .i64 a3, .int .i64 a4, .int .i64 r.t.card, .int .i64 r.t.seat, .int .i64 r.t.day, .int .i64 r.t.days, .int .i64 r.t.uses, .int .i64 r.t.epoch, .int .i64 r.key, .int .i64 r.left, .int .i64 r.inn, .int .i64 r.ver] 27 (0, 0)) := by rw [hW4]; exact heap_setCell_same W3 D 4 _ _ (.int .i64 a4) H3
  have B4 : ∀ B, B ≤ D → Below B w W4 := fun B h => by rw [hW4]; exact (B3 B h).setCell (p := ⟨D, 4, none⟩) h _
  obtain ⟨W5, hW5⟩ : ∃ W, W = W4.setCell ⟨D, 5, none⟩ (.int .i64 a5) := ⟨_, rfl⟩
  rw [← hW5]
  have H5 : W5.heap[D]? = some (.cells #[.int .i64 a0, .int .i64 a1, .int .i64 a2, .int .i64 a3, .int .i64 a4, .int .i64 a5, .int .i64 r.t.seat, .int .i64 r.t.day, .int .i64 r.t.days, .int .i64 r.t.uses, .int .i64 r.t.epoch, .int .i64 r.key, .int .i64 r.left, .int .i64 r.inn, .int .i64 r.ver] 27 (0, 0)) := by rw [hW5]; exact heap_setCell_same W4 D 5 _ _ (.int .i64 a5) H4
  have B5 : ∀ B, B ≤ D → Below B w W5 := fun B h => by rw [hW5]; exact (B4 B h).setCell (p := ⟨D, 5, none⟩) h _
  obtain ⟨W6, hW6⟩ : ∃ W, W = W5.setCell ⟨D, 6, none⟩ (.int .i64 a6) := ⟨_, rfl⟩
  rw [← hW6]
  have H6 : W6.heap[D]? = some (.cells #[.int .i64 a0, .int .i64 a1, .int .i64 a2, .int .i64 a3, .int .i64 a4, .int .i64 a5, .int .i64 a6, .int .i64 r.t.day, .int .i64 r.t.days, .int .i64 r.t.uses, .int .i64 r.t.epoch, .int .i64 r.key, .int .i64 r.left, .int .i64 r.inn, .int .i64 r.ver] 27 (0, 0)) := by rw [hW6]; exact heap_setCell_same W5 D 6 _ _ (.int .i64 a6) H5
  have B6 : ∀ B, B ≤ D → Below B w W6 := fun B h => by rw [hW6]; exact (B5 B h).setCell (p := ⟨D, 6, none⟩) h _
  obtain ⟨W7, hW7⟩ : ∃ W, W = W6.setCell ⟨D, 7, none⟩ (.int .i64 a7) := ⟨_, rfl⟩
  rw [← hW7]
  have H7 : W7.heap[D]? = some (.cells #[.int .i64 a0, .int .i64 a1, .int .i64 a2, .int .i64 a3, .int .i64 a4, .int .i64 a5, .int .i64 a6, .int .i64 a7, .int .i64 r.t.days, .int .i64 r.t.uses, .int .i64 r.t.epoch, .int .i64 r.key, .int .i64 r.left, .int .i64 r.inn, .int .i64 r.ver] 27 (0, 0)) := by rw [hW7]; exact heap_setCell_same W6 D 7 _ _ (.int .i64 a7) H6
  have B7 : ∀ B, B ≤ D → Below B w W7 := fun B h => by rw [hW7]; exact (B6 B h).setCell (p := ⟨D, 7, none⟩) h _
  obtain ⟨W8, hW8⟩ : ∃ W, W = W7.setCell ⟨D, 8, none⟩ (.int .i64 a8) := ⟨_, rfl⟩
  rw [← hW8]
  have H8 : W8.heap[D]? = some (.cells #[.int .i64 a0, .int .i64 a1, .int .i64 a2, .int .i64 a3, .int .i64 a4, .int .i64 a5, .int .i64 a6, .int .i64 a7, .int .i64 a8, .int .i64 r.t.uses, .int .i64 r.t.epoch, .int .i64 r.key, .int .i64 r.left, .int .i64 r.inn, .int .i64 r.ver] 27 (0, 0)) := by rw [hW8]; exact heap_setCell_same W7 D 8 _ _ (.int .i64 a8) H7
  have B8 : ∀ B, B ≤ D → Below B w W8 := fun B h => by rw [hW8]; exact (B7 B h).setCell (p := ⟨D, 8, none⟩) h _
  obtain ⟨W9, hW9⟩ : ∃ W, W = W8.setCell ⟨D, 9, none⟩ (.int .i64 a9) := ⟨_, rfl⟩
  rw [← hW9]
  have H9 : W9.heap[D]? = some (.cells #[.int .i64 a0, .int .i64 a1, .int .i64 a2, .int .i64 a3, .int .i64 a4, .int .i64 a5, .int .i64 a6, .int .i64 a7, .int .i64 a8, .int .i64 a9, .int .i64 r.t.epoch, .int .i64 r.key, .int .i64 r.left, .int .i64 r.inn, .int .i64 r.ver] 27 (0, 0)) := by rw [hW9]; exact heap_setCell_same W8 D 9 _ _ (.int .i64 a9) H8
  have B9 : ∀ B, B ≤ D → Below B w W9 := fun B h => by rw [hW9]; exact (B8 B h).setCell (p := ⟨D, 9, none⟩) h _
  obtain ⟨W10, hW10⟩ : ∃ W, W = W9.setCell ⟨D, 10, none⟩ (.int .i64 a10) := ⟨_, rfl⟩
  rw [← hW10]
  have H10 : W10.heap[D]? = some (.cells #[.int .i64 a0, .int .i64 a1, .int .i64 a2, .int .i64 a3, .int .i64 a4, .int .i64 a5, .int .i64 a6, .int .i64 a7, .int .i64 a8, .int .i64 a9, .int .i64 a10, .int .i64 r.key, .int .i64 r.left, .int .i64 r.inn, .int .i64 r.ver] 27 (0, 0)) := by rw [hW10]; exact heap_setCell_same W9 D 10 _ _ (.int .i64 a10) H9
  have B10 : ∀ B, B ≤ D → Below B w W10 := fun B h => by rw [hW10]; exact (B9 B h).setCell (p := ⟨D, 10, none⟩) h _
  obtain ⟨W11, hW11⟩ : ∃ W, W = W10.setCell ⟨D, 11, none⟩ (.int .i64 a11) := ⟨_, rfl⟩
  rw [← hW11]
  have H11 : W11.heap[D]? = some (.cells #[.int .i64 a0, .int .i64 a1, .int .i64 a2, .int .i64 a3, .int .i64 a4, .int .i64 a5, .int .i64 a6, .int .i64 a7, .int .i64 a8, .int .i64 a9, .int .i64 a10, .int .i64 a11, .int .i64 r.left, .int .i64 r.inn, .int .i64 r.ver] 27 (0, 0)) := by rw [hW11]; exact heap_setCell_same W10 D 11 _ _ (.int .i64 a11) H10
  have B11 : ∀ B, B ≤ D → Below B w W11 := fun B h => by rw [hW11]; exact (B10 B h).setCell (p := ⟨D, 11, none⟩) h _
  obtain ⟨W12, hW12⟩ : ∃ W, W = W11.setCell ⟨D, 12, none⟩ (.int .i64 a12) := ⟨_, rfl⟩
  rw [← hW12]
  have H12 : W12.heap[D]? = some (.cells #[.int .i64 a0, .int .i64 a1, .int .i64 a2, .int .i64 a3, .int .i64 a4, .int .i64 a5, .int .i64 a6, .int .i64 a7, .int .i64 a8, .int .i64 a9, .int .i64 a10, .int .i64 a11, .int .i64 a12, .int .i64 r.inn, .int .i64 r.ver] 27 (0, 0)) := by rw [hW12]; exact heap_setCell_same W11 D 12 _ _ (.int .i64 a12) H11
  have B12 : ∀ B, B ≤ D → Below B w W12 := fun B h => by rw [hW12]; exact (B11 B h).setCell (p := ⟨D, 12, none⟩) h _
  obtain ⟨W13, hW13⟩ : ∃ W, W = W12.setCell ⟨D, 13, none⟩ (.int .i64 a13) := ⟨_, rfl⟩
  rw [← hW13]
  have H13 : W13.heap[D]? = some (.cells #[.int .i64 a0, .int .i64 a1, .int .i64 a2, .int .i64 a3, .int .i64 a4, .int .i64 a5, .int .i64 a6, .int .i64 a7, .int .i64 a8, .int .i64 a9, .int .i64 a10, .int .i64 a11, .int .i64 a12, .int .i64 a13, .int .i64 r.ver] 27 (0, 0)) := by rw [hW13]; exact heap_setCell_same W12 D 13 _ _ (.int .i64 a13) H12
  have B13 : ∀ B, B ≤ D → Below B w W13 := fun B h => by rw [hW13]; exact (B12 B h).setCell (p := ⟨D, 13, none⟩) h _
  obtain ⟨W14, hW14⟩ : ∃ W, W = W13.setCell ⟨D, 14, none⟩ (.int .i64 a14) := ⟨_, rfl⟩
  rw [← hW14]
  have H14 : W14.heap[D]? = some (.cells #[.int .i64 a0, .int .i64 a1, .int .i64 a2, .int .i64 a3, .int .i64 a4, .int .i64 a5, .int .i64 a6, .int .i64 a7, .int .i64 a8, .int .i64 a9, .int .i64 a10, .int .i64 a11, .int .i64 a12, .int .i64 a13, .int .i64 a14] 27 (0, 0)) := by rw [hW14]; exact heap_setCell_same W13 D 14 _ _ (.int .i64 a14) H13
  have B14 : ∀ B, B ≤ D → Below B w W14 := fun B h => by rw [hW14]; exact (B13 B h).setCell (p := ⟨D, 14, none⟩) h _
  exact ⟨_, rfl, H14, B14⟩
end Go.Proofs.Ytaldpioahnbkgaa
