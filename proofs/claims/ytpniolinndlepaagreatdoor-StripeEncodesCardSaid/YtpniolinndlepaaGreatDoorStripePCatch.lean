/-
  The deferred closure of Decode, for a frame that panics and one that returns. Conditions: none.
-/
import Derived.Test.YtpniolinndlepaaGreatDoorStripePRead
namespace Go.Proofs.YtpniolinndlepaaGreatDoor
set_option linter.unusedVariables false
open Go.ChangeShapes Go.WideShapes Go.ChangeAt Go.RowKit

set_option maxRecDepth 100000 in
set_option maxHeartbeats 1600000 in
theorem zero_cells (D F : Nat) (hDF : ¬ D = F) (r : Rg) (e0 E : Int) (w : World) (hd : RBox w D r) (hf : w.heap[F]? = some (.cells #[.int .i64 e0] 31 (0, 0))) :
    ∃ W, W = (((((((((((((((w.setCell ⟨D, 0, none⟩ (.int .i64 0)).setCell ⟨D, 1, none⟩ (.int .i64 0)).setCell ⟨D, 2, none⟩ (.int .i64 0)).setCell ⟨D, 3, none⟩ (.int .i64 0)).setCell ⟨D, 4, none⟩ (.int .i64 0)).setCell ⟨D, 5, none⟩ (.int .i64 0)).setCell ⟨D, 6, none⟩ (.int .i64 0)).setCell ⟨D, 7, none⟩ (.int .i64 0)).setCell ⟨D, 8, none⟩ (.int .i64 0)).setCell ⟨D, 9, none⟩ (.int .i64 0)).setCell ⟨D, 10, none⟩ (.int .i64 0)).setCell ⟨D, 11, none⟩ (.int .i64 0)).setCell ⟨D, 12, none⟩ (.int .i64 0)).setCell ⟨D, 13, none⟩ (.int .i64 0)).setCell ⟨D, 14, none⟩ (.int .i64 0)).setCell ⟨F, 0, none⟩ (.int .i64 E) ∧ RBox W D zeroR ∧ W.heap[F]? = some (.cells #[.int .i64 E] 31 (0, 0)) ∧ ∀ B, B ≤ D → B ≤ F → Below B w W := by
  have hFD : ¬ F = D := fun e => hDF e.symm
  have Hm : w.heap[D]? = some (.cells #[.int .i64 r.t.ser, .int .i64 r.t.kind, .int .i64 r.t.frm, .int .i64 r.t.till, .int .i64 r.t.cls, .int .i64 r.t.card, .int .i64 r.t.seat, .int .i64 r.t.day, .int .i64 r.t.days, .int .i64 r.t.uses, .int .i64 r.t.epoch, .int .i64 r.key, .int .i64 r.left, .int .i64 r.inn, .int .i64 r.ver] 28 (0, 0)) := hd
  have Bm : ∀ B, B ≤ D → Below B w w := fun B _ => Below.refl B w
  obtain ⟨W0, hW0⟩ : ∃ W, W = w.setCell ⟨D, 0, none⟩ (.int .i64 0) := ⟨_, rfl⟩
  rw [← hW0]
  have H0 : W0.heap[D]? = some (.cells #[.int .i64 0, .int .i64 r.t.kind, .int .i64 r.t.frm, .int .i64 r.t.till, .int .i64 r.t.cls, .int .i64 r.t.card, .int .i64 r.t.seat, .int .i64 r.t.day, .int .i64 r.t.days, .int .i64 r.t.uses, .int .i64 r.t.epoch, .int .i64 r.key, .int .i64 r.left, .int .i64 r.inn, .int .i64 r.ver] 28 (0, 0)) := by rw [hW0]; exact heap_setCell_same w D 0 _ _ (.int .i64 0) Hm
  have B0 : ∀ B, B ≤ D → Below B w W0 := fun B h => by rw [hW0]; exact (Bm B h).setCell (p := ⟨D, 0, none⟩) h _
  have G0 : W0.heap[F]? = some (.cells #[.int .i64 e0] 31 (0, 0)) := by rw [hW0]; exact (heap_setCell_other w ⟨D, 0, none⟩ F (.int .i64 0) hFD).trans hf
  obtain ⟨W1, hW1⟩ : ∃ W, W = W0.setCell ⟨D, 1, none⟩ (.int .i64 0) := ⟨_, rfl⟩
  rw [← hW1]
  have H1 : W1.heap[D]? = some (.cells #[.int .i64 0, .int .i64 0, .int .i64 r.t.frm, .int .i64 r.t.till, .int .i64 r.t.cls, .int .i64 r.t.card, .int .i64 r.t.seat, .int .i64 r.t.day, .int .i64 r.t.days, .int .i64 r.t.uses, .int .i64 r.t.epoch, .int .i64 r.key, .int .i64 r.left, .int .i64 r.inn, .int .i64 r.ver] 28 (0, 0)) := by rw [hW1]; exact heap_setCell_same W0 D 1 _ _ (.int .i64 0) H0
  have B1 : ∀ B, B ≤ D → Below B w W1 := fun B h => by rw [hW1]; exact (B0 B h).setCell (p := ⟨D, 1, none⟩) h _
  have G1 : W1.heap[F]? = some (.cells #[.int .i64 e0] 31 (0, 0)) := by rw [hW1]; exact (heap_setCell_other W0 ⟨D, 1, none⟩ F (.int .i64 0) hFD).trans G0
  obtain ⟨W2, hW2⟩ : ∃ W, W = W1.setCell ⟨D, 2, none⟩ (.int .i64 0) := ⟨_, rfl⟩
  rw [← hW2]
  have H2 : W2.heap[D]? = some (.cells #[.int .i64 0, .int .i64 0, .int .i64 0, .int .i64 r.t.till, .int .i64 r.t.cls, .int .i64 r.t.card, .int .i64 r.t.seat, .int .i64 r.t.day, .int .i64 r.t.days, .int .i64 r.t.uses, .int .i64 r.t.epoch, .int .i64 r.key, .int .i64 r.left, .int .i64 r.inn, .int .i64 r.ver] 28 (0, 0)) := by rw [hW2]; exact heap_setCell_same W1 D 2 _ _ (.int .i64 0) H1
  have B2 : ∀ B, B ≤ D → Below B w W2 := fun B h => by rw [hW2]; exact (B1 B h).setCell (p := ⟨D, 2, none⟩) h _
  have G2 : W2.heap[F]? = some (.cells #[.int .i64 e0] 31 (0, 0)) := by rw [hW2]; exact (heap_setCell_other W1 ⟨D, 2, none⟩ F (.int .i64 0) hFD).trans G1
  obtain ⟨W3, hW3⟩ : ∃ W, W = W2.setCell ⟨D, 3, none⟩ (.int .i64 0) := ⟨_, rfl⟩
  rw [← hW3]
  have H3 : W3.heap[D]? = some (.cells #[.int .i64 0, .int .i64 0, .int .i64 0, .int .i64 0, .int .i64 r.t.cls, .int .i64 r.t.card, .int .i64 r.t.seat, .int .i64 r.t.day, .int .i64 r.t.days, .int .i64 r.t.uses, .int .i64 r.t.epoch, .int .i64 r.key, .int .i64 r.left, .int .i64 r.inn, .int .i64 r.ver] 28 (0, 0)) := by rw [hW3]; exact heap_setCell_same W2 D 3 _ _ (.int .i64 0) H2
  have B3 : ∀ B, B ≤ D → Below B w W3 := fun B h => by rw [hW3]; exact (B2 B h).setCell (p := ⟨D, 3, none⟩) h _
  have G3 : W3.heap[F]? = some (.cells #[.int .i64 e0] 31 (0, 0)) := by rw [hW3]; exact (heap_setCell_other W2 ⟨D, 3, none⟩ F (.int .i64 0) hFD).trans G2
  obtain ⟨W4, hW4⟩ : ∃ W, W = W3.setCell ⟨D, 4, none⟩ (.int .i64 0) := ⟨_, rfl⟩
  rw [← hW4]
  have H4 : W4.heap[D]? = some (.cells #[.int .i64 0, .int .i64 0, .int .i64 0, .int .i64 0, .int .i64 0, .int .i64 r.t.card, .int .i64 r.t.seat, .int .i64 r.t.day, .int .i64 r.t.days, .int .i64 r.t.uses, .int .i64 r.t.epoch, .int .i64 r.key, .int .i64 r.left, .int .i64 r.inn, .int .i64 r.ver] 28 (0, 0)) := by rw [hW4]; exact heap_setCell_same W3 D 4 _ _ (.int .i64 0) H3
  have B4 : ∀ B, B ≤ D → Below B w W4 := fun B h => by rw [hW4]; exact (B3 B h).setCell (p := ⟨D, 4, none⟩) h _
  have G4 : W4.heap[F]? = some (.cells #[.int .i64 e0] 31 (0, 0)) := by rw [hW4]; exact (heap_setCell_other W3 ⟨D, 4, none⟩ F (.int .i64 0) hFD).trans G3
  obtain ⟨W5, hW5⟩ : ∃ W, W = W4.setCell ⟨D, 5, none⟩ (.int .i64 0) := ⟨_, rfl⟩
  rw [← hW5]
  have H5 : W5.heap[D]? = some (.cells #[.int .i64 0, .int .i64 0, .int .i64 0, .int .i64 0, .int .i64 0, .int .i64 0, .int .i64 r.t.seat, .int .i64 r.t.day, .int .i64 r.t.days, .int .i64 r.t.uses, .int .i64 r.t.epoch, .int .i64 r.key, .int .i64 r.left, .int .i64 r.inn, .int .i64 r.ver] 28 (0, 0)) := by rw [hW5]; exact heap_setCell_same W4 D 5 _ _ (.int .i64 0) H4
  have B5 : ∀ B, B ≤ D → Below B w W5 := fun B h => by rw [hW5]; exact (B4 B h).setCell (p := ⟨D, 5, none⟩) h _
  have G5 : W5.heap[F]? = some (.cells #[.int .i64 e0] 31 (0, 0)) := by rw [hW5]; exact (heap_setCell_other W4 ⟨D, 5, none⟩ F (.int .i64 0) hFD).trans G4
  obtain ⟨W6, hW6⟩ : ∃ W, W = W5.setCell ⟨D, 6, none⟩ (.int .i64 0) := ⟨_, rfl⟩
  rw [← hW6]
  have H6 : W6.heap[D]? = some (.cells #[.int .i64 0, .int .i64 0, .int .i64 0, .int .i64 0, .int .i64 0, .int .i64 0, .int .i64 0, .int .i64 r.t.day, .int .i64 r.t.days, .int .i64 r.t.uses, .int .i64 r.t.epoch, .int .i64 r.key, .int .i64 r.left, .int .i64 r.inn, .int .i64 r.ver] 28 (0, 0)) := by rw [hW6]; exact heap_setCell_same W5 D 6 _ _ (.int .i64 0) H5
  have B6 : ∀ B, B ≤ D → Below B w W6 := fun B h => by rw [hW6]; exact (B5 B h).setCell (p := ⟨D, 6, none⟩) h _
  have G6 : W6.heap[F]? = some (.cells #[.int .i64 e0] 31 (0, 0)) := by rw [hW6]; exact (heap_setCell_other W5 ⟨D, 6, none⟩ F (.int .i64 0) hFD).trans G5
  obtain ⟨W7, hW7⟩ : ∃ W, W = W6.setCell ⟨D, 7, none⟩ (.int .i64 0) := ⟨_, rfl⟩
  rw [← hW7]
  have H7 : W7.heap[D]? = some (.cells #[.int .i64 0, .int .i64 0, .int .i64 0, .int .i64 0, .int .i64 0, .int .i64 0, .int .i64 0, .int .i64 0, .int .i64 r.t.days, .int .i64 r.t.uses, .int .i64 r.t.epoch, .int .i64 r.key, .int .i64 r.left, .int .i64 r.inn, .int .i64 r.ver] 28 (0, 0)) := by rw [hW7]; exact heap_setCell_same W6 D 7 _ _ (.int .i64 0) H6
  have B7 : ∀ B, B ≤ D → Below B w W7 := fun B h => by rw [hW7]; exact (B6 B h).setCell (p := ⟨D, 7, none⟩) h _
  have G7 : W7.heap[F]? = some (.cells #[.int .i64 e0] 31 (0, 0)) := by rw [hW7]; exact (heap_setCell_other W6 ⟨D, 7, none⟩ F (.int .i64 0) hFD).trans G6
  obtain ⟨W8, hW8⟩ : ∃ W, W = W7.setCell ⟨D, 8, none⟩ (.int .i64 0) := ⟨_, rfl⟩
  rw [← hW8]
  have H8 : W8.heap[D]? = some (.cells #[.int .i64 0, .int .i64 0, .int .i64 0, .int .i64 0, .int .i64 0, .int .i64 0, .int .i64 0, .int .i64 0, .int .i64 0, .int .i64 r.t.uses, .int .i64 r.t.epoch, .int .i64 r.key, .int .i64 r.left, .int .i64 r.inn, .int .i64 r.ver] 28 (0, 0)) := by rw [hW8]; exact heap_setCell_same W7 D 8 _ _ (.int .i64 0) H7
  have B8 : ∀ B, B ≤ D → Below B w W8 := fun B h => by rw [hW8]; exact (B7 B h).setCell (p := ⟨D, 8, none⟩) h _
  have G8 : W8.heap[F]? = some (.cells #[.int .i64 e0] 31 (0, 0)) := by rw [hW8]; exact (heap_setCell_other W7 ⟨D, 8, none⟩ F (.int .i64 0) hFD).trans G7
  obtain ⟨W9, hW9⟩ : ∃ W, W = W8.setCell ⟨D, 9, none⟩ (.int .i64 0) := ⟨_, rfl⟩
  rw [← hW9]
  have H9 : W9.heap[D]? = some (.cells #[.int .i64 0, .int .i64 0, .int .i64 0, .int .i64 0, .int .i64 0, .int .i64 0, .int .i64 0, .int .i64 0, .int .i64 0, .int .i64 0, .int .i64 r.t.epoch, .int .i64 r.key, .int .i64 r.left, .int .i64 r.inn, .int .i64 r.ver] 28 (0, 0)) := by rw [hW9]; exact heap_setCell_same W8 D 9 _ _ (.int .i64 0) H8
  have B9 : ∀ B, B ≤ D → Below B w W9 := fun B h => by rw [hW9]; exact (B8 B h).setCell (p := ⟨D, 9, none⟩) h _
  have G9 : W9.heap[F]? = some (.cells #[.int .i64 e0] 31 (0, 0)) := by rw [hW9]; exact (heap_setCell_other W8 ⟨D, 9, none⟩ F (.int .i64 0) hFD).trans G8
  obtain ⟨W10, hW10⟩ : ∃ W, W = W9.setCell ⟨D, 10, none⟩ (.int .i64 0) := ⟨_, rfl⟩
  rw [← hW10]
  have H10 : W10.heap[D]? = some (.cells #[.int .i64 0, .int .i64 0, .int .i64 0, .int .i64 0, .int .i64 0, .int .i64 0, .int .i64 0, .int .i64 0, .int .i64 0, .int .i64 0, .int .i64 0, .int .i64 r.key, .int .i64 r.left, .int .i64 r.inn, .int .i64 r.ver] 28 (0, 0)) := by rw [hW10]; exact heap_setCell_same W9 D 10 _ _ (.int .i64 0) H9
  have B10 : ∀ B, B ≤ D → Below B w W10 := fun B h => by rw [hW10]; exact (B9 B h).setCell (p := ⟨D, 10, none⟩) h _
  have G10 : W10.heap[F]? = some (.cells #[.int .i64 e0] 31 (0, 0)) := by rw [hW10]; exact (heap_setCell_other W9 ⟨D, 10, none⟩ F (.int .i64 0) hFD).trans G9
  obtain ⟨W11, hW11⟩ : ∃ W, W = W10.setCell ⟨D, 11, none⟩ (.int .i64 0) := ⟨_, rfl⟩
  rw [← hW11]
  have H11 : W11.heap[D]? = some (.cells #[.int .i64 0, .int .i64 0, .int .i64 0, .int .i64 0, .int .i64 0, .int .i64 0, .int .i64 0, .int .i64 0, .int .i64 0, .int .i64 0, .int .i64 0, .int .i64 0, .int .i64 r.left, .int .i64 r.inn, .int .i64 r.ver] 28 (0, 0)) := by rw [hW11]; exact heap_setCell_same W10 D 11 _ _ (.int .i64 0) H10
  have B11 : ∀ B, B ≤ D → Below B w W11 := fun B h => by rw [hW11]; exact (B10 B h).setCell (p := ⟨D, 11, none⟩) h _
  have G11 : W11.heap[F]? = some (.cells #[.int .i64 e0] 31 (0, 0)) := by rw [hW11]; exact (heap_setCell_other W10 ⟨D, 11, none⟩ F (.int .i64 0) hFD).trans G10
  obtain ⟨W12, hW12⟩ : ∃ W, W = W11.setCell ⟨D, 12, none⟩ (.int .i64 0) := ⟨_, rfl⟩
  rw [← hW12]
  have H12 : W12.heap[D]? = some (.cells #[.int .i64 0, .int .i64 0, .int .i64 0, .int .i64 0, .int .i64 0, .int .i64 0, .int .i64 0, .int .i64 0, .int .i64 0, .int .i64 0, .int .i64 0, .int .i64 0, .int .i64 0, .int .i64 r.inn, .int .i64 r.ver] 28 (0, 0)) := by rw [hW12]; exact heap_setCell_same W11 D 12 _ _ (.int .i64 0) H11
  have B12 : ∀ B, B ≤ D → Below B w W12 := fun B h => by rw [hW12]; exact (B11 B h).setCell (p := ⟨D, 12, none⟩) h _
  have G12 : W12.heap[F]? = some (.cells #[.int .i64 e0] 31 (0, 0)) := by rw [hW12]; exact (heap_setCell_other W11 ⟨D, 12, none⟩ F (.int .i64 0) hFD).trans G11
  obtain ⟨W13, hW13⟩ : ∃ W, W = W12.setCell ⟨D, 13, none⟩ (.int .i64 0) := ⟨_, rfl⟩
  rw [← hW13]
  have H13 : W13.heap[D]? = some (.cells #[.int .i64 0, .int .i64 0, .int .i64 0, .int .i64 0, .int .i64 0, .int .i64 0, .int .i64 0, .int .i64 0, .int .i64 0, .int .i64 0, .int .i64 0, .int .i64 0, .int .i64 0, .int .i64 0, .int .i64 r.ver] 28 (0, 0)) := by rw [hW13]; exact heap_setCell_same W12 D 13 _ _ (.int .i64 0) H12
  have B13 : ∀ B, B ≤ D → Below B w W13 := fun B h => by rw [hW13]; exact (B12 B h).setCell (p := ⟨D, 13, none⟩) h _
  have G13 : W13.heap[F]? = some (.cells #[.int .i64 e0] 31 (0, 0)) := by rw [hW13]; exact (heap_setCell_other W12 ⟨D, 13, none⟩ F (.int .i64 0) hFD).trans G12
  obtain ⟨W14, hW14⟩ : ∃ W, W = W13.setCell ⟨D, 14, none⟩ (.int .i64 0) := ⟨_, rfl⟩
  rw [← hW14]
  have H14 : W14.heap[D]? = some (.cells #[.int .i64 0, .int .i64 0, .int .i64 0, .int .i64 0, .int .i64 0, .int .i64 0, .int .i64 0, .int .i64 0, .int .i64 0, .int .i64 0, .int .i64 0, .int .i64 0, .int .i64 0, .int .i64 0, .int .i64 0] 28 (0, 0)) := by rw [hW14]; exact heap_setCell_same W13 D 14 _ _ (.int .i64 0) H13
  have B14 : ∀ B, B ≤ D → Below B w W14 := fun B h => by rw [hW14]; exact (B13 B h).setCell (p := ⟨D, 14, none⟩) h _
  have G14 : W14.heap[F]? = some (.cells #[.int .i64 e0] 31 (0, 0)) := by rw [hW14]; exact (heap_setCell_other W13 ⟨D, 14, none⟩ F (.int .i64 0) hFD).trans G13
  exact ⟨_, rfl, (heap_setCell_other W14 ⟨F, 0, none⟩ D (.int .i64 E) hDF).trans H14, heap_setCell_same W14 F 0 _ _ (.int .i64 E) G14, fun B h1 h2 => (B14 B h1).setCell (p := ⟨F, 0, none⟩) h2 _⟩
set_option maxRecDepth 100000 in
set_option maxHeartbeats 1600000 in
theorem dcatch_told (D F : Nat) (hDF : ¬ D = F) (r : Rg) (e0 E : Int) (w : World) (hd : RBox w D r) (hf : w.heap[F]? = some (.cells #[.int .i64 e0] 31 (0, 0))) :
    CallsD Tryz.prog 32 #[.pointer (some ⟨D, 0, none⟩), .pointer (some ⟨F, 0, none⟩)] (.panicking (told E)) w fun e u' w' =>
      e = .returned (.tuple #[]) ∧ u' = .panicking [{ v := .iface 31 (.int .i64 E), recovered := true }] ∧ RBox w' D zeroR ∧ w'.heap[F]? = some (.cells #[.int .i64 E] 31 (0, 0)) ∧ ∀ B, B ≤ D → B ≤ F → Below B w w' := by
  obtain ⟨c0, c1, c2, c3, c4, c5, c6, c7, c8, c9, c10, c11, c12, c13, c14⟩ := hd.cells
  have z0 := hd.frozen 0
  have z1 := hd.frozen 1
  have z2 := hd.frozen 2
  have z3 := hd.frozen 3
  have z4 := hd.frozen 4
  have z5 := hd.frozen 5
  have z6 := hd.frozen 6
  have z7 := hd.frozen 7
  have z8 := hd.frozen 8
  have z9 := hd.frozen 9
  have z10 := hd.frozen 10
  have z11 := hd.frozen 11
  have z12 := hd.frozen 12
  have z13 := hd.frozen 13
  have z14 := hd.frozen 14
  have c1F : w.cell? ⟨F, 0, none⟩ = some (.int .i64 e0) := cell_of_row w F 0 _ _ _ hf
  have f1F : w.frozen? ⟨F, 0, none⟩ = false := frozen_of_row w F 0 _ _ hf
  refine callsD_of_wpS Tryz.func32 rfl fun c₀ cs hu => ?_
  unfold told at hu
  apply wpS_seq
  apply wpS_region
  simp [wpOpsS, go_sem, recoverD, hu, Tryz.ntmps32, Exit.thenS]
  refine wpS_of_wp ?_
  have hneq : ∀ w : World, (binOp BinOp.neq 20 (.iface 31 (.int .i64 E)) .nilIface).run Tryz.prog w = .ok (.bool true) w := fun _ => by first | rfl | kernel_rfl
  change Code.wp _ _ _ { tmps := #[.pointer (some ⟨D, 0, none⟩), .pointer (some ⟨F, 0, none⟩), .iface 31 (.int .i64 E), .iface 31 (.int .i64 E), undef, undef, undef, undef, undef], defers := [] } w
  go_wp2
  have hta : ∀ w : World, (Instr.typeAssert (.iface 31 (.int .i64 E)) 20 31 false).run Tryz.prog w = .ok (.int .i64 E) w := fun _ => by first | rfl | kernel_rfl
  have hFD : ¬ F = D := fun e => hDF e.symm
  go_region
  go_wp2
  obtain ⟨W, hW, k1, k2, k3⟩ := zero_cells D F hDF r e0 E w hd hf
  rw [← hW]
  exact ⟨rfl, _, rfl, .tuple #[], by simp [results, Tryz.results32], rfl, rfl, k1, k2, fun B h1 h2 => (k3 B h1 h2).drew⟩
set_option maxRecDepth 100000 in
set_option maxHeartbeats 1600000 in
theorem dcatch_idle (p q : Addr) (w : World) :
    CallsD Tryz.prog 32 #[.pointer (some p), .pointer (some q)] .returning w fun e u' w' => e = .returned (.tuple #[]) ∧ u' = .returning ∧ w' = w := by
  refine callsD_of_wpS Tryz.func32 rfl fun c₀ cs hu => ?_
  apply wpS_seq
  apply wpS_region
  simp [wpOpsS, go_sem, recoverD, hu, Tryz.ntmps32, Exit.thenS]
  refine wpS_of_wp ?_
  have hneq : ∀ w : World, (binOp BinOp.neq 20 .nilIface .nilIface).run Tryz.prog w = .ok (.bool false) w := fun _ => by first | rfl | kernel_rfl
  change Code.wp _ _ _ { tmps := #[.pointer (some p), .pointer (some q), .nilIface, .nilIface, undef, undef, undef, undef, undef], defers := [] } w
  go_wp2
  refine ⟨rfl, .returning, ?_, .tuple #[], by simp [results, Tryz.results32], rfl, rfl, rfl⟩
  cases c₀
  simp_all
end Go.Proofs.YtpniolinndlepaaGreatDoor
