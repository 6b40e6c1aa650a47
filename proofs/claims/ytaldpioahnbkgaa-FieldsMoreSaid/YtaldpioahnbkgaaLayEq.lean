/-
  Two readings compared, part by part. Conditions: none.
-/
import Derived.Test.YtaldpioahnbkgaaRgBox
import Derived.Laws.StructEq
namespace Go.Proofs.Ytaldpioahnbkgaa
set_option linter.unusedVariables false
open Go.ChangeShapes Go.WideShapes Go.ChangeAt Go.RowKit

theorem two_cells {w : World} {a b : Nat} {r s : Rg} (h : RBox w a r) (g : RBox w b s) : w.cell? ⟨a, 0, none⟩ = some (.int .i64 r.t.ser) ∧ w.cell? ⟨a, 1, none⟩ = some (.int .i64 r.t.kind) ∧ w.cell? ⟨a, 2, none⟩ = some (.int .i64 r.t.frm) ∧ w.cell? ⟨a, 3, none⟩ = some (.int .i64 r.t.till) ∧ w.cell? ⟨a, 4, none⟩ = some (.int .i64 r.t.cls) ∧ w.cell? ⟨a, 5, none⟩ = some (.int .i64 r.t.card) ∧ w.cell? ⟨a, 6, none⟩ = some (.int .i64 r.t.seat) ∧ w.cell? ⟨a, 7, none⟩ = some (.int .i64 r.t.day) ∧ w.cell? ⟨a, 8, none⟩ = some (.int .i64 r.t.days) ∧ w.cell? ⟨a, 9, none⟩ = some (.int .i64 r.t.uses) ∧ w.cell? ⟨a, 10, none⟩ = some (.int .i64 r.t.epoch) ∧ w.cell? ⟨a, 11, none⟩ = some (.int .i64 r.key) ∧ w.cell? ⟨a, 12, none⟩ = some (.int .i64 r.left) ∧ w.cell? ⟨a, 13, none⟩ = some (.int .i64 r.inn) ∧ w.cell? ⟨a, 14, none⟩ = some (.int .i64 r.ver) ∧ w.cell? ⟨b, 0, none⟩ = some (.int .i64 s.t.ser) ∧ w.cell? ⟨b, 1, none⟩ = some (.int .i64 s.t.kind) ∧ w.cell? ⟨b, 2, none⟩ = some (.int .i64 s.t.frm) ∧ w.cell? ⟨b, 3, none⟩ = some (.int .i64 s.t.till) ∧ w.cell? ⟨b, 4, none⟩ = some (.int .i64 s.t.cls) ∧ w.cell? ⟨b, 5, none⟩ = some (.int .i64 s.t.card) ∧ w.cell? ⟨b, 6, none⟩ = some (.int .i64 s.t.seat) ∧ w.cell? ⟨b, 7, none⟩ = some (.int .i64 s.t.day) ∧ w.cell? ⟨b, 8, none⟩ = some (.int .i64 s.t.days) ∧ w.cell? ⟨b, 9, none⟩ = some (.int .i64 s.t.uses) ∧ w.cell? ⟨b, 10, none⟩ = some (.int .i64 s.t.epoch) ∧ w.cell? ⟨b, 11, none⟩ = some (.int .i64 s.key) ∧ w.cell? ⟨b, 12, none⟩ = some (.int .i64 s.left) ∧ w.cell? ⟨b, 13, none⟩ = some (.int .i64 s.inn) ∧ w.cell? ⟨b, 14, none⟩ = some (.int .i64 s.ver) := by
  obtain ⟨c0, c1, c2, c3, c4, c5, c6, c7, c8, c9, c10, c11, c12, c13, c14⟩ := h.cells
  obtain ⟨d0, d1, d2, d3, d4, d5, d6, d7, d8, d9, d10, d11, d12, d13, d14⟩ := g.cells
  exact ⟨c0, c1, c2, c3, c4, c5, c6, c7, c8, c9, c10, c11, c12, c13, c14, d0, d1, d2, d3, d4, d5, d6, d7, d8, d9, d10, d11, d12, d13, d14⟩
def rgB (r s : Rg) : Bool := (r.t.ser == s.t.ser) && ((r.t.kind == s.t.kind) && ((r.t.frm == s.t.frm) && ((r.t.till == s.t.till) && ((r.t.cls == s.t.cls) && ((r.t.card == s.t.card) && ((r.t.seat == s.t.seat) && ((r.t.day == s.t.day) && ((r.t.days == s.t.days) && ((r.t.uses == s.t.uses) && ((r.t.epoch == s.t.epoch) && ((r.key == s.key) && ((r.left == s.left) && ((r.inn == s.inn) && ((r.ver == s.ver)))))))))))))))
theorem rgB_self (r : Rg) : rgB r r = true := by simp [rgB]
theorem rgB_iff (r s : Rg) : rgB r s = true ↔ r = s := by
  constructor
  · intro h
    simp [rgB] at h
    obtain ⟨⟨a0, a1, a2, a3, a4, a5, a6, a7, a8, a9, a10⟩, a11, a12, a13, a14⟩ := r
    obtain ⟨⟨b0, b1, b2, b3, b4, b5, b6, b7, b8, b9, b10⟩, b11, b12, b13, b14⟩ := s
    simp at h ⊢
    omega
  · rintro rfl; exact rgB_self r
theorem rgB_of_eq {r s : Rg} (h0 : r.t.ser = s.t.ser) (h1 : r.t.kind = s.t.kind) (h2 : r.t.frm = s.t.frm) (h3 : r.t.till = s.t.till) (h4 : r.t.cls = s.t.cls) (h5 : r.t.card = s.t.card) (h6 : r.t.seat = s.t.seat) (h7 : r.t.day = s.t.day) (h8 : r.t.days = s.t.days) (h9 : r.t.uses = s.t.uses) (h10 : r.t.epoch = s.t.epoch) (h11 : r.key = s.key) (h12 : r.left = s.left) (h13 : r.inn = s.inn) (h14 : r.ver = s.ver) : rgB r s = true := by rw [rgB, h0, h1, h2, h3, h4, h5, h6, h7, h8, h9, h10, h11, h12, h13, h14]; simp
set_option maxRecDepth 100000 in
set_option maxHeartbeats 1600000 in
theorem read_eq (r s : Rg) (w : World) : (Op.equalIn 10000 27 (.agg #[.int .i64 r.t.ser, .int .i64 r.t.kind, .int .i64 r.t.frm, .int .i64 r.t.till, .int .i64 r.t.cls, .int .i64 r.t.card, .int .i64 r.t.seat, .int .i64 r.t.day, .int .i64 r.t.days, .int .i64 r.t.uses, .int .i64 r.t.epoch, .int .i64 r.key, .int .i64 r.left, .int .i64 r.inn, .int .i64 r.ver]) (.agg #[.int .i64 s.t.ser, .int .i64 s.t.kind, .int .i64 s.t.frm, .int .i64 s.t.till, .int .i64 s.t.cls, .int .i64 s.t.card, .int .i64 s.t.seat, .int .i64 s.t.day, .int .i64 s.t.days, .int .i64 s.t.uses, .int .i64 s.t.epoch, .int .i64 s.key, .int .i64 s.left, .int .i64 s.inn, .int .i64 s.ver])).run Try.prog w = .ok (rgB r s) w := by
  go_simp
  by_cases h0 : r.t.ser = s.t.ser
  rotate_left
  · rw [if_neg h0, rgB, show (r.t.ser == s.t.ser) = false by rw [beq_eq_false_iff_ne]; exact h0]
    simp
  rw [if_pos h0]
  by_cases h1 : r.t.kind = s.t.kind
  rotate_left
  · rw [if_neg h1, rgB, show (r.t.kind == s.t.kind) = false by rw [beq_eq_false_iff_ne]; exact h1]
    simp
  rw [if_pos h1]
  by_cases h2 : r.t.frm = s.t.frm
  rotate_left
  · rw [if_neg h2, rgB, show (r.t.frm == s.t.frm) = false by rw [beq_eq_false_iff_ne]; exact h2]
    simp
  rw [if_pos h2]
  by_cases h3 : r.t.till = s.t.till
  rotate_left
  · rw [if_neg h3, rgB, show (r.t.till == s.t.till) = false by rw [beq_eq_false_iff_ne]; exact h3]
    simp
  rw [if_pos h3]
  by_cases h4 : r.t.cls = s.t.cls
  rotate_left
  · rw [if_neg h4, rgB, show (r.t.cls == s.t.cls) = false by rw [beq_eq_false_iff_ne]; exact h4]
    simp
  rw [if_pos h4]
  by_cases h5 : r.t.card = s.t.card
  rotate_left
  · rw [if_neg h5, rgB, show (r.t.card == s.t.card) = false by rw [beq_eq_false_iff_ne]; exact h5]
    simp
  rw [if_pos h5]
  by_cases h6 : r.t.seat = s.t.seat
  rotate_left
  · rw [if_neg h6, rgB, show (r.t.seat == s.t.seat) = false by rw [beq_eq_false_iff_ne]; exact h6]
    simp
  rw [if_pos h6]
  by_cases h7 : r.t.day = s.t.day
  rotate_left
  · rw [if_neg h7, rgB, show (r.t.day == s.t.day) = false by rw [beq_eq_false_iff_ne]; exact h7]
    simp
  rw [if_pos h7]
  by_cases h8 : r.t.days = s.t.days
  rotate_left
  · rw [if_neg h8, rgB, show (r.t.days == s.t.days) = false by rw [beq_eq_false_iff_ne]; exact h8]
    simp
  rw [if_pos h8]
  by_cases h9 : r.t.uses = s.t.uses
  rotate_left
  · rw [if_neg h9, rgB, show (r.t.uses == s.t.uses) = false by rw [beq_eq_false_iff_ne]; exact h9]
    simp
  rw [if_pos h9]
  by_cases h10 : r.t.epoch = s.t.epoch
  rotate_left
  · rw [if_neg h10, rgB, show (r.t.epoch == s.t.epoch) = false by rw [beq_eq_false_iff_ne]; exact h10]
    simp
  rw [if_pos h10]
  by_cases h11 : r.key = s.key
  rotate_left
  · rw [if_neg h11, rgB, show (r.key == s.key) = false by rw [beq_eq_false_iff_ne]; exact h11]
    simp
  rw [if_pos h11]
  by_cases h12 : r.left = s.left
  rotate_left
  · rw [if_neg h12, rgB, show (r.left == s.left) = false by rw [beq_eq_false_iff_ne]; exact h12]
    simp
  rw [if_pos h12]
  by_cases h13 : r.inn = s.inn
  rotate_left
  · rw [if_neg h13, rgB, show (r.inn == s.inn) = false by rw [beq_eq_false_iff_ne]; exact h13]
    simp
  rw [if_pos h13]
  by_cases h14 : r.ver = s.ver
  rotate_left
  · rw [if_neg h14, rgB, show (r.ver == s.ver) = false by rw [beq_eq_false_iff_ne]; exact h14]
    simp
  rw [if_pos h14]
  rw [rgB_of_eq h0 h1 h2 h3 h4 h5 h6 h7 h8 h9 h10 h11 h12 h13 h14]

end Go.Proofs.Ytaldpioahnbkgaa
