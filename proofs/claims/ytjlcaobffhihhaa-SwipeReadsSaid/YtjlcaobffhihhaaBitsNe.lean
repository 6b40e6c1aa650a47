/-
  Five bits compared with five bits. Conditions: none.
-/
import Derived.Test.YtjlcaobffhihhaaBitsEq
namespace Go.Proofs.Ytjlcaobffhihhaa
set_option linter.unusedVariables false
open Go.ChangeShapes Go.WideShapes Go.ChangeAt Go.RowKit

section
variable {P : Program} (w : World)
theorem run_equalIn_bools2 (d : Nat) (t e : TypeId) (n : Nat) (ht : P.underlying t = some (.array n e)) (he : P.underlying e = some .bool) (hsz : ∀ w, (sizeOf e).run P w = .ok 1 w)
    (xs ys : List Bool) (hx : xs.length = n) (hy : ys.length = n) :
    (Op.equalIn (d + 2) t (.agg (xs.map Value.bool).toArray) (.agg (ys.map Value.bool).toArray)).run P w = .ok (decide (∀ i ∈ List.range' 0 n 1, xs.getD i false = ys.getD i false)) w := by
  rw [Op.equalIn]
  simp only [Sem.run_bind, run_underlying ht, Result.andThen_ok, hsz, Std.Legacy.Range.forIn_eq_forIn_range', Std.Legacy.Range.size, Nat.sub_zero, Nat.add_sub_cancel, Nat.div_one]
  have hl : ∀ i ∈ List.range' 0 n 1, i < n := fun i hi => by simpa using (List.mem_range'_1.1 hi).2
  generalize List.range' 0 n 1 = l at hl ⊢
  induction l with
  | nil => simp
  | cons i l ih =>
    have hi : i < n := hl i (by simp)
    have px : (part e (xs.map Value.bool).toArray (i * 1)).run P w = .ok (.bool (xs.getD i false)) w := by
      simp [part, isAgg, run_underlying he, List.getD, List.getElem?_eq_getElem (show i < xs.length by omega)]
    have py : (part e (ys.map Value.bool).toArray (i * 1)).run P w = .ok (.bool (ys.getD i false)) w := by
      simp [part, isAgg, run_underlying he, List.getD, List.getElem?_eq_getElem (show i < ys.length by omega)]
    have pe := run_equalIn_bool w d e (xs.getD i false) (ys.getD i false) he
    simp only [List.forIn_cons, Sem.run_bind, px, py, pe, Result.andThen_ok]
    by_cases hxy : xs.getD i false = ys.getD i false
    · have hb : (xs.getD i false == ys.getD i false) = true := by rw [beq_iff_eq]; exact hxy
      rw [hb]
      simp only [Bool.not_true, Bool.false_eq_true, if_false, Sem.run_pure, Result.andThen_ok]
      rw [ih fun j hj => hl j (by simp [hj])]
      congr 1
      rw [decide_eq_decide]
      simp only [List.forall_mem_cons]
      exact ⟨fun h => ⟨hxy, h⟩, fun h => h.2⟩
    · have hb : (xs.getD i false == ys.getD i false) = false := by rw [beq_eq_false_iff_ne]; exact hxy
      rw [hb]
      have hf : decide (∀ j ∈ i :: l, xs.getD j false = ys.getD j false) = false := by
        rw [decide_eq_false_iff_not]
        intro h
        exact hxy (h i (by simp))
      rw [hf]
      simp
end
theorem b5_all (b g : B5) : decide (∀ i ∈ List.range' 0 5 1, [b.b0, b.b1, b.b2, b.b3, b.b4].getD i false = [g.b0, g.b1, g.b2, g.b3, g.b4].getD i false) = decide (b = g) := by
  rw [decide_eq_decide]
  obtain ⟨b0, b1, b2, b3, b4⟩ := b
  obtain ⟨g0, g1, g2, g3, g4⟩ := g
  constructor
  · intro h
    have h0 := h 0 (by decide)
    have h1 := h 1 (by decide)
    have h2 := h 2 (by decide)
    have h3 := h 3 (by decide)
    have h4 := h 4 (by decide)
    simp at h0 h1 h2 h3 h4
    rw [h0, h1, h2, h3, h4]
  · intro h
    rw [h]
    intro i _
    rfl
theorem b5_equal (b g : B5) (w : World) : (Op.equalIn 10000 50 (.agg #[.bool b.b0, .bool b.b1, .bool b.b2, .bool b.b3, .bool b.b4]) (.agg #[.bool g.b0, .bool g.b1, .bool g.b2, .bool g.b3, .bool g.b4])).run Try.prog w = .ok (decide (b = g)) w := by
  rw [← b5_all b g]
  exact run_equalIn_bools2 w 9998 50 4 5 Try.underlying50 Try.underlying4 sizeRunBool [b.b0, b.b1, b.b2, b.b3, b.b4] [g.b0, g.b1, g.b2, g.b3, g.b4] rfl rfl
end Go.Proofs.Ytjlcaobffhihhaa
