/-
  What the laws of layer 6 want of the four functions of package day: contracts, as one premise. Conditions: none.
-/
import Derived.Test.YtiekfcpinljcjaaDayRefDate
import Derived.Test.YtiekfcpinljcjaaDayRefOf
import Derived.Test.YtiekfcpinljcjaaIn64
namespace Go.Proofs.Ytiekfcpinljcjaa
set_option linter.unusedVariables false
open Go.ChangeShapes Go.WideShapes Go.ChangeAt Go.RowKit

structure DC : Prop where
  leap : ∀ (y : Int) (b : Bool) (w : World), In64 y → leapN y = b → Calls Try.prog 12 #[.int .i64 y] w fun e w' => e = .returned (.bool b) ∧ Below w.heap.size w w'
  date : ∀ (n : Int) (d : D) (E : Int) (w : World), In64 n → dateD n = d → dateE n = E → Calls Try.prog 7 #[.int .i64 n] w fun e w' => e = .returned (.tuple #[.agg #[.int .i64 d.y, .int .i64 d.m, .int .i64 d.d], .int .i64 E]) ∧ Below w.heap.size w w'
  of : ∀ (d : D) (n E : Int) (w : World), In64 d.y → In64 d.m → In64 d.d → ofN d = n → ofE d = E → Calls Try.prog 9 #[.agg #[.int .i64 d.y, .int .i64 d.m, .int .i64 d.d]] w fun e w' => e = .returned (.tuple #[.int .i64 n, .int .i64 E]) ∧ Below w.heap.size w w'
  week : ∀ (n E : Int) (w : World), In64 n → dateE n = E → Calls Try.prog 14 #[.int .i64 n] w fun e w' => ∃ v : Int, e = .returned (.tuple #[.int .i64 v, .int .i64 E]) ∧ (okN n = true → v = (n + 5) % 7) ∧ Below w.heap.size w w'
theorem dbox_made {w1 w2 : World} {cc : Array Value} {d : D} (h : w2 = (w1.alloc (.cells cc 23)).setRow w1.heap.size #[.int .i64 d.y, .int .i64 d.m, .int .i64 d.d]) :
    DBox w2 w1.heap.size d ∧ Below w1.heap.size w1 w2 := by
  subst h
  exact ⟨setRow_heap _ _ _ _ _ _ (heap_alloc_new w1 _), below_setRow ((Below.refl _ _).alloc (Nat.le_refl _) _) (Nat.le_refl _) _⟩
theorem date_in {n : Int} : In64 (dateD n).y ∧ In64 (dateD n).m ∧ In64 (dateD n).d := by
  unfold In64
  cases h : okN n with
  | false => rw [dateD, if_neg (by rw [h]; decide)]; exact ⟨by decide, by decide, by decide⟩
  | true =>
    have hn := (okN_iff n).1 h
    have hs := mday_spec n.toNat
    have ht : (mday n.toNat).1 ≤ 3611 := ix_small (by omega)
    have hl := len_le (mday n.toNat).1
    rw [dateD, if_pos h]
    refine ⟨?_, ?_, ?_⟩
    · show _ ≤ yr _ ∧ yr _ ≤ _; unfold yr; omega
    · show _ ≤ mo _ ∧ mo _ ≤ _; unfold mo; omega
    · show _ ≤ ((mday n.toNat).2 : Int) + 1 ∧ ((mday n.toNat).2 : Int) + 1 ≤ _; omega
theorem of_in {d : D} : In64 (ofN d) := by
  unfold In64
  cases h : okD d with
  | false => rw [ofN, if_neg (by rw [h]; decide)]; decide
  | true =>
    rw [ofN, if_pos h]
    rw [okD, Bool.and_eq_true, decide_eq_true_iff] at h
    omega
end Go.Proofs.Ytiekfcpinljcjaa
