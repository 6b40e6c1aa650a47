/-
  What the laws of layer 8 want of the four functions of package fare, and of line.Between: contracts, as one premise. Conditions: none.
-/
import Derived.Test.YtniffcjcnjhehaaFareRefSingle
import Derived.Test.YtniffcjcnjhehaaIn64
namespace Go.Proofs.Ytniffcjcnjhehaa
set_option linter.unusedVariables false
open Go.ChangeShapes Go.WideShapes Go.ChangeAt Go.RowKit

structure FC : Prop where
  base : ∀ (z v E : Int) (w : World), In64 z → baseV z = v → baseE z = E → Calls Try.prog 9 #[.int .i64 z] w fun e w' => e = .returned (.tuple #[.int .i64 v, .int .i64 E]) ∧ Below w.heap.size w w'
  cut : ∀ (p c v E : Int) (w : World), In64 p → In64 c → cutV p c = v → cutE p c = E → Calls Try.prog 11 #[.int .i64 p, .int .i64 c] w fun e w' => e = .returned (.tuple #[.int .i64 v, .int .i64 E]) ∧ Below w.heap.size w w'
  single : ∀ (f t cl c v E : Int) (w : World), In64 f → In64 t → In64 cl → In64 c → singleV f t cl c = v → singleE f t cl c = E → Calls Try.prog 14 #[.int .i64 f, .int .i64 t, .int .i64 cl, .int .i64 c] w fun e w' => e = .returned (.tuple #[.int .i64 v, .int .i64 E]) ∧ Below w.heap.size w w'
  back : ∀ (p l a v E : Int) (w : World), In64 p → In64 l → In64 a → backV p l a = v → backE p l a = E → Calls Try.prog 16 #[.int .i64 p, .int .i64 l, .int .i64 a] w fun e w' => e = .returned (.tuple #[.int .i64 v, .int .i64 E]) ∧ Below w.heap.size w w'
  bet : ∀ (a b s : Int) (v : Bool) (E : Int) (w : World), In64 a → In64 b → In64 s → betV a b s = v → betE a b s = E → Calls Try.prog 18 #[.int .i64 a, .int .i64 b, .int .i64 s] w fun e w' => e = .returned (.tuple #[.bool v, .int .i64 E]) ∧ Below w.heap.size w w'
theorem single_const : singleV 20 30 1 0 = 555 ∧ singleE 20 30 1 0 = 0 ∧ singleV 20 40 1 0 = 0 ∧ singleE 20 40 1 0 = 1 := ⟨by kernel_rfl, by kernel_rfl, by kernel_rfl, by kernel_rfl⟩
end Go.Proofs.Ytniffcjcnjhehaa
