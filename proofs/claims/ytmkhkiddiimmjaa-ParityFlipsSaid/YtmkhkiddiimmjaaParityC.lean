/-
  What the laws of layer 10 want of the five functions of package parity: contracts, as one premise. Conditions: none.
-/
import Derived.Test.YtmkhkiddiimmjaaParityRefBits
import Derived.Test.YtmkhkiddiimmjaaParityRefSum
import Derived.Test.YtmkhkiddiimmjaaIn64
namespace Go.Proofs.Ytmkhkiddiimmjaa
set_option linter.unusedVariables false
open Go.ChangeShapes Go.WideShapes Go.ChangeAt Go.RowKit

structure PC : Prop where
  char : ∀ (v x E : Int) (w : World), In64 v → charV v = x → charE v = E → Calls Try.prog 8 #[.int .i64 v] w fun e w' => e = .returned (.tuple #[.int .i64 x, .int .i64 E]) ∧ Below w.heap.size w w'
  value : ∀ (c x E : Int) (w : World), In64 c → valV c = x → valE c = E → Calls Try.prog 10 #[.int .i64 c] w fun e w' => e = .returned (.tuple #[.int .i64 x, .int .i64 E]) ∧ Below w.heap.size w w'
  sum : ∀ (l : List Int) (n : Nat) (A : Option Addr) (c : Nat) (x E : Int) (w : World), n = l.length → (∀ z ∈ l, In64 z) → sumV l = x → sumE l = E → Zs w w.heap.size l A c → Calls Try.prog 13 #[.slice A n c] w fun e w' => e = .returned (.tuple #[.int .i64 x, .int .i64 E]) ∧ Below w.heap.size w w'
  bits : ∀ (c : Int) (b : B5) (E : Int) (w : World), In64 c → bitsB c = b → bitsE c = E → Calls Try.prog 15 #[.int .i64 c] w fun e w' => e = .returned (.tuple #[.agg #[.bool b.b0, .bool b.b1, .bool b.b2, .bool b.b3, .bool b.b4], .int .i64 E]) ∧ Below w.heap.size w w'
  of : ∀ (b : B5) (v : Int) (w : World), ofB b = v → Calls Try.prog 17 #[.agg #[.bool b.b0, .bool b.b1, .bool b.b2, .bool b.b3, .bool b.b4]] w fun e w' => e = .returned (.int .i64 v) ∧ Below w.heap.size w w'
def b11 : B5 := ⟨true, true, false, true, false⟩
theorem odd_c : charV 11 = 11 ∧ charE 11 = 0 ∧ charV 15 = 31 ∧ charE 15 = 0 ∧ valV 31 = 15 ∧ valE 31 = 0 ∧ valV 15 = 0 ∧ valE 15 = 3 ∧ valV 32 = 0 ∧ valE 32 = 1 ∧ sumV [11, 3, 15] = 7 ∧ sumE [11, 3, 15] = 0 ∧ sumV [1, 16] = 0 ∧ sumE [1, 16] = 1 ∧ bitsB 11 = b11 ∧ bitsE 11 = 0 ∧ ofB b11 = 11 :=
  ⟨by kernel_rfl, by kernel_rfl, by kernel_rfl, by kernel_rfl, by kernel_rfl, by kernel_rfl, by kernel_rfl, by kernel_rfl, by kernel_rfl, by kernel_rfl, by kernel_rfl, by kernel_rfl, by kernel_rfl, by kernel_rfl, by kernel_rfl, by kernel_rfl, by kernel_rfl⟩
end Go.Proofs.Ytmkhkiddiimmjaa
