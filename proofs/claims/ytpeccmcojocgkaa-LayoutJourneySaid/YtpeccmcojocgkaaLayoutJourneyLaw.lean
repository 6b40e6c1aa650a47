/-
  Law LayoutJourney walked: it answers true. Conditions: the numbers fit an int.
-/
import Derived.Test.YtpeccmcojocgkaaLayoutJourneyLaw1
namespace Go.Proofs.Ytpeccmcojocgkaa
set_option linter.unusedVariables false
open Go.ChangeShapes Go.WideShapes Go.ChangeAt Go.RowKit

set_option maxRecDepth 100000 in
set_option maxHeartbeats 1600000 in
theorem ljour_any (C : LaidOK) (r : Rg) (hin : InR r) (a b : Int) (hja : In64 a) (hjb : In64 b) (w : World)  : Calls Try.prog 7 #[.agg #[.int .i64 r.t.ser, .int .i64 r.t.kind, .int .i64 r.t.frm, .int .i64 r.t.till, .int .i64 r.t.cls, .int .i64 r.t.card, .int .i64 r.t.seat, .int .i64 r.t.day, .int .i64 r.t.days, .int .i64 r.t.uses, .int .i64 r.t.epoch, .int .i64 r.key, .int .i64 r.left, .int .i64 r.inn, .int .i64 r.ver], .agg #[.int .i64 a, .int .i64 b]] w fun e w' => e = .returned (.bool true) ∧ Below w.heap.size w w' := by
  by_cases e0 : (lputX r).1 = 0
  · by_cases f0 : (lputX (⟨r.t, r.key, a, b, r.ver⟩ : Rg)).1 = 0
    · exact ljo_3 C r hin a b hja hjb _ _ _ _ rfl rfl w e0 f0
    · exact ljo_2 C r hin a b hja hjb _ _ _ _ rfl rfl w e0 f0
  · exact ljo_1 C r hin a b hja hjb _ _ _ _ rfl rfl w e0
end Go.Proofs.Ytpeccmcojocgkaa
