/-
  Law LayoutBack walked: it answers true. Conditions: the numbers fit an int; the slice reads as bytes.
-/
import Derived.Test.YtpeccmcojocgkaaLayoutBackLaw1
import Derived.Test.YtpeccmcojocgkaaLayoutBackLaw2
namespace Go.Proofs.Ytpeccmcojocgkaa
set_option linter.unusedVariables false
open Go.ChangeShapes Go.WideShapes Go.ChangeAt Go.RowKit

set_option maxRecDepth 100000 in
set_option maxHeartbeats 1600000 in
theorem lback_any (C : LaidOK) (r : Rg) (hin : InR r) (l : List Nat) (m : Nat) (hm : m = l.length) (A : Option Addr) (c : Nat) (w : World) (hA : Bs w w.heap.size l A c) : Calls Try.prog 5 #[.agg #[.int .i64 r.t.ser, .int .i64 r.t.kind, .int .i64 r.t.frm, .int .i64 r.t.till, .int .i64 r.t.cls, .int .i64 r.t.card, .int .i64 r.t.seat, .int .i64 r.t.day, .int .i64 r.t.days, .int .i64 r.t.uses, .int .i64 r.t.epoch, .int .i64 r.key, .int .i64 r.left, .int .i64 r.inn, .int .i64 r.ver], .slice A m c] w fun e w' => e = .returned (.bool true) ∧ Below w.heap.size w w' := by
  by_cases e0 : (lputX r).1 = 0
  · by_cases h18 : 1000 < m
    · exact lback_1 C r hin l m hm A c _ _ rfl _ _ rfl w hA e0 h18
    · by_cases g0 : (lgetX l).1 = 0
      · exact lback_2 C r hin l m hm A c _ _ rfl _ _ rfl w hA e0 h18 g0
      · exact lback_3 C r hin l m hm A c _ _ rfl _ _ rfl w hA e0 h18 g0
  · by_cases h18 : 1000 < m
    · exact lback_4 C r hin l m hm A c _ _ rfl _ _ rfl w hA e0 h18
    · by_cases g0 : (lgetX l).1 = 0
      · exact lback_5 C r hin l m hm A c _ _ rfl _ _ rfl w hA e0 h18 g0
      · exact lback_6 C r hin l m hm A c _ _ rfl _ _ rfl w hA e0 h18 g0
end Go.Proofs.Ytpeccmcojocgkaa
