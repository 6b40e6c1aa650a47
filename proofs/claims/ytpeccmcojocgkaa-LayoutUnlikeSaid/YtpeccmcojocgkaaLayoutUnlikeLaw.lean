/-
  Law LayoutUnlike walked: it answers true. Conditions: the numbers fit an int.
-/
import Derived.Test.YtpeccmcojocgkaaLayoutUnlikeLaw1
import Derived.Test.YtpeccmcojocgkaaLayoutUnlikeLaw2
import Derived.Test.YtpeccmcojocgkaaLayoutUnlikeLaw3
import Derived.Test.YtpeccmcojocgkaaLayoutUnlikeLaw4
namespace Go.Proofs.Ytpeccmcojocgkaa
set_option linter.unusedVariables false
open Go.ChangeShapes Go.WideShapes Go.ChangeAt Go.RowKit

set_option maxRecDepth 100000 in
set_option maxHeartbeats 1600000 in
theorem lunlike_any (C : LaidOK) (r : Rg) (hin : InR r) (s : Rg) (hin2 : InR s) (w : World)  : Calls Try.prog 6 #[.agg #[.int .i64 r.t.ser, .int .i64 r.t.kind, .int .i64 r.t.frm, .int .i64 r.t.till, .int .i64 r.t.cls, .int .i64 r.t.card, .int .i64 r.t.seat, .int .i64 r.t.day, .int .i64 r.t.days, .int .i64 r.t.uses, .int .i64 r.t.epoch, .int .i64 r.key, .int .i64 r.left, .int .i64 r.inn, .int .i64 r.ver], .agg #[.int .i64 s.t.ser, .int .i64 s.t.kind, .int .i64 s.t.frm, .int .i64 s.t.till, .int .i64 s.t.cls, .int .i64 s.t.card, .int .i64 s.t.seat, .int .i64 s.t.day, .int .i64 s.t.days, .int .i64 s.t.uses, .int .i64 s.t.epoch, .int .i64 s.key, .int .i64 s.left, .int .i64 s.inn, .int .i64 s.ver]] w fun e w' => e = .returned (.bool true) ∧ Below w.heap.size w w' := by
  by_cases e0 : (lputX r).1 = 0
  · by_cases f0 : (lputX s).1 = 0
    · by_cases hrs : r = s
      · exact lun_3 C r hin s hin2 _ _ _ _ rfl rfl w e0 f0 hrs
      · by_cases hab : (lputX r).2.length = (lputX s).2.length
        · exact lun_4 C r hin s hin2 _ _ _ _ rfl rfl w e0 f0 hrs hab
        · by_cases hlt : (lputX r).2.length < (lputX s).2.length
          · exact lun_5 C r hin s hin2 _ _ _ _ rfl rfl w e0 f0 hrs hlt
          · exact lun_6 C r hin s hin2 _ _ _ _ rfl rfl w e0 f0 hrs (Nat.lt_of_le_of_ne (Nat.le_of_not_lt hlt) (Ne.symm hab))
    · exact lun_2 C r hin s hin2 _ _ _ _ rfl rfl w e0 f0
  · exact lun_1 C r hin s hin2 _ _ _ _ rfl rfl w e0
end Go.Proofs.Ytpeccmcojocgkaa
