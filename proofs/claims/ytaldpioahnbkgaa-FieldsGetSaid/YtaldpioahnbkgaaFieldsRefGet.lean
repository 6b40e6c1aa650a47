/-
  Contract for the reference's Get of fields. Conditions: the slice reads as fields.
-/
import Derived.Test.YtaldpioahnbkgaaFieldsRefGetA
import Derived.Test.YtaldpioahnbkgaaFieldsRefGetB
import Derived.Test.YtaldpioahnbkgaaFieldsRefGetC
import Derived.Test.YtaldpioahnbkgaaFieldsRefGetD
namespace Go.Proofs.Ytaldpioahnbkgaa
set_option linter.unusedVariables false
open Go.ChangeShapes Go.WideShapes Go.ChangeAt Go.RowKit

set_option maxRecDepth 100000 in
set_option maxHeartbeats 1600000 in
theorem rfget_any (l : List Tf) (n : Nat) (hn : n = l.length) (E : Nat) (r : Rg) (hE : fdGet l = (E, r)) (A : Option Addr) (c : Nat) (w : World) (hA : Ts w w.heap.size l A c) : Calls Try.prog 16 #[.slice A n c] w fun e w' => e = .returned (.tuple #[.agg #[.int .i64 r.t.ser, .int .i64 r.t.kind, .int .i64 r.t.frm, .int .i64 r.t.till, .int .i64 r.t.cls, .int .i64 r.t.card, .int .i64 r.t.seat, .int .i64 r.t.day, .int .i64 r.t.days, .int .i64 r.t.uses, .int .i64 r.t.epoch, .int .i64 r.key, .int .i64 r.left, .int .i64 r.inn, .int .i64 r.ver], .int .i64 (E : Int)]) ∧ Below w.heap.size w w' := by
  cases hi : isT 0 l with
  | false => exact rfget_p1 l n hn E r hE A c w hA hi
  | true =>
    obtain ⟨F, a, hf⟩ : ∃ F a, fdFill z13 l = (F, a) := ⟨_, _, rfl⟩
    by_cases h0 : F = 0
    rotate_left
    · exact rfget_p2 l n hn E r hE A c w hA hi a F hf h0
    subst h0
    obtain ⟨q, hq⟩ : ∃ q, q = rdL a := ⟨_, rfl⟩
    have ha : a = numL q := by
      have := fdFill_len l z13
      rw [hf] at this
      rw [hq]; exact list_13 this
    subst ha
    cases hv : verX (numL q) with
    | false => exact rfget_v l n hn E r hE A c w hA hi q hf hq.symm hv
    | true =>
      have hpos : 0 ≤ q.t.uses := by have := fill_pos l z13 (by decide) q.t.uses; rw [hf] at this; exact this (List.mem_of_getElem? (i := 11) rfl)
      by_cases hk : q.t.kind = 4
      · by_cases hu : 0 < q.t.uses
        · exact rfget_A l n hn E r hE A c w hA hi q hf hq.symm hv hk hu
        · exact rfget_B l n hn E r hE A c w hA hi q hf hq.symm hv hk (by omega)
      · by_cases hu : 0 < q.t.uses
        · exact rfget_D l n hn E r hE A c w hA hi q hf hq.symm hv hk hu
        · exact rfget_C l n hn E r hE A c w hA hi q hf hq.symm hv hk (by omega)
end Go.Proofs.Ytaldpioahnbkgaa
