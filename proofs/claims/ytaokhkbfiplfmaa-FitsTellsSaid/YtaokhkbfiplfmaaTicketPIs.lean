/-
  Contract for the landed Is of tickets. Conditions: none.
-/
import Derived.Test.YtaokhkbfiplfmaaTicketPRightAll
namespace Go.Proofs.Ytaokhkbfiplfmaa
set_option linter.unusedVariables false
open Go.ChangeShapes Go.WideShapes Go.ChangeAt Go.RowKit

theorem kinds_of {t : Tk} (h : okT t = true) : t.kind = 1 ∨ t.kind = 2 ∨ t.kind = 3 ∨ t.kind = 4 := by
  have hn := (numsB_iff t).1 ((okT_iff t).1 h).1
  omega
set_option maxRecDepth 20000 in
set_option maxHeartbeats 3200000 in
theorem pis9_any (t : Tk) (b : Bool) (hb : okT t = b) (w : World) : Calls Try.prog 12 #[.agg #[.int .i64 t.ser, .int .i64 t.kind, .int .i64 t.frm, .int .i64 t.till, .int .i64 t.cls, .int .i64 t.card, .int .i64 t.seat, .int .i64 t.day, .int .i64 t.days, .int .i64 t.uses, .int .i64 t.epoch]] w fun e w' => e = .returned (.bool b) ∧ Below w.heap.size w w' := by
  cases b with
  | false =>
    have HO := Lib.hid hb
    clear hb
    go_enter Try.func12, Try.ntmps12
    go_wp2_with fail
    refine (pright_no t HO.out _).mono ?_
    rintro e w1 ⟨rfl, hb⟩
    have HB1 := Lib.hid (((Below.refl _ w).alloc (Nat.le_refl _) _).trans (hb.mono (by simp)))
    clear hb
    go_wp2
    go_ret
    exact ⟨rfl, HB1.out.alloc HB1.out.size _⟩
  | true =>
    have HO := Lib.hid hb
    have hk := kinds_of hb
    clear hb
    rcases hk with hk | hk | hk | hk
    · have HK := Lib.hid hk
      clear hk
      go_enter Try.func12, Try.ntmps12
      go_wp2_with fail
      refine (pright_1 t HK.out HO.out _).mono ?_
      rintro e w1 ⟨rfl, hb⟩
      have HB1 := Lib.hid (((Below.refl _ w).alloc (Nat.le_refl _) _).trans (hb.mono (by simp)))
      clear hb
      go_wp2
      go_ret
      exact ⟨rfl, HB1.out.alloc HB1.out.size _⟩
    · have HK := Lib.hid hk
      clear hk
      go_enter Try.func12, Try.ntmps12
      go_wp2_with fail
      refine (pright_2 t HK.out HO.out _).mono ?_
      rintro e w1 ⟨rfl, hb⟩
      have HB1 := Lib.hid (((Below.refl _ w).alloc (Nat.le_refl _) _).trans (hb.mono (by simp)))
      clear hb
      go_wp2
      go_ret
      exact ⟨rfl, HB1.out.alloc HB1.out.size _⟩
    · have HK := Lib.hid hk
      clear hk
      go_enter Try.func12, Try.ntmps12
      go_wp2_with fail
      refine (pright_3 t HK.out HO.out _).mono ?_
      rintro e w1 ⟨rfl, hb⟩
      have HB1 := Lib.hid (((Below.refl _ w).alloc (Nat.le_refl _) _).trans (hb.mono (by simp)))
      clear hb
      go_wp2
      go_ret
      exact ⟨rfl, HB1.out.alloc HB1.out.size _⟩
    · have HK := Lib.hid hk
      clear hk
      go_enter Try.func12, Try.ntmps12
      go_wp2_with fail
      refine (pright_4 t HK.out HO.out _).mono ?_
      rintro e w1 ⟨rfl, hb⟩
      have HB1 := Lib.hid (((Below.refl _ w).alloc (Nat.le_refl _) _).trans (hb.mono (by simp)))
      clear hb
      go_wp2
      go_ret
      exact ⟨rfl, HB1.out.alloc HB1.out.size _⟩
end Go.Proofs.Ytaokhkbfiplfmaa
