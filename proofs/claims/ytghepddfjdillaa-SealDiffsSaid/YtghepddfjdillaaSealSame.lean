/-
  Contract for Same of package seal: two rows of bytes are told the same just if they are. Conditions: the slices read as bytes; their lengths fit an int.
-/
import Derived.Test.YtghepddfjdillaaSealDiff
namespace Go.Proofs.Ytghepddfjdillaa
set_option linter.unusedVariables false
open Go.ChangeShapes Go.WideShapes Go.ChangeAt Go.RowKit

/-- Diff, its answers under names. -/
theorem diff_named (a b : List Nat) (n m : Nat) (hn : n = a.length) (hm : m = b.length) (A A' : Option Addr) (c c' : Nat) (w : World) (hA : Rd w w.heap.size A (U8 a)) (hA' : Rd w w.heap.size A' (U8 b)) (ha : ∀ x ∈ a, x < 256) (hb : ∀ x ∈ b, x < 256) (h1 : n ≤ 9223372036854775807) (h2 : m ≤ 9223372036854775807)
    (d : Nat) (q : Bool) (hd : d = dn a b (min n m)) (hq : q = (n == m)) :
    Calls Try.prog 7 #[.slice A n c, .slice A' m c'] w fun e w' => e = .returned (.tuple #[.int .u8 (d : Int), .bool q]) ∧ Below w.heap.size w w' := by
  subst hd hq
  exact diff_any a b n m hn hm A A' c c' w hA hA' ha hb h1 h2

theorem sealsame_any (a b : List Nat) (n m : Nat) (hn : n = a.length) (hm : m = b.length) (A A' : Option Addr) (c c' : Nat) (w : World) (hA : Rd w w.heap.size A (U8 a)) (hA' : Rd w w.heap.size A' (U8 b)) (ha : ∀ x ∈ a, x < 256) (hb : ∀ x ∈ b, x < 256) (h1 : n ≤ 9223372036854775807) (h2 : m ≤ 9223372036854775807) :
    Calls Try.prog 10 #[.slice A n c, .slice A' m c'] w fun e w' => e = .returned (.bool (a == b)) ∧ Below w.heap.size w w' := by
  have hs := dn_same a b
  rw [← hn, ← hm] at hs
  have HS := Lib.hid hs
  have HN := Lib.hid hn
  have HM := Lib.hid hm
  have HA := Lib.hid ha
  have HB := Lib.hid hb
  clear hs hn hm ha hb
  obtain ⟨d, hd⟩ : ∃ d, d = dn a b (min n m) := ⟨_, rfl⟩
  obtain ⟨q, hq⟩ : ∃ q, q = (n == m) := ⟨_, rfl⟩
  rw [← hd, ← hq] at HS
  have HD := Lib.hid hd
  have HQ := Lib.hid hq
  have e1 : ((d : Int) == 0) = (d == 0) := eq_cast d 0
  clear hd hq
  cases q with
  | true =>
    rw [Bool.true_and] at HS
    go_enter Try.func10, Try.ntmps10
    go_wp2_with fail
    refine (diff_named a b n m HN.out HM.out A A' c c' w hA hA' HA.out HB.out h1 h2 d true HD.out HQ.out).mono ?_
    rintro e w1 ⟨rfl, hb⟩
    go_wp2
    go_ret
    exact ⟨by rw [← HS.out, ← e1]; rfl, hb⟩
  | false =>
    rw [Bool.false_and] at HS
    go_enter Try.func10, Try.ntmps10
    go_wp2_with fail
    refine (diff_named a b n m HN.out HM.out A A' c c' w hA hA' HA.out HB.out h1 h2 d false HD.out HQ.out).mono ?_
    rintro e w1 ⟨rfl, hb⟩
    go_wp2
    go_ret
    exact ⟨by rw [← HS.out]; rfl, hb⟩
end Go.Proofs.Ytghepddfjdillaa
