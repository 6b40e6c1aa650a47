/-
  Contract for the reference's Sames: lists of the same keys are told the same. Conditions: the slices read as keys.
-/
import Derived.Test.YtedkgkokfaadfaaRingSame
import Derived.StillTailTactics
namespace Go.Proofs.Ytedkgkokfaadfaa
set_option linter.unusedVariables false
open Go.ChangeShapes Go.WideShapes Go.ChangeAt Go.RowKit

set_option maxRecDepth 20000 in
theorem refsames_eq (l : List K) (n : Nat) (hn : n = l.length) (A A' : Option Addr) (c c' : Nat) (w : World) (hA : Ks w w.heap.size A l) (hA' : Ks w w.heap.size A' l) (h1 : n ≤ 9223372036854775807) :
    Calls Try.prog 19 #[.slice A n c, .slice A' n c'] w fun e w' => e = .returned (.bool true) ∧ Below w.heap.size w w' := by
  have HN := Lib.hid hn
  have HA := Lib.hid hA
  have HA' := Lib.hid hA'
  clear hn hA hA'
  go_enter Try.func19, Try.ntmps19
  go_wp2
  go_loopw [5] (fun i wr => ∃ k : Nat, k ≤ n ∧ i = .int .i64 k ∧ Below w.heap.size w wr) (fun i _ => n - (intOf i).toNat)
  case atStart => exact ⟨0, Nat.zero_le _, rfl, Below.refl _ _⟩
  case round =>
    obtain ⟨k, hk, rfl, hbel⟩ := hrel
    by_cases hlt : k < n
    · obtain ⟨ad, S, cc, rfl, had, hk4⟩ := (HA.out.below hbel) k (by rw [← HN.out]; exact hlt)
      obtain ⟨ad', S', cc', rfl, had', hk4'⟩ := (HA'.out.below hbel) k (by rw [← HN.out]; exact hlt)
      generalize l.getD k K0 = x at *
      have HBS := Lib.hid hk4.bs
      have HBS' := Lib.hid hk4'.bs
      have hc0 := hk4.c0
      have hc1 := hk4.c1
      have hc2 := hk4.c2
      have hc3 := hk4.c3
      have hd0 := hk4'.c0
      have hd1 := hk4'.c1
      have hd2 := hk4'.c2
      have hd3 := hk4'.c3
      have b1 : (0 : Int) ≤ (k : Int) := by omega
      have b2 : (k : Int) < (n : Int) := by omega
      have HBL := Lib.hid hbel
      have hsz := hbel.size
      clear hk4 hk4' hbel
      go_wp2
      refine wp_region_still_tail 8 (by kernel_rfl) (by kernel_rfl) ?_
      simp only [List.take_succ_cons, List.take_zero, List.drop_succ_cons, List.drop_zero]
      repeat still_step
      refine wpStill_nil ?_
      change wpList _ _ _ _ _ wr.drew
      clear hc0 hc1 hc2 hc3 hd0 hd1 hd2 hd3
      go_wp2_with fail
      refine (refsame_key x x.sec.length rfl S S' cc cc' w.heap.size wr.drew HBS.out.rd HBS'.out.rd (Nat.le_trans HBS.out.len HBS.out.cap) hsz).mono ?_
      rintro e w1 ⟨rfl, hb1⟩
      have HB1 := Lib.hid (HBL.out.drew.trans (hb1.mono hsz))
      clear hb1
      go_wp2
      go_roundw
      case rel => exact ⟨k + 1, by omega, by go_num, HB1.out⟩
      case measure => simp [intOf]; omega
    · have e : k = n := by omega
      go_wp2
      go_ret
      exact ⟨rfl, hbel⟩
end Go.Proofs.Ytedkgkokfaadfaa
