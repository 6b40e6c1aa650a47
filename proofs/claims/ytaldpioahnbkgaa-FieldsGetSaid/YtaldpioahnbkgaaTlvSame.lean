/-
  Contract for the reference's Same: rows of the same fields are told the same. Conditions: the slices read as fields.
-/
import Derived.Test.YtaldpioahnbkgaaTlvMem
import Derived.Test.YtaldpioahnbkgaaSameBs
import Derived.StillTailTactics
namespace Go.Proofs.Ytaldpioahnbkgaa
set_option linter.unusedVariables false
open Go.ChangeShapes Go.WideShapes Go.ChangeAt Go.RowKit

set_option maxRecDepth 100000 in
set_option maxHeartbeats 1600000 in
theorem refsame_tlv (l : List Tf) (n n' : Nat) (hn : n = l.length) (hn' : n' = l.length) (A A' : Option Addr) (c c' : Nat) (w : World) (hA : Ts w w.heap.size l A c) (hA' : Ts w w.heap.size l A' c') :
    Calls Try.prog 13 #[.slice A n c, .slice A' n' c'] w fun e w' => e = .returned (.bool true) ∧ Below w.heap.size w w' := by
  obtain rfl : n' = n := by omega
  have h1 : n' ≤ 9223372036854775807 := by have h1 := hA.len; have h2 := hA.cap; omega
  have HN := Lib.hid hn
  have HA := Lib.hid hA
  have HA' := Lib.hid hA'
  clear hn hn' hA hA'
  go_enter Try.func13, Try.ntmps13
  go_wp2
  go_loopw [5] (fun i wr => ∃ k : Nat, k ≤ n' ∧ i = .int .i64 k ∧ Below w.heap.size w wr) (fun i _ => n' - (intOf i).toNat)
  case atStart => exact ⟨0, Nat.zero_le _, rfl, Below.refl _ _⟩
  case round =>
    obtain ⟨k, hk, rfl, hbel⟩ := hrel
    have HBL := Lib.hid hbel
    clear hbel
    by_cases hlt : k < n'
    · obtain ⟨ad, S, cc, rfl, had, hk4⟩ := (HA.out.below HBL.out).rd k (by rw [← HN.out]; exact hlt)
      obtain ⟨ad', S', cc', rfl, had', hk4'⟩ := (HA'.out.below HBL.out).rd k (by rw [← HN.out]; exact hlt)
      generalize l.getD k TF0 = x at *
      have hsz := HBL.out.size
      have HBS := Lib.hid (hk4.bs.more hsz)
      have HBS' := Lib.hid (hk4'.bs.more hsz)
      have hc0 := hk4.c0
      have hc1 := hk4.c1
      have hd0 := hk4'.c0
      have hd1 := hk4'.c1
      have b1 : (0 : Int) ≤ (k : Int) := by omega
      have b2 : (k : Int) < (n' : Int) := by omega
      clear hk4 hk4'
      go_wp2
      refine wp_region_still_tail 22 (by kernel_rfl) (by kernel_rfl) ?_
      simp only [List.take_succ_cons, List.take_zero, List.drop_succ_cons, List.drop_zero]
      repeat still_step
      refine wpStill_nil ?_
      change wpList _ _ _ _ _ wr.drew
      clear hc0 hc1 hd0 hd1
      go_wp2_with fail
      refine (same_true x.val x.val.length x.val.length rfl rfl S S' cc cc' wr.drew (HBS.out.next (Below.refl _ _).drew) (HBS'.out.next (Below.refl _ _).drew)).mono ?_
      rintro e w1 ⟨rfl, hb1⟩
      have HB1 := Lib.hid (HBL.out.drew.trans (hb1.mono hsz))
      clear hb1
      go_wp2
      go_roundw
      case rel => exact ⟨k + 1, by omega, by go_num, HB1.out⟩
      case measure => simp [intOf]; omega
    · go_wp2
      go_ret
      exact ⟨rfl, HBL.out⟩
end Go.Proofs.Ytaldpioahnbkgaa
