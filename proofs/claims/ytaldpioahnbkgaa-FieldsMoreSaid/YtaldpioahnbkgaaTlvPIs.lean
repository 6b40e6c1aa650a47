/-
  Contract for the landed Is: whether fields are right. Conditions: the slice reads as fields.
-/
import Derived.Test.YtaldpioahnbkgaaTlvMem
namespace Go.Proofs.Ytaldpioahnbkgaa
set_option linter.unusedVariables false
open Go.ChangeShapes Go.WideShapes Go.ChangeAt Go.RowKit

set_option maxRecDepth 100000 in
set_option maxHeartbeats 1600000 in
theorem pis_tlv (l : List Tf) (n : Nat) (hn : n = l.length) (b : Bool) (hb : isT 0 l = b) (A : Option Addr) (c : Nat) (w : World) (hA : Ts w w.heap.size l A c) :
    Calls Try.prog 17 #[.slice A n c] w fun e w' => e = .returned (.bool b) ∧ Below w.heap.size w w' := by
  have h1 : n ≤ 9223372036854775807 := by have h1 := hA.len; have h2 := hA.cap; omega
  have HN := Lib.hid hn
  have HB := Lib.hid hb
  have HA := Lib.hid hA
  clear hn hb hA
  go_enter Try.func17, Try.ntmps17
  go_wp2
  go_loopw [3, 8] (fun a i wr => ∃ k : Nat, k ≤ n ∧ i = .int .i64 k ∧ a = .int .i64 (lastT 0 (l.take k)) ∧ isT 0 (l.take k) = true ∧ Below w.heap.size w wr) (fun _ i _ => n - (intOf i).toNat)
  case atStart => exact ⟨0, Nat.zero_le _, rfl, rfl, rfl, Below.refl _ _⟩
  case round =>
    obtain ⟨k, hk, rfl, rfl, hall, hbel⟩ := hrel
    have HH := Lib.hid hall
    have HBL := Lib.hid hbel
    clear hall hbel
    by_cases hlt : k < n
    · obtain ⟨ad, S, cc, rfl, had, hk4⟩ := (HA.out.below HBL.out).rd k (by rw [← HN.out]; exact hlt)
      have hc0 := hk4.c0
      have hc1 := hk4.c1
      have hcap := hk4.bs.len
      have hcap2 := hk4.bs.cap
      have HKL := Lib.hid (show k < l.length by rw [← HN.out]; exact hlt)
      have b1 : (0 : Int) ≤ (k : Int) := by omega
      have b2 : (k : Int) < (n : Int) := by omega
      have HBAD := Lib.hid (fun h => HB.out.symm.trans (isT_bad l k HKL.out h))
      have HOK := Lib.hid (fun h => isT_step l k HKL.out HH.out h)
      obtain ⟨x, hx⟩ : ∃ x, x = l.getD k TF0 := ⟨_, rfl⟩
      obtain ⟨a, ha⟩ : ∃ a, a = lastT 0 (l.take k) := ⟨_, rfl⟩
      rw [← hx] at hc0 hc1 hcap HBAD HOK
      rw [← ha] at HBAD HOK ⊢
      have HB2 := Lib.hid (show Below w.heap.size w (wr.alloc (.cells #[.int .i64 x.tag, .slice S x.val.length cc] 56)) from HBL.out.trans ((below_lit wr _ _).mono HBL.out.size))
      clear hx ha hk4
      by_cases q1 : x.tag ≤ a
      · have e := HBAD.out (by rw [← Bool.not_eq_true, okTf_iff]; omega)
        have HE := Lib.hid e
        clear e
        go_wp2
        go_ret
        exact ⟨by rw [HE.out]; rfl, HB2.out⟩
      by_cases q2 : 255 < x.tag
      · have e := HBAD.out (by rw [← Bool.not_eq_true, okTf_iff]; omega)
        have HE := Lib.hid e
        clear e
        go_wp2
        go_ret
        exact ⟨by rw [HE.out]; rfl, HB2.out⟩
      by_cases q3 : 255 < x.val.length
      · have e := HBAD.out (by rw [← Bool.not_eq_true, okTf_iff]; omega)
        have q4 : (255 : Int) < (x.val.length : Int) := by omega
        have HE := Lib.hid e
        clear e
        go_wp2
        go_ret
        exact ⟨by rw [HE.out]; rfl, HB2.out⟩
      have q4 : ¬ (255 : Int) < (x.val.length : Int) := by omega
      have HO := Lib.hid (HOK.out ((okTf_iff _ _ _).2 ⟨by omega, by omega, by omega⟩))
      go_wp2
      go_roundw
      case rel => exact ⟨k + 1, by omega, by go_num, by rw [HO.out.2], HO.out.1, HB2.out⟩
      case measure => simp [intOf]; omega
    · have e : k = n := by omega
      have e2 : l.take k = l := List.take_of_length_le (by rw [← HN.out]; omega)
      have HE := Lib.hid (show b = true by rw [← HB.out, ← e2]; exact HH.out)
      clear e2
      go_wp2
      go_ret
      exact ⟨by rw [HE.out]; rfl, HBL.out⟩
end Go.Proofs.Ytaldpioahnbkgaa
