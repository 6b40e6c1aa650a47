/-
  Contract for the reference's Is: whether fields are right. Conditions: the slice reads as fields.
-/
import Derived.Test.YtaldpioahnbkgaaTlvMem
import Derived.IntWalk
namespace Go.Proofs.Ytaldpioahnbkgaa
set_option linter.unusedVariables false
open Go.ChangeShapes Go.WideShapes Go.ChangeAt Go.RowKit

set_option maxRecDepth 100000 in
set_option maxHeartbeats 1600000 in
theorem refis_tlv (l : List Tf) (n : Nat) (hn : n = l.length) (b : Bool) (hb : isT 0 l = b) (A : Option Addr) (c : Nat) (w : World) (hA : Ts w w.heap.size l A c) :
    Calls Try.prog 34 #[.slice A n c] w fun e w' => e = .returned (.bool b) ∧ Below w.heap.size w w' := by
  have h1 : n ≤ 9223372036854775807 := by have h1 := hA.len; have h2 := hA.cap; omega
  have HN := Lib.hid hn
  have HB := Lib.hid hb
  have HA := Lib.hid hA
  clear hn hb hA
  go_enter Try.func34, Try.ntmps34
  go_wp2
  go_loopw [3] (fun i wr => ∃ k : Nat, k ≤ n ∧ i = .int .i64 k ∧ isT 0 (l.take k) = true ∧ Below w.heap.size w wr) (fun i _ => n - (intOf i).toNat)
  case atStart => exact ⟨0, Nat.zero_le _, rfl, rfl, Below.refl _ _⟩
  case round =>
    obtain ⟨k, hk, rfl, hall, hbel⟩ := hrel
    have HH := Lib.hid hall
    have HBL := Lib.hid hbel
    clear hall hbel
    by_cases hlt : k < n
    · have HTA := Lib.hid (HA.out.below HBL.out)
      obtain ⟨ad, S, cc, hsome, had, hk4⟩ := HTA.out.rd k (by rw [← HN.out]; exact hlt)
      have hc0 := hk4.c0
      have hc1 := hk4.c1
      have hcap := hk4.bs.len
      have hcap2 := hk4.bs.cap
      have HKL := Lib.hid (show k < l.length by rw [← HN.out]; exact hlt)
      have b1 : (0 : Int) ≤ (k : Int) := by omega
      have b2 : (k : Int) < (n : Int) := by omega
      have HBAD := Lib.hid (fun h => HB.out.symm.trans (isT_bad l k HKL.out h))
      have HOK := Lib.hid (fun h => (isT_step l k HKL.out HH.out h).1)
      have HD := Lib.hid (HBL.out.drew)
      have ha0 := (isT_last HH.out).1
      have hprev : ∀ j, j + 1 = k → wr.cell? (ad.add (j * 2)) = some (.int .i64 (lastT 0 (l.take k))) := fun j hj => by
        subst hj
        obtain ⟨ad', S', cc', hsome', _, hk5⟩ := HTA.out.rd j (by have := HKL.out; omega)
        rw [hsome] at hsome'
        cases hsome'
        rw [lastT_at l j (by have := HKL.out; omega)]
        exact hk5.c0
      have hzero : k = 0 → lastT 0 (l.take k) = 0 := fun h => by subst h; rfl
      have HPV := Lib.hid hprev
      have HZ := Lib.hid hzero
      clear hprev hzero
      subst hsome
      obtain ⟨x, hx⟩ : ∃ x, x = l.getD k TF0 := ⟨_, rfl⟩
      obtain ⟨a, ha⟩ : ∃ a, a = lastT 0 (l.take k) := ⟨_, rfl⟩
      rw [← hx] at hc0 hc1 hcap HBAD HOK
      rw [← ha] at HBAD HOK HPV HZ ha0
      clear hx ha hk4
      by_cases q1 : x.tag < 1
      · have e := HBAD.out (by rw [← Bool.not_eq_true, okTf_iff]; omega)
        have d1 : decide (x.tag < 1) = true := decide_eq_true q1
        have HE := Lib.hid e
        clear e
        go_wp2
        go_quiet (fail)
        go_wp2
        go_ret
        exact ⟨by rw [HE.out]; rfl, below_drewN HBL.out _⟩
      have d1 : decide (x.tag < 1) = false := decide_eq_false q1
      by_cases q2 : 255 < x.tag
      · have e := HBAD.out (by rw [← Bool.not_eq_true, okTf_iff]; omega)
        have d2 : decide (255 < x.tag) = true := decide_eq_true q2
        have HE := Lib.hid e
        clear e
        go_wp2
        go_quiet (fail)
        go_wp2
        go_ret
        exact ⟨by rw [HE.out]; rfl, below_drewN HBL.out _⟩
      have d2 : decide (255 < x.tag) = false := decide_eq_false q2
      by_cases q3 : 255 < x.val.length
      · have e := HBAD.out (by rw [← Bool.not_eq_true, okTf_iff]; omega)
        have q4 : (255 : Int) < (x.val.length : Int) := by omega
        have d3 : decide ((255 : Int) < (x.val.length : Int)) = true := decide_eq_true q4
        have HE := Lib.hid e
        clear e
        go_wp2
        go_quiet (fail)
        go_wp2
        go_ret
        exact ⟨by rw [HE.out]; rfl, below_drewN HBL.out _⟩
      have q4 : ¬ (255 : Int) < (x.val.length : Int) := by omega
      have d3 : decide ((255 : Int) < (x.val.length : Int)) = false := decide_eq_false q4
      by_cases h0 : k = 0
      · have ha := HZ.out h0
        have HO := Lib.hid (HOK.out ((okTf_iff _ _ _).2 ⟨by omega, by omega, by omega⟩))
        have b3 : ¬ (0 : Int) < (k : Int) := by omega
        have d4 : decide (0 < k) = false := decide_eq_false (by omega)
        clear ha h0
        go_wp2
        go_quiet (fail)
        go_wp2
        go_roundw
        case rel => exact ⟨k + 1, by omega, by go_num, HO.out, below_drewN HBL.out _⟩
        case measure => simp [intOf]; omega
      · obtain ⟨j, hj⟩ : ∃ j, j + 1 = k := ⟨k - 1, by omega⟩
        have hp := HPV.out j hj
        have b3 : (0 : Int) < (k : Int) := by omega
        have d4 : decide (0 < k) = true := decide_eq_true (by omega)
        have j1 : IntKind.i64.wrap ((k : Int) - 1) = (j : Int) := by rw [IntWalk.i64_in _ (by omega)]; omega
        have j2 : (0 : Int) ≤ (j : Int) := by omega
        have j3 : (j : Int) < (n : Int) := by omega
        clear hj h0
        by_cases q5 : x.tag ≤ a
        · have e := HBAD.out (by rw [← Bool.not_eq_true, okTf_iff]; omega)
          have d5 : decide (x.tag ≤ a) = true := decide_eq_true q5
          have HE := Lib.hid e
          clear e
          go_wp2
          go_quiet (fail)
          go_wp2
          go_ret
          exact ⟨by rw [HE.out]; rfl, below_drewN HBL.out _⟩
        · have d5 : decide (x.tag ≤ a) = false := decide_eq_false q5
          have HO := Lib.hid (HOK.out ((okTf_iff _ _ _).2 ⟨by omega, by omega, by omega⟩))
          go_wp2
          go_quiet (fail)
          go_wp2
          go_roundw
          case rel => exact ⟨k + 1, by omega, by go_num, HO.out, below_drewN HBL.out _⟩
          case measure => simp [intOf]; omega
    · have e : k = n := by omega
      have e2 : l.take k = l := List.take_of_length_le (by rw [← HN.out]; omega)
      have HE := Lib.hid (show b = true by rw [← HB.out, ← e2]; exact HH.out)
      clear e2
      go_wp2
      go_ret
      exact ⟨by rw [HE.out]; rfl, HBL.out⟩
end Go.Proofs.Ytaldpioahnbkgaa
