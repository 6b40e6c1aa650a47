/-
  Contract for the reference's Zones. Conditions: none.
-/
import Derived.Test.YtniffcjcnjhehaaLineRef
namespace Go.Proofs.Ytniffcjcnjhehaa
set_option linter.unusedVariables false
open Go.ChangeShapes Go.WideShapes Go.ChangeAt Go.RowKit

theorem refzones_any (a b x y E : Int) (hx : zonesL a b = x) (hy : zonesH a b = y) (hE : zonesE a b = E) (w : World) : Calls Try.prog 22 #[.int .i64 a, .int .i64 b] w fun e w' => e = .returned (.tuple #[.int .i64 x, .int .i64 y, .int .i64 E]) ∧ w' = w := by
  cases ha : isN a <;> cases hb : isN b
  all_goals
    have h2 : is2 a b = (isN a && isN b) := rfl
    rw [ha, hb] at h2
    have HA := Lib.hid ha
    have HB := Lib.hid hb
    have HX := Lib.hid hx
    have HY := Lib.hid hy
    have HE := Lib.hid hE
    have H2 := Lib.hid h2
    clear ha hb hx hy hE h2
  case true.true =>
    have e0 : E = 0 := by rw [← HE.out, zonesE, H2.out]; rfl
    have HX2 := Lib.hid (show x = lowF a b 40 by rw [← HX.out, zonesL, H2.out]; rfl)
    have HY2 := Lib.hid (show y = highF a b 40 by rw [← HY.out, zonesH, H2.out]; rfl)
    subst e0
    go_enter Try.func22, Try.ntmps22
    go_wp2_with (go_at_call 28; refine (refisn_any _ _ (by first | exact HA.out | exact HB.out) _).mono ?_; rintro e w1 ⟨rfl, rfl⟩)
    go_loop [7, 8, 9] (fun l h i => ∃ k : Nat, k ≤ 40 ∧ i = .int .i64 k ∧ l = .int .i64 (lowF a b k) ∧ h = .int .i64 (highF a b k)) (fun _ _ i => 40 - (intOf i).toNat)
    case atStart => exact ⟨0, by omega, rfl, rfl, rfl⟩
    case round =>
      obtain ⟨k, hk, rfl, rfl, rfl⟩ := hrel
      by_cases hlt : k < 40
      · have hkN : isN (k : Int) = true := (isN_iff _).2 (by omega)
        have HZ := Lib.hid (show zoneV (k : Int) = zn (k : Int) by rw [zoneV, if_pos hkN])
        have HZE := Lib.hid (show zoneE (k : Int) = 0 by rw [zoneE, if_pos hkN])
        have h3 : is3 a b (k : Int) = true := (is3_iff _ _ _).2 ⟨HA.out, HB.out, hkN⟩
        have HBE := Lib.hid (show betE a b (k : Int) = 0 by rw [betE, if_pos h3])
        have b1 : (k : Int) < 40 := by omega
        cases hbt : between a b (k : Int) with
        | true =>
          have HBV := Lib.hid (show betV a b (k : Int) = true by rw [betV, if_pos h3, hbt])
          have e1 : lowF a b (k + 1) = mn (lowF a b k) (zn (k : Int)) := by rw [lowF, if_pos hbt]
          have e2 : highF a b (k + 1) = mx (highF a b k) (zn (k : Int)) := by rw [highF, if_pos hbt]
          have H1 := Lib.hid e1
          have HH := Lib.hid e2
          clear hkN h3 hbt e1 e2
          go_wp2_with (first | (go_at_call 29; refine (refzone_any _ _ _ HZ.out HZE.out _).mono ?_; rintro e w1 ⟨rfl, rfl⟩) | (go_at_call 30; refine (refbetween_any _ _ _ _ _ HBV.out HBE.out _).mono ?_; rintro e w1 ⟨rfl, rfl⟩))
          go_round
          case rel => exact ⟨k + 1, by omega, by go_num, by rw [H1.out]; rfl, by rw [HH.out]; rfl⟩
          case measure => simp [intOf]; omega
        | false =>
          have HBV := Lib.hid (show betV a b (k : Int) = false by rw [betV, if_pos h3, hbt])
          have e1 : lowF a b (k + 1) = lowF a b k := by rw [lowF, hbt]; rfl
          have e2 : highF a b (k + 1) = highF a b k := by rw [highF, hbt]; rfl
          have H1 := Lib.hid e1
          have HH := Lib.hid e2
          clear hkN h3 hbt e1 e2
          go_wp2_with (first | (go_at_call 29; refine (refzone_any _ _ _ HZ.out HZE.out _).mono ?_; rintro e w1 ⟨rfl, rfl⟩) | (go_at_call 30; refine (refbetween_any _ _ _ _ _ HBV.out HBE.out _).mono ?_; rintro e w1 ⟨rfl, rfl⟩))
          go_round
          case rel => exact ⟨k + 1, by omega, by go_num, by rw [H1.out], by rw [HH.out]⟩
          case measure => simp [intOf]; omega
      · have e : k = 40 := by omega
        subst e
        go_wp2
        refine bodyPost_ret (results_tmp3 Try.results22 _ _ _) rfl ⟨by rw [HX2.out, HY2.out]; rfl, rfl⟩
  all_goals
    have e0 : E = 1 := by rw [← HE.out, zonesE, H2.out]; rfl
    have e1 : x = 0 := by rw [← HX.out, zonesL, H2.out]; rfl
    have e2 : y = 0 := by rw [← HY.out, zonesH, H2.out]; rfl
    subst e0 e1 e2
    go_enter Try.func22, Try.ntmps22
    go_wp2_with (go_at_call 28; refine (refisn_any _ _ (by first | exact HA.out | exact HB.out) _).mono ?_; rintro e w1 ⟨rfl, rfl⟩)
    refine bodyPost_ret (results_tmp3 Try.results22 _ _ _) rfl ⟨rfl, rfl⟩
end Go.Proofs.Ytniffcjcnjhehaa
