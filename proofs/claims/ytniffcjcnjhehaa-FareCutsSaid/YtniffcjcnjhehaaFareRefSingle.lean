/-
  Contract for the reference's Single. Conditions: none.
-/
import Derived.Test.YtniffcjcnjhehaaFareRef
namespace Go.Proofs.Ytniffcjcnjhehaa
set_option linter.unusedVariables false
open Go.ChangeShapes Go.WideShapes Go.ChangeAt Go.RowKit

set_option maxRecDepth 20000 in
set_option maxHeartbeats 800000 in
theorem refsingle_any (f t cl c v E : Int) (hv : singleV f t cl c = v) (hE : singleE f t cl c = E) (w : World) : Calls Try.prog 15 #[.int .i64 f, .int .i64 t, .int .i64 cl, .int .i64 c] w fun e w' => e = .returned (.tuple #[.int .i64 v, .int .i64 E]) ∧ Below w.heap.size w w' := by
  obtain ⟨x, hx⟩ : ∃ x, zonesL f t = x := ⟨_, rfl⟩
  obtain ⟨y, hy⟩ : ∃ y, zonesH f t = y := ⟨_, rfl⟩
  obtain ⟨G, hG⟩ : ∃ G, zonesE f t = G := ⟨_, rfl⟩
  have HX := Lib.hid hx
  have HY := Lib.hid hy
  have HZE := Lib.hid hG
  cases h : okS f t cl c with
  | true =>
    have hs := (okS_iff _ _ _ _).1 h
    have e1 : v = cutN (fullN f t cl) c := by rw [← hv, singleV, h]; rfl
    have e2 : E = 0 := by rw [← hE, singleE, h]; rfl
    subst e2
    have hb := way_bounds hs.1
    have hn := nZ_in hs.1
    have hf := full_in hs.1 cl
    have hxv : x = lowF f t 40 := by rw [← hx, zonesL, if_pos hs.1]
    have hyv : y = highF f t 40 := by rw [← hy, zonesH, if_pos hs.1]
    have hg0 : G = 0 := by rw [← hG, zonesE, if_pos hs.1]
    subst hg0
    have hnz : y - x + 1 = nZ f t := by rw [hxv, hyv]; rfl
    have HB := Lib.hid (show baseV (y - x + 1) = basN (nZ f t) by rw [hnz, baseV, if_pos ((okB_iff _).2 hn)])
    have HBE := Lib.hid (show baseE (y - x + 1) = 0 by rw [hnz, baseE, if_pos ((okB_iff _).2 hn)])
    obtain ⟨b, hbb⟩ : ∃ b, b = basN (nZ f t) := ⟨_, rfl⟩
    rw [← hbb] at HB
    have hbr : 180 ≤ b ∧ b ≤ 655 := by rw [hbb]; unfold basN; omega
    have hfl : fullN f t cl = if cl = 1 then b + b / 2 else b := by rw [hbb]; rfl
    have hcok : okC (fullN f t cl) c = true := (okC_iff _ _).2 (by omega)
    have HC := Lib.hid (show cutV (fullN f t cl) c = v by rw [cutV, if_pos hcok, e1])
    have HCE := Lib.hid (show cutE (fullN f t cl) c = 0 by rw [cutE, if_pos hcok])
    have q1 : decide (cl < 1) = false := decide_eq_false (by omega)
    have q2 : decide (2 < cl) = false := decide_eq_false (by omega)
    have q3 : decide (c < 0) = false := decide_eq_false (by omega)
    have q4 : decide (3 < c) = false := decide_eq_false (by omega)
    have w1 : IntKind.i64.wrap (y - x) = y - x := IntWalk.i64_in _ (by omega)
    have w2 : IntKind.i64.wrap (y - x + 1) = y - x + 1 := IntWalk.i64_in _ (by omega)
    have d2 : b.tdiv 2 = b / 2 := Int.tdiv_eq_ediv_of_nonneg (by omega)
    have w3 : IntKind.i64.wrap (b / 2) = b / 2 := IntWalk.i64_in _ (by omega)
    have w4 : IntKind.i64.wrap (b + b / 2) = b + b / 2 := IntWalk.i64_in _ (by omega)
    by_cases h1 : cl = 1
    · have p1 : (cl == 1) = true := by rw [beq_iff_eq]; exact h1
      rw [hfl, if_pos h1] at HC HCE
      clear h hs hv hE e1 hb hn hf hxv hyv hnz hbb hbr hfl hcok h1 hx hy hG
      go_enter Try.func15, Try.ntmps15
      go_wp2_with (first | (go_at_call 22; refine (refzones_any _ _ _ _ _ HX.out HY.out HZE.out _).mono ?_; rintro e w1 ⟨rfl, rfl⟩) | (go_at_call 10; refine (refbase_any _ _ _ HB.out HBE.out _).mono ?_; rintro e w3 ⟨rfl, hb3⟩; have HB3 := Lib.hid hb3; clear hb3) | (go_at_call 12; refine (refcut_any _ _ _ _ HC.out HCE.out _).mono ?_; rintro e w4 ⟨rfl, hb4⟩; have HB4 := Lib.hid (HB3.out.trans (hb4.mono HB3.out.size)); clear hb4))
      go_ret2
      exact ⟨rfl, HB4.out⟩
    · have p1 : (cl == 1) = false := by rw [beq_eq_false_iff_ne]; exact h1
      rw [hfl, if_neg h1] at HC HCE
      clear h hs hv hE e1 hb hn hf hxv hyv hnz hbb hbr hfl hcok h1 hx hy hG
      go_enter Try.func15, Try.ntmps15
      go_wp2_with (first | (go_at_call 22; refine (refzones_any _ _ _ _ _ HX.out HY.out HZE.out _).mono ?_; rintro e w1 ⟨rfl, rfl⟩) | (go_at_call 10; refine (refbase_any _ _ _ HB.out HBE.out _).mono ?_; rintro e w3 ⟨rfl, hb3⟩; have HB3 := Lib.hid hb3; clear hb3) | (go_at_call 12; refine (refcut_any _ _ _ _ HC.out HCE.out _).mono ?_; rintro e w4 ⟨rfl, hb4⟩; have HB4 := Lib.hid (HB3.out.trans (hb4.mono HB3.out.size)); clear hb4))
      go_ret2
      exact ⟨rfl, HB4.out⟩
  | false =>
    have e1 : v = 0 := by rw [← hv, singleV, h]; rfl
    have e2 : E = 1 := by rw [← hE, singleE, h]; rfl
    subst e1 e2
    have hno : G = 1 ∨ (G = 0 ∧ (cl < 1 ∨ (¬ cl < 1 ∧ 2 < cl) ∨ (¬ cl < 1 ∧ ¬ 2 < cl ∧ c < 0) ∨ (¬ cl < 1 ∧ ¬ 2 < cl ∧ ¬ c < 0 ∧ 3 < c))) := by
      cases h2 : is2 f t with
      | false => exact .inl (by rw [← hG, zonesE, h2]; rfl)
      | true =>
        refine .inr ⟨by rw [← hG, zonesE, h2]; rfl, ?_⟩
        have : ¬ (is2 f t = true ∧ 1 ≤ cl ∧ cl ≤ 2 ∧ 0 ≤ c ∧ c ≤ 3) := fun hh => by rw [(okS_iff _ _ _ _).2 hh] at h; cases h
        have h3 : ¬ (1 ≤ cl ∧ cl ≤ 2 ∧ 0 ≤ c ∧ c ≤ 3) := fun hh => this ⟨h2, hh⟩
        omega
    clear h hv hE hx hy hG
    rcases hno with rfl | ⟨rfl, h | ⟨h, h2⟩ | ⟨h, h2, h3⟩ | ⟨h, h2, h3, h4⟩⟩
    all_goals
      go_enter Try.func15, Try.ntmps15
      go_wp2_with (go_at_call 22; refine (refzones_any _ _ _ _ _ HX.out HY.out HZE.out _).mono ?_; rintro e w1 ⟨rfl, rfl⟩)
      go_ret2
      exact ⟨rfl, Below.refl _ _⟩
end Go.Proofs.Ytniffcjcnjhehaa
