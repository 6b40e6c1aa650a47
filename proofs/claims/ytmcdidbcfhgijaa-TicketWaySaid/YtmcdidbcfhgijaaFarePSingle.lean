/-
  Contract for the landed Single. Conditions: none.
-/
import Derived.Test.YtmcdidbcfhgijaaFarePCut
import Derived.Test.YtmcdidbcfhgijaaLinePSpanC
namespace Go.Proofs.Ytmcdidbcfhgijaa
set_option linter.unusedVariables false
open Go.ChangeShapes Go.WideShapes Go.ChangeAt Go.RowKit

set_option maxRecDepth 20000 in
set_option maxHeartbeats 800000 in
theorem psingle_any (f t cl c v E : Int) (hv : singleV f t cl c = v) (hE : singleE f t cl c = E) (w : World) : Calls Try.prog 16 #[.int .i64 f, .int .i64 t, .int .i64 cl, .int .i64 c] w fun e w' => e = .returned (.tuple #[.int .i64 v, .int .i64 E]) ∧ Below w.heap.size w w' := by
  obtain ⟨x, hx⟩ : ∃ x, zonesL f t = x := ⟨_, rfl⟩
  obtain ⟨y, hy⟩ : ∃ y, zonesH f t = y := ⟨_, rfl⟩
  obtain ⟨G, hG⟩ : ∃ G, zonesE f t = G := ⟨_, rfl⟩
  have HX := Lib.hid hx
  have HY := Lib.hid hy
  have HZE := Lib.hid hG
  cases h2 : is2 f t with
  | true =>
    have hb := way_bounds h2
    have hn := nZ_in h2
    have hf := full_in h2 cl
    have hxv : x = lowF f t 40 := by rw [← hx, zonesL, if_pos h2]
    have hyv : y = highF f t 40 := by rw [← hy, zonesH, if_pos h2]
    have hg0 : G = 0 := by rw [← hG, zonesE, if_pos h2]
    subst hg0
    have hnz : y - x + 1 = nZ f t := by rw [hxv, hyv]; rfl
    have HB := Lib.hid (show baseV (y - x + 1) = basN (nZ f t) by rw [hnz, baseV, if_pos ((okB_iff _).2 hn)])
    have HBE := Lib.hid (show baseE (y - x + 1) = 0 by rw [hnz, baseE, if_pos ((okB_iff _).2 hn)])
    obtain ⟨b, hbb⟩ : ∃ b, b = basN (nZ f t) := ⟨_, rfl⟩
    rw [← hbb] at HB
    have hbr : 180 ≤ b ∧ b ≤ 655 := by rw [hbb]; unfold basN; omega
    have hfl : fullN f t cl = if cl = 1 then b + b / 2 else b := by rw [hbb]; rfl
    have w1 : IntKind.i64.wrap (y - x) = y - x := IntWalk.i64_in _ (by omega)
    have w2 : IntKind.i64.wrap (y - x + 1) = y - x + 1 := IntWalk.i64_in _ (by omega)
    have d2 : b.tdiv 2 = b / 2 := Int.tdiv_eq_ediv_of_nonneg (by omega)
    have w3 : IntKind.i64.wrap (b / 2) = b / 2 := IntWalk.i64_in _ (by omega)
    have w4 : IntKind.i64.wrap (b + b / 2) = b + b / 2 := IntWalk.i64_in _ (by omega)
    have hcl : (cl = 1 ∨ cl = 2) ∨ (¬ cl = 1 ∧ ¬ cl = 2) := by omega
    rcases hcl with hcl | ⟨n1, n2⟩
    · have hval : singleV f t cl c = cutV (fullN f t cl) c := by
        have : okS f t cl c = okC (fullN f t cl) c := by
          rw [Bool.eq_iff_iff, okS_iff, okC_iff]; exact ⟨fun hh => ⟨by omega, by omega, by omega, by omega⟩, fun hh => ⟨h2, by omega, by omega, by omega, by omega⟩⟩
        rw [singleV, cutV, this]
      have hvalE : singleE f t cl c = cutE (fullN f t cl) c := by
        have : okS f t cl c = okC (fullN f t cl) c := by
          rw [Bool.eq_iff_iff, okS_iff, okC_iff]; exact ⟨fun hh => ⟨by omega, by omega, by omega, by omega⟩, fun hh => ⟨h2, by omega, by omega, by omega, by omega⟩⟩
        rw [singleE, cutE, this]
      have HC := Lib.hid (hval.symm.trans hv)
      have HCE := Lib.hid (hvalE.symm.trans hE)
      rw [hfl] at HC HCE
      clear h2 hv hE hb hn hf hxv hyv hnz hbb hbr hfl hx hy hG hval hvalE
      rcases hcl with rfl | rfl
      · rw [if_pos rfl] at HC HCE
        go_enter Try.func16, Try.ntmps16
        go_wp2_with (first | (go_at_call 25; refine (pspan_any _ _ _ _ _ _ HX.out HY.out HZE.out).mono ?_; rintro e w1 ⟨rfl, hb1⟩; have HB1 := Lib.hid hb1; clear hb1) | (go_at_call 26; refine (pbase_any _ _ _ HB.out HBE.out _).mono ?_; rintro e w3 ⟨rfl, hb3⟩; have HB3 := Lib.hid (HB1.out.trans (hb3.mono HB1.out.size)); clear hb3) | (go_at_call 27; refine (pcut_any _ _ _ _ HC.out HCE.out _).mono ?_; rintro e w4 ⟨rfl, hb4⟩; have HB4 := Lib.hid (HB3.out.trans (hb4.mono HB3.out.size)); clear hb4))
        go_ret2
        exact ⟨rfl, HB4.out⟩
      · rw [if_neg (by omega)] at HC HCE
        go_enter Try.func16, Try.ntmps16
        go_wp2_with (first | (go_at_call 25; refine (pspan_any _ _ _ _ _ _ HX.out HY.out HZE.out).mono ?_; rintro e w1 ⟨rfl, hb1⟩; have HB1 := Lib.hid hb1; clear hb1) | (go_at_call 26; refine (pbase_any _ _ _ HB.out HBE.out _).mono ?_; rintro e w3 ⟨rfl, hb3⟩; have HB3 := Lib.hid (HB1.out.trans (hb3.mono HB1.out.size)); clear hb3) | (go_at_call 27; refine (pcut_any _ _ _ _ HC.out HCE.out _).mono ?_; rintro e w4 ⟨rfl, hb4⟩; have HB4 := Lib.hid (HB3.out.trans (hb4.mono HB3.out.size)); clear hb4))
        go_ret2
        exact ⟨rfl, HB4.out⟩
    · have hno : okS f t cl c = false := by
        cases h : okS f t cl c with
        | false => rfl
        | true => have := (okS_iff _ _ _ _).1 h; omega
      have e1 : v = 0 := by rw [← hv, singleV, hno]; rfl
      have e2 : E = 1 := by rw [← hE, singleE, hno]; rfl
      subst e1 e2
      clear h2 hv hE hb hn hf hxv hyv hnz hbb hbr hfl hx hy hG hno
      go_enter Try.func16, Try.ntmps16
      go_wp2_with (first | (go_at_call 25; refine (pspan_any _ _ _ _ _ _ HX.out HY.out HZE.out).mono ?_; rintro e w1 ⟨rfl, hb1⟩; have HB1 := Lib.hid hb1; clear hb1) | (go_at_call 26; refine (pbase_any _ _ _ HB.out HBE.out _).mono ?_; rintro e w3 ⟨rfl, hb3⟩; have HB3 := Lib.hid (HB1.out.trans (hb3.mono HB1.out.size)); clear hb3))
      go_ret2
      exact ⟨rfl, HB3.out⟩
  | false =>
    have hno : okS f t cl c = false := by unfold okS; rw [h2]; rfl
    have e1 : v = 0 := by rw [← hv, singleV, hno]; rfl
    have e2 : E = 1 := by rw [← hE, singleE, hno]; rfl
    have hg1 : G = 1 := by rw [← hG, zonesE, h2]; rfl
    subst e1 e2 hg1
    clear h2 hv hE hx hy hG hno
    go_enter Try.func16, Try.ntmps16
    go_wp2_with (go_at_call 25; refine (pspan_any _ _ _ _ _ _ HX.out HY.out HZE.out).mono ?_; rintro e w1 ⟨rfl, hb1⟩; have HB1 := Lib.hid hb1; clear hb1)
    go_ret2
    exact ⟨rfl, HB1.out⟩
end Go.Proofs.Ytmcdidbcfhgijaa
