/-
  LineTells, LineZones, LineWays and LineNear walked, out of the five contracts: each answers true. Conditions: the numbers fit an int.
-/
import Derived.Test.YtnfdglejhmekeaaLined
namespace Go.Proofs.Ytnfdglejhmekeaa
set_option linter.unusedVariables false
open Go.ChangeShapes Go.WideShapes Go.ChangeAt Go.RowKit

set_option maxRecDepth 100000 in
set_option maxHeartbeats 1600000 in
theorem tells_any (C : LC) (a b s : Int) (ia : In64 a) (ib : In64 b) (is : In64 s) (w : World) : Calls Try.prog 3 #[.int .i64 a, .int .i64 b, .int .i64 s] w fun e w' => e = .returned (.bool true) ∧ Below w.heap.size w w' := by
  have Ra := Lib.hid ia
  clear ia
  have Rb := Lib.hid ib
  clear ib
  have Rs := Lib.hid is
  clear is
  obtain ⟨z, hz⟩ : ∃ z, zoneV s = z := ⟨_, rfl⟩
  have HZ := Lib.hid hz
  clear hz
  obtain ⟨E, hE⟩ : ∃ E, zoneE s = E := ⟨_, rfl⟩
  have HE := Lib.hid hE
  clear hE
  obtain ⟨v, hv⟩ : ∃ v, betV a b s = v := ⟨_, rfl⟩
  have HV := Lib.hid hv
  clear hv
  obtain ⟨F, hF⟩ : ∃ F, betE a b s = F := ⟨_, rfl⟩
  have HF := Lib.hid hF
  clear hF
  obtain ⟨o, ho⟩ : ∃ o, isN s = o := ⟨_, rfl⟩
  have HO := Lib.hid ho
  clear ho
  have HBL := Lib.hid (Below.refl w.heap.size w)
  go_enter Try.func3, Try.ntmps3
  go_wp2_with fail
  refine (C.zone s z E w Rs.out HZ.out HE.out).mono ?_
  rintro e w1 ⟨rfl, hb⟩
  replace HBL := Lib.hid (HBL.out.trans (hb.mono HBL.out.size))
  clear hb
  go_wp2_with fail
  refine ((refzone_any s z E HZ.out HE.out w1).mono (R' := fun e w' => e = .returned (.tuple #[.int .i64 z, .int .i64 E]) ∧ Below _ _ w') (fun e w' h => ⟨h.1, by rw [h.2]; exact Below.refl w1.heap.size w1⟩)).mono ?_
  rintro e w2 ⟨rfl, hb⟩
  replace HBL := Lib.hid (HBL.out.trans (hb.mono HBL.out.size))
  clear hb
  go_wp2_with fail
  refine (C.bet a b s v F w2 Ra.out Rb.out Rs.out HV.out HF.out).mono ?_
  rintro e w3 ⟨rfl, hb⟩
  replace HBL := Lib.hid (HBL.out.trans (hb.mono HBL.out.size))
  clear hb
  go_wp2_with fail
  refine ((refbetween_any a b s v F HV.out HF.out w3).mono (R' := fun e w' => e = .returned (.tuple #[.bool v, .int .i64 F]) ∧ Below _ _ w') (fun e w' h => ⟨h.1, by rw [h.2]; exact Below.refl w3.heap.size w3⟩)).mono ?_
  rintro e w4 ⟨rfl, hb⟩
  replace HBL := Lib.hid (HBL.out.trans (hb.mono HBL.out.size))
  clear hb
  go_wp2_with fail
  refine (lined_any C w4).mono ?_
  rintro e w5 ⟨rfl, hb⟩
  replace HBL := Lib.hid (HBL.out.trans (hb.mono HBL.out.size))
  clear hb
  go_wp2_with fail
  refine (C.is s o w5 Rs.out HO.out).mono ?_
  rintro e w6 ⟨rfl, hb⟩
  replace HBL := Lib.hid (HBL.out.trans (hb.mono HBL.out.size))
  clear hb
  go_wp2_with fail
  refine ((refisn_any s o HO.out w6).mono (R' := fun e w' => e = .returned (.bool o) ∧ Below _ _ w') (fun e w' h => ⟨h.1, by rw [h.2]; exact Below.refl w6.heap.size w6⟩)).mono ?_
  rintro e w7 ⟨rfl, hb⟩
  replace HBL := Lib.hid (HBL.out.trans (hb.mono HBL.out.size))
  clear hb
  go_wp2
  go_ret
  exact ⟨rfl, HBL.out⟩
set_option maxRecDepth 100000 in
set_option maxHeartbeats 1600000 in
theorem zones_any (C : LC) (a b : Int) (ia : In64 a) (ib : In64 b) (w : World) : Calls Try.prog 4 #[.int .i64 a, .int .i64 b] w fun e w' => e = .returned (.bool true) ∧ Below w.heap.size w w' := by
  have Ra := Lib.hid ia
  clear ia
  have Rb := Lib.hid ib
  clear ib
  obtain ⟨x, hx⟩ : ∃ x, zonesL a b = x := ⟨_, rfl⟩
  have HX := Lib.hid hx
  clear hx
  obtain ⟨y, hy⟩ : ∃ y, zonesH a b = y := ⟨_, rfl⟩
  have HY := Lib.hid hy
  clear hy
  obtain ⟨E, hE⟩ : ∃ E, zonesE a b = E := ⟨_, rfl⟩
  have HE := Lib.hid hE
  clear hE
  obtain ⟨l, hl⟩ : ∃ l, stV a b = l := ⟨_, rfl⟩
  have HL := Lib.hid hl
  clear hl
  obtain ⟨F, hF⟩ : ∃ F, stE a b = F := ⟨_, rfl⟩
  have HF := Lib.hid hF
  clear hF
  obtain ⟨n, hn⟩ : ∃ n, n = l.length := ⟨_, rfl⟩
  have HN := Lib.hid hn
  clear hn
  have HBL := Lib.hid (Below.refl w.heap.size w)
  go_enter Try.func4, Try.ntmps4
  go_wp2_with fail
  refine (C.zones a b x y E w Ra.out Rb.out HX.out HY.out HE.out).mono ?_
  rintro e w1 ⟨rfl, hb⟩
  replace HBL := Lib.hid (HBL.out.trans (hb.mono HBL.out.size))
  clear hb
  go_wp2_with fail
  refine ((refzones_any a b x y E HX.out HY.out HE.out w1).mono (R' := fun e w' => e = .returned (.tuple #[.int .i64 x, .int .i64 y, .int .i64 E]) ∧ Below _ _ w') (fun e w' h => ⟨h.1, by rw [h.2]; exact Below.refl w1.heap.size w1⟩)).mono ?_
  rintro e w2 ⟨rfl, hb⟩
  replace HBL := Lib.hid (HBL.out.trans (hb.mono HBL.out.size))
  clear hb
  go_wp2_with fail
  refine (C.stations a b F l n w2 Ra.out Rb.out HL.out HN.out HF.out).mono ?_
  rintro e w3 ⟨A1, c1, rfl, hs, hb⟩
  replace HBL := Lib.hid (HBL.out.trans (hb.mono HBL.out.size))
  have L1 := Lib.hid hs
  clear hs
  clear hb
  go_wp2_with fail
  refine (refstations_any a b F l n HL.out HN.out HF.out w3).mono ?_
  rintro e w4 ⟨A2, c2, rfl, hs, hb⟩
  replace L1 := Lib.hid (L1.out.next hb)
  replace HBL := Lib.hid (HBL.out.trans (hb.mono HBL.out.size))
  have L2 := Lib.hid hs
  clear hs
  clear hb
  go_wp2_with fail
  refine (lined_any C w4).mono ?_
  rintro e w5 ⟨rfl, hb⟩
  replace L1 := Lib.hid (L1.out.next hb)
  replace L2 := Lib.hid (L2.out.next hb)
  replace HBL := Lib.hid (HBL.out.trans (hb.mono HBL.out.size))
  clear hb
  go_wp2_with fail
  refine (refsamen_eq l n HN.out A1 A2 c1 c2 w5 L1.out L2.out).mono ?_
  rintro e w6 ⟨rfl, hb⟩
  replace L1 := Lib.hid (L1.out.next hb)
  replace L2 := Lib.hid (L2.out.next hb)
  replace HBL := Lib.hid (HBL.out.trans (hb.mono HBL.out.size))
  clear hb
  go_wp2
  go_ret
  exact ⟨rfl, HBL.out⟩
set_option maxRecDepth 100000 in
set_option maxHeartbeats 1600000 in
theorem ways_any (C : LC) (a b s : Int) (ia : In64 a) (ib : In64 b) (is : In64 s) (w : World) : Calls Try.prog 5 #[.int .i64 a, .int .i64 b, .int .i64 s] w fun e w' => e = .returned (.bool true) ∧ Below w.heap.size w w' := by
  have Ra := Lib.hid ia
  clear ia
  have Rb := Lib.hid ib
  clear ib
  have Rs := Lib.hid is
  clear is
  obtain ⟨z, hz⟩ : ∃ z, zoneV s = z := ⟨_, rfl⟩
  have HZ := Lib.hid hz
  clear hz
  obtain ⟨x, hx⟩ : ∃ x, zonesL a b = x := ⟨_, rfl⟩
  have HX := Lib.hid hx
  clear hx
  obtain ⟨y, hy⟩ : ∃ y, zonesH a b = y := ⟨_, rfl⟩
  have HY := Lib.hid hy
  clear hy
  have HX2 := Lib.hid (show zonesL b a = x from (zones_swap a b).1.symm.trans HX.out)
  have HY2 := Lib.hid (show zonesH b a = y from (zones_swap a b).2.1.symm.trans HY.out)
  cases h3 : is3 a b s with
  | false =>
    have HV := Lib.hid (show betV a b s = false by rw [betV, h3]; rfl)
    have HF := Lib.hid (show betE a b s = 1 by rw [betE, h3]; rfl)
    obtain ⟨E, hE⟩ : ∃ E, zonesE a b = E := ⟨_, rfl⟩
    have HE := Lib.hid hE
    obtain ⟨G, hG⟩ : ∃ G, zoneE s = G := ⟨_, rfl⟩
    have HG := Lib.hid hG
    clear hE hG h3
    have HV2 := Lib.hid ((bet_swap a b s).1.symm.trans HV.out)
    have HF2 := Lib.hid ((bet_swap a b s).2.symm.trans HF.out)
    have HE2 := Lib.hid ((zones_swap a b).2.2.symm.trans HE.out)
    have HBL := Lib.hid (Below.refl w.heap.size w)
    go_enter Try.func5, Try.ntmps5
    go_wp2_with fail
    refine (C.bet a b s false 1 w Ra.out Rb.out Rs.out HV.out HF.out).mono ?_
    rintro e w1 ⟨rfl, hb⟩
    replace HBL := Lib.hid (HBL.out.trans (hb.mono HBL.out.size))
    clear hb
    go_wp2_with fail
    refine (C.bet b a s false 1 w1 Rb.out Ra.out Rs.out HV2.out HF2.out).mono ?_
    rintro e w2 ⟨rfl, hb⟩
    replace HBL := Lib.hid (HBL.out.trans (hb.mono HBL.out.size))
    clear hb
    go_wp2_with fail
    refine (C.zones a b x y E w2 Ra.out Rb.out HX.out HY.out HE.out).mono ?_
    rintro e w3 ⟨rfl, hb⟩
    replace HBL := Lib.hid (HBL.out.trans (hb.mono HBL.out.size))
    clear hb
    go_wp2_with fail
    refine (C.zones b a x y E w3 Rb.out Ra.out HX2.out HY2.out HE2.out).mono ?_
    rintro e w4 ⟨rfl, hb⟩
    replace HBL := Lib.hid (HBL.out.trans (hb.mono HBL.out.size))
    clear hb
    go_wp2_with fail
    refine (C.zone s z G w4 Rs.out HZ.out HG.out).mono ?_
    rintro e w5 ⟨rfl, hb⟩
    replace HBL := Lib.hid (HBL.out.trans (hb.mono HBL.out.size))
    clear hb
    go_wp2_with fail
    refine (lined_any C w5).mono ?_
    rintro e w6 ⟨rfl, hb⟩
    replace HBL := Lib.hid (HBL.out.trans (hb.mono HBL.out.size))
    clear hb
    go_wp2
    go_ret
    exact ⟨rfl, HBL.out⟩
  | true =>
    have HF := Lib.hid (show betE a b s = 0 by rw [betE, h3]; rfl)
    cases hbt : between a b s with
    | false =>
      have HV := Lib.hid (show betV a b s = false by rw [betV, h3]; exact hbt)
      obtain ⟨E, hE⟩ : ∃ E, zonesE a b = E := ⟨_, rfl⟩
      have HE := Lib.hid hE
      obtain ⟨G, hG⟩ : ∃ G, zoneE s = G := ⟨_, rfl⟩
      have HG := Lib.hid hG
      clear hE hG h3 hbt
      have HV2 := Lib.hid ((bet_swap a b s).1.symm.trans HV.out)
      have HF2 := Lib.hid ((bet_swap a b s).2.symm.trans HF.out)
      have HE2 := Lib.hid ((zones_swap a b).2.2.symm.trans HE.out)
      have HBL := Lib.hid (Below.refl w.heap.size w)
      go_enter Try.func5, Try.ntmps5
      go_wp2_with fail
      refine (C.bet a b s false 0 w Ra.out Rb.out Rs.out HV.out HF.out).mono ?_
      rintro e w1 ⟨rfl, hb⟩
      replace HBL := Lib.hid (HBL.out.trans (hb.mono HBL.out.size))
      clear hb
      go_wp2_with fail
      refine (C.bet b a s false 0 w1 Rb.out Ra.out Rs.out HV2.out HF2.out).mono ?_
      rintro e w2 ⟨rfl, hb⟩
      replace HBL := Lib.hid (HBL.out.trans (hb.mono HBL.out.size))
      clear hb
      go_wp2_with fail
      refine (C.zones a b x y E w2 Ra.out Rb.out HX.out HY.out HE.out).mono ?_
      rintro e w3 ⟨rfl, hb⟩
      replace HBL := Lib.hid (HBL.out.trans (hb.mono HBL.out.size))
      clear hb
      go_wp2_with fail
      refine (C.zones b a x y E w3 Rb.out Ra.out HX2.out HY2.out HE2.out).mono ?_
      rintro e w4 ⟨rfl, hb⟩
      replace HBL := Lib.hid (HBL.out.trans (hb.mono HBL.out.size))
      clear hb
      go_wp2_with fail
      refine (C.zone s z G w4 Rs.out HZ.out HG.out).mono ?_
      rintro e w5 ⟨rfl, hb⟩
      replace HBL := Lib.hid (HBL.out.trans (hb.mono HBL.out.size))
      clear hb
      go_wp2_with fail
      refine (lined_any C w5).mono ?_
      rintro e w6 ⟨rfl, hb⟩
      replace HBL := Lib.hid (HBL.out.trans (hb.mono HBL.out.size))
      clear hb
      go_wp2
      go_ret
      exact ⟨rfl, HBL.out⟩
    | true =>
      have HV := Lib.hid (show betV a b s = true by rw [betV, h3]; exact hbt)
      obtain ⟨f1, f2, f3, f4⟩ := ways_facts h3 hbt
      have HE := Lib.hid f1
      have HG := Lib.hid f2
      rw [HX.out, HZ.out] at f3
      rw [HY.out, HZ.out] at f4
      have q3 : decide (x ≤ z) = true := decide_eq_true f3
      have q4 : decide (z ≤ y) = true := decide_eq_true f4
      clear f1 f2 f3 f4 h3 hbt
      have HV2 := Lib.hid ((bet_swap a b s).1.symm.trans HV.out)
      have HF2 := Lib.hid ((bet_swap a b s).2.symm.trans HF.out)
      have HE2 := Lib.hid ((zones_swap a b).2.2.symm.trans HE.out)
      have HBL := Lib.hid (Below.refl w.heap.size w)
      go_enter Try.func5, Try.ntmps5
      go_wp2_with fail
      refine (C.bet a b s true 0 w Ra.out Rb.out Rs.out HV.out HF.out).mono ?_
      rintro e w1 ⟨rfl, hb⟩
      replace HBL := Lib.hid (HBL.out.trans (hb.mono HBL.out.size))
      clear hb
      go_wp2_with fail
      refine (C.bet b a s true 0 w1 Rb.out Ra.out Rs.out HV2.out HF2.out).mono ?_
      rintro e w2 ⟨rfl, hb⟩
      replace HBL := Lib.hid (HBL.out.trans (hb.mono HBL.out.size))
      clear hb
      go_wp2_with fail
      refine (C.zones a b x y 0 w2 Ra.out Rb.out HX.out HY.out HE.out).mono ?_
      rintro e w3 ⟨rfl, hb⟩
      replace HBL := Lib.hid (HBL.out.trans (hb.mono HBL.out.size))
      clear hb
      go_wp2_with fail
      refine (C.zones b a x y 0 w3 Rb.out Ra.out HX2.out HY2.out HE2.out).mono ?_
      rintro e w4 ⟨rfl, hb⟩
      replace HBL := Lib.hid (HBL.out.trans (hb.mono HBL.out.size))
      clear hb
      go_wp2_with fail
      refine (C.zone s z 0 w4 Rs.out HZ.out HG.out).mono ?_
      rintro e w5 ⟨rfl, hb⟩
      replace HBL := Lib.hid (HBL.out.trans (hb.mono HBL.out.size))
      clear hb
      go_wp2_with fail
      refine (lined_any C w5).mono ?_
      rintro e w6 ⟨rfl, hb⟩
      replace HBL := Lib.hid (HBL.out.trans (hb.mono HBL.out.size))
      clear hb
      go_wp2
      go_ret
      exact ⟨rfl, HBL.out⟩
set_option maxRecDepth 100000 in
set_option maxHeartbeats 1600000 in
theorem near_any (C : LC) (s : Int) (is : In64 s) (w : World) : Calls Try.prog 7 #[.int .i64 s] w fun e w' => e = .returned (.bool true) ∧ Below w.heap.size w w' := by
  have Rs := Lib.hid is
  clear is
  by_cases h0 : s < 0
  · have q0 : decide (s < 0) = true := decide_eq_true h0
    clear h0
    have HBL := Lib.hid (Below.refl w.heap.size w)
    go_enter Try.func7, Try.ntmps7
    go_wp2_with fail
    refine (lined_any C w).mono ?_
    rintro e w1 ⟨rfl, hb⟩
    replace HBL := Lib.hid (HBL.out.trans (hb.mono HBL.out.size))
    clear hb
    go_wp2
    go_ret
    exact ⟨rfl, HBL.out⟩
  · have q0 : decide (s < 0) = false := decide_eq_false h0
    by_cases h1 : 39 ≤ s
    · have q1 : decide (39 ≤ s) = true := decide_eq_true h1
      clear h0 h1
      have HBL := Lib.hid (Below.refl w.heap.size w)
      go_enter Try.func7, Try.ntmps7
      go_wp2_with fail
      refine (lined_any C w).mono ?_
      rintro e w1 ⟨rfl, hb⟩
      replace HBL := Lib.hid (HBL.out.trans (hb.mono HBL.out.size))
      clear hb
      go_wp2
      go_ret
      exact ⟨rfl, HBL.out⟩
    · have q1 : decide (39 ≤ s) = false := decide_eq_false h1
      have n0 : isN s = true := (isN_iff s).2 (by omega)
      have n1 : isN (s + 1) = true := (isN_iff _).2 (by omega)
      have hz := zn_in n0
      have hy := zn_in n1
      have hn := zn_next n0
      obtain ⟨z, hz1⟩ : ∃ z, zn s = z := ⟨_, rfl⟩
      obtain ⟨y, hy1⟩ : ∃ y, zn (s + 1) = y := ⟨_, rfl⟩
      have HZ := Lib.hid (show zoneV s = z by rw [zoneV, if_pos n0]; exact hz1)
      have HY := Lib.hid (show zoneV (s + 1) = y by rw [zoneV, if_pos n1]; exact hy1)
      have HE := Lib.hid (show zoneE s = 0 by rw [zoneE, if_pos n0])
      have HF := Lib.hid (show zoneE (s + 1) = 0 by rw [zoneE, if_pos n1])
      have Rs1 := Lib.hid (show In64 (s + 1) by unfold In64; omega)
      rw [hz1] at hz hn
      rw [hy1] at hy hn
      have ws : IntKind.i64.wrap (s + 1) = s + 1 := IntWalk.i64_in _ (by omega)
      have wz : IntKind.i64.wrap (z - y) = z - y := IntWalk.i64_in _ (by omega)
      have wy : IntKind.i64.wrap (y - z) = y - z := IntWalk.i64_in _ (by omega)
      have p1 : decide (z - y ≤ 1) = true := decide_eq_true hn.1
      have p2 : decide (y - z ≤ 1) = true := decide_eq_true hn.2
      have p3 : decide (1 ≤ z) = true := decide_eq_true hz.1
      have p4 : decide (z ≤ 6) = true := decide_eq_true hz.2
      clear h0 h1 n0 n1 hz hy hn hz1 hy1
      have HBL := Lib.hid (Below.refl w.heap.size w)
      go_enter Try.func7, Try.ntmps7
      go_wp2_with fail
      refine (C.zone s z 0 w Rs.out HZ.out HE.out).mono ?_
      rintro e w1 ⟨rfl, hb⟩
      replace HBL := Lib.hid (HBL.out.trans (hb.mono HBL.out.size))
      clear hb
      go_wp2_with fail
      refine (C.zone (s + 1) y 0 w1 Rs1.out HY.out HF.out).mono ?_
      rintro e w2 ⟨rfl, hb⟩
      replace HBL := Lib.hid (HBL.out.trans (hb.mono HBL.out.size))
      clear hb
      go_wp2_with fail
      refine (lined_any C w2).mono ?_
      rintro e w3 ⟨rfl, hb⟩
      replace HBL := Lib.hid (HBL.out.trans (hb.mono HBL.out.size))
      clear hb
      go_wp2
      go_ret
      exact ⟨rfl, HBL.out⟩
end Go.Proofs.Ytnfdglejhmekeaa
