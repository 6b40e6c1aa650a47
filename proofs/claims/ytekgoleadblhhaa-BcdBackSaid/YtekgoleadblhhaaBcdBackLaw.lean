/-
  Law BcdBack walked: it answers true. Conditions: the slice reads as bytes.
-/
import Derived.Test.YtekgoleadblhhaaCoded
namespace Go.Proofs.Ytekgoleadblhhaa
set_option linter.unusedVariables false
open Go.ChangeShapes Go.WideShapes Go.ChangeAt Go.RowKit

theorem back12_len {n t : Int} (h : putE n t = 0) : ∃ N K : Nat, n = N ∧ t = K ∧ (putL n t).length = K ∧ getX (putL n t) = (0, N) := by
  have hg := put_get h
  obtain ⟨N, K, rfl, rfl, _, _, hp⟩ := put_zero h
  exact ⟨N, K, rfl, rfl, by rw [hp, dg_len], by rw [hg]; rfl⟩
theorem back12_put {l : List Nat} {m N : Nat} (hm : m = l.length) (h : getX l = (0, N)) : putE (N : Int) (m : Int) = 0 ∧ putL (N : Int) (m : Int) = l ∧ (N : Int) ≤ 9223372036854775807 := by
  have h0 : (getX l).1 = 0 := by rw [h]
  have hq := get_put h0
  obtain ⟨a, b, hc⟩ := getX_zero h0
  rw [h] at hq hc
  subst hm
  refine ⟨hq.1, hq.2, ?_⟩
  have h1 := valD_lt l.length l rfl b
  have h2 := pow18 a
  have h3 : N = valD l := hc
  omega
set_option maxRecDepth 100000 in
set_option maxHeartbeats 1600000 in
theorem back12_any (n t : Int) (hn : n ≤ 9223372036854775807) (l : List Nat) (m : Nat) (hm : m = l.length) (A : Option Addr) (c : Nat) (w : World) (hA : Bs w w.heap.size l A c) : Calls Try.prog 5 #[.int .i64 n, .int .i64 t, .slice A m c] w fun e w' => e = .returned (.bool true) ∧ Below w.heap.size w w' := by
  have h0a := hA.len
  have h0b := hA.cap
  have h063 : m ≤ 9223372036854775807 := by omega
  clear h0a h0b
  have HM := Lib.hid hm
  have LA := Lib.hid hA
  clear hm hA
  have HBL := Lib.hid (Below.refl w.heap.size w)
  obtain ⟨E, hE⟩ : ∃ E, putE n t = E := ⟨_, rfl⟩
  obtain ⟨p, hP⟩ : ∃ p, putL n t = p := ⟨_, rfl⟩
  obtain ⟨G, N, hG⟩ : ∃ G N, getX l = (G, N) := ⟨_, _, rfl⟩
  have HE := Lib.hid hE
  have HP := Lib.hid hP
  have HG := Lib.hid hG
  clear hE hP hG
  by_cases e0 : E = 0
  · subst e0
    obtain ⟨N0, K, rfl, rfl, hK, hX⟩ := back12_len HE.out
    rw [HP.out] at hK hX
    have HPL := Lib.hid hK
    have HX := Lib.hid hX
    clear hK hX
    go_enter Try.func5, Try.ntmps5
    go_wp2_with fail
    refine (pput_any N0 K 0 p HE.out HP.out w hn).mono ?_
    rintro e w1 ⟨AP1, cP1, rfl, hs, hb⟩
    replace LA := Lib.hid (LA.out.next hb)
    replace HBL := Lib.hid (HBL.out.trans (hb.mono HBL.out.size))
    have P1 := Lib.hid hs
    clear hb hs
    rw [HPL.out]
    go_wp2_with fail
    refine (pget_any p K HPL.out.symm 0 N0 HX.out AP1 cP1 w1 P1.out).mono ?_
    rintro e wn ⟨rfl, rfl⟩
    by_cases h18 : 18 < m
    · have p18 : (18 : Int) < (m : Int) := by omega
      go_wp2_with fail
      refine (coded_any w1).mono ?_
      rintro e w2 ⟨rfl, hb⟩
      replace LA := Lib.hid (LA.out.next hb)
      replace P1 := Lib.hid (P1.out.next hb)
      replace HBL := Lib.hid (HBL.out.trans (hb.mono HBL.out.size))
      clear hb
      go_wp2
      go_ret
      exact ⟨rfl, HBL.out⟩
    have p18 : ¬ ((18 : Int) < (m : Int)) := by omega
    by_cases g0 : G = 0
    · subst g0
      have hq := back12_put HM.out HG.out
      have HQ := Lib.hid hq
      clear hq
      go_wp2_with fail
      refine (pget_any l m HM.out 0 N HG.out A c w1 LA.out).mono ?_
      rintro e wn ⟨rfl, rfl⟩
      go_wp2_with fail
      refine (pput_any N m 0 l HQ.out.1 HQ.out.2.1 w1 HQ.out.2.2).mono ?_
      rintro e w2 ⟨AP2, cP2, rfl, hs, hb⟩
      replace LA := Lib.hid (LA.out.next hb)
      replace P1 := Lib.hid (P1.out.next hb)
      replace HBL := Lib.hid (HBL.out.trans (hb.mono HBL.out.size))
      have P2 := Lib.hid hs
      clear hb hs
      rw [← HM.out]
      go_wp2_with fail
      refine (coded_any w2).mono ?_
      rintro e w3 ⟨rfl, hb⟩
      replace LA := Lib.hid (LA.out.next hb)
      replace P1 := Lib.hid (P1.out.next hb)
      replace P2 := Lib.hid (P2.out.next hb)
      replace HBL := Lib.hid (HBL.out.trans (hb.mono HBL.out.size))
      clear hb
      go_wp2_with fail
      refine (same_true l m m HM.out HM.out AP2 A cP2 c w3 P2.out LA.out).mono ?_
      rintro e w4 ⟨rfl, hb⟩
      replace LA := Lib.hid (LA.out.next hb)
      replace P1 := Lib.hid (P1.out.next hb)
      replace P2 := Lib.hid (P2.out.next hb)
      replace HBL := Lib.hid (HBL.out.trans (hb.mono HBL.out.size))
      clear hb
      go_wp2
      go_ret
      exact ⟨rfl, HBL.out⟩
    have z1 : (G == 0) = false := by rw [beq_eq_false_iff_ne]; exact g0
    have z2 : (G != 0) = true := by rw [bne_iff_ne]; exact g0
    obtain rfl : N = 0 := by have := getX_not (l := l) (by rw [HG.out]; exact g0); rw [HG.out] at this; exact this
    go_wp2_with fail
    refine (pget_any l m HM.out G 0 HG.out A c w1 LA.out).mono ?_
    rintro e wn ⟨rfl, rfl⟩
    go_wp2_with fail
    refine (coded_any w1).mono ?_
    rintro e w2 ⟨rfl, hb⟩
    replace LA := Lib.hid (LA.out.next hb)
    replace P1 := Lib.hid (P1.out.next hb)
    replace HBL := Lib.hid (HBL.out.trans (hb.mono HBL.out.size))
    clear hb
    go_wp2
    go_ret
    exact ⟨rfl, HBL.out⟩
  have y1 : (E == 0) = false := by rw [beq_eq_false_iff_ne]; exact e0
  have y2 : (E != 0) = true := by rw [bne_iff_ne]; exact e0
  go_enter Try.func5, Try.ntmps5
  go_wp2_with fail
  refine (pput_any n t E p HE.out HP.out w hn).mono ?_
  rintro e w1 ⟨AP1, cP1, rfl, hs, hb⟩
  replace LA := Lib.hid (LA.out.next hb)
  replace HBL := Lib.hid (HBL.out.trans (hb.mono HBL.out.size))
  have P1 := Lib.hid hs
  clear hb hs
  by_cases h18 : 18 < m
  · have p18 : (18 : Int) < (m : Int) := by omega
    go_wp2_with fail
    refine (coded_any w1).mono ?_
    rintro e w2 ⟨rfl, hb⟩
    replace LA := Lib.hid (LA.out.next hb)
    replace P1 := Lib.hid (P1.out.next hb)
    replace HBL := Lib.hid (HBL.out.trans (hb.mono HBL.out.size))
    clear hb
    go_wp2
    go_ret
    exact ⟨rfl, HBL.out⟩
  have p18 : ¬ ((18 : Int) < (m : Int)) := by omega
  by_cases g0 : G = 0
  · subst g0
    have hq := back12_put HM.out HG.out
    have HQ := Lib.hid hq
    clear hq
    go_wp2_with fail
    refine (pget_any l m HM.out 0 N HG.out A c w1 LA.out).mono ?_
    rintro e wn ⟨rfl, rfl⟩
    go_wp2_with fail
    refine (pput_any N m 0 l HQ.out.1 HQ.out.2.1 w1 HQ.out.2.2).mono ?_
    rintro e w2 ⟨AP2, cP2, rfl, hs, hb⟩
    replace LA := Lib.hid (LA.out.next hb)
    replace P1 := Lib.hid (P1.out.next hb)
    replace HBL := Lib.hid (HBL.out.trans (hb.mono HBL.out.size))
    have P2 := Lib.hid hs
    clear hb hs
    rw [← HM.out]
    go_wp2_with fail
    refine (coded_any w2).mono ?_
    rintro e w3 ⟨rfl, hb⟩
    replace LA := Lib.hid (LA.out.next hb)
    replace P1 := Lib.hid (P1.out.next hb)
    replace P2 := Lib.hid (P2.out.next hb)
    replace HBL := Lib.hid (HBL.out.trans (hb.mono HBL.out.size))
    clear hb
    go_wp2_with fail
    refine (same_true l m m HM.out HM.out AP2 A cP2 c w3 P2.out LA.out).mono ?_
    rintro e w4 ⟨rfl, hb⟩
    replace LA := Lib.hid (LA.out.next hb)
    replace P1 := Lib.hid (P1.out.next hb)
    replace P2 := Lib.hid (P2.out.next hb)
    replace HBL := Lib.hid (HBL.out.trans (hb.mono HBL.out.size))
    clear hb
    go_wp2
    go_ret
    exact ⟨rfl, HBL.out⟩
  have z1 : (G == 0) = false := by rw [beq_eq_false_iff_ne]; exact g0
  have z2 : (G != 0) = true := by rw [bne_iff_ne]; exact g0
  obtain rfl : N = 0 := by have := getX_not (l := l) (by rw [HG.out]; exact g0); rw [HG.out] at this; exact this
  go_wp2_with fail
  refine (pget_any l m HM.out G 0 HG.out A c w1 LA.out).mono ?_
  rintro e wn ⟨rfl, rfl⟩
  go_wp2_with fail
  refine (coded_any w1).mono ?_
  rintro e w2 ⟨rfl, hb⟩
  replace LA := Lib.hid (LA.out.next hb)
  replace P1 := Lib.hid (P1.out.next hb)
  replace HBL := Lib.hid (HBL.out.trans (hb.mono HBL.out.size))
  clear hb
  go_wp2
  go_ret
  exact ⟨rfl, HBL.out⟩
end Go.Proofs.Ytekgoleadblhhaa
