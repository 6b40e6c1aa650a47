/-
  Law TlvTells walked: it answers true. Conditions: the slice reads as bytes.
-/
import Derived.Test.YtkjghmonpdbjeaaTlvListed
namespace Go.Proofs.Ytkjghmonpdbjeaa
set_option linter.unusedVariables false
open Go.ChangeShapes Go.WideShapes Go.ChangeAt Go.RowKit

theorem valT_cases (b : List Nat) : (∃ v, valT b = (v, 14)) ∨ ∃ v, valT b = (v, 0) := by
  by_cases h : b.length = 0 ∨ 7 < b.length ∨ b.getD 0 0 = 0
  · exact .inl ⟨_, valT_bad h⟩
  · exact .inr ⟨_, by rw [valT, if_neg h]⟩
set_option maxRecDepth 100000 in
set_option maxHeartbeats 1600000 in
theorem tells17_neg_no (m : Int) (hm : m < 9223372036854775808) (b : List Nat) (n : Nat) (hn : n = b.length) (A : Option Addr) (c : Nat) (w : World) (hl : n ≤ 1000) (v : Nat) (hv : valT b = (v, 14)) (h0 : m < 0) (hA : Bs w w.heap.size b A c) : Calls Try.prog 7 #[.int .i64 m, .slice A n c] w fun e w' => e = .returned (.bool true) ∧ Below w.heap.size w w' := by
  have h1 := hA.len
  have h2 := hA.cap
  have hn3 : n ≤ 9223372036854775807 := by omega
  have HN := Lib.hid hn
  have B1 := Lib.hid hA
  have HBL := Lib.hid (Below.refl w.heap.size w)
  clear h1 h2 hn hA
  have p0 : ¬ ((1000 : Int) < (n : Int)) := by omega
  have HV := Lib.hid hv
  clear hv
  have HO := Lib.hid (outN_neg h0)
  go_enter Try.func7, Try.ntmps7
  go_wp2_with fail
  refine (pnumber_any m hm 1 [] HO.out w).mono ?_
  rintro e w1 ⟨AN1, cN1, rfl, hs, hb⟩
  replace B1 := Lib.hid (B1.out.next hb)
  replace HBL := Lib.hid (HBL.out.trans (hb.mono HBL.out.size))
  have N1 := Lib.hid hs
  clear hb hs
  go_wp2_with fail
  refine (pvalue_any b n HN.out v 14 HV.out A c w1 B1.out).mono ?_
  rintro e _ ⟨rfl, rfl⟩
  go_wp2_with fail
  refine (listed_any w1).mono ?_
  rintro e w2 ⟨rfl, hb⟩
  replace B1 := Lib.hid (B1.out.next hb)
  replace N1 := Lib.hid (N1.out.next hb)
  replace HBL := Lib.hid (HBL.out.trans (hb.mono HBL.out.size))
  clear hb
  go_wp2
  go_ret
  exact ⟨rfl, HBL.out⟩
set_option maxRecDepth 100000 in
set_option maxHeartbeats 1600000 in
theorem tells17_neg_num (m : Int) (hm : m < 9223372036854775808) (b : List Nat) (n : Nat) (hn : n = b.length) (A : Option Addr) (c : Nat) (w : World) (hl : n ≤ 1000) (v : Nat) (hv : valT b = (v, 0)) (h0 : m < 0) (hA : Bs w w.heap.size b A c) : Calls Try.prog 7 #[.int .i64 m, .slice A n c] w fun e w' => e = .returned (.bool true) ∧ Below w.heap.size w w' := by
  have h1 := hA.len
  have h2 := hA.cap
  have hn3 : n ≤ 9223372036854775807 := by omega
  have HN := Lib.hid hn
  have B1 := Lib.hid hA
  have HBL := Lib.hid (Below.refl w.heap.size w)
  clear h1 h2 hn hA
  have p0 : ¬ ((1000 : Int) < (n : Int)) := by omega
  have HV := Lib.hid hv
  obtain ⟨v1, v2, v3⟩ := num_valT B1.out.lt hv
  have HX := Lib.hid (show outN (v : Int) = (0, b) by rw [outN_nat, v3])
  have v4 : (0 : Int) < (v : Int) := by omega
  have v5 : 0 < v := v1
  clear v3
  clear hv
  have HO := Lib.hid (outN_neg h0)
  go_enter Try.func7, Try.ntmps7
  go_wp2_with fail
  refine (pnumber_any m hm 1 [] HO.out w).mono ?_
  rintro e w1 ⟨AN1, cN1, rfl, hs, hb⟩
  replace B1 := Lib.hid (B1.out.next hb)
  replace HBL := Lib.hid (HBL.out.trans (hb.mono HBL.out.size))
  have N1 := Lib.hid hs
  clear hb hs
  go_wp2_with fail
  refine (pvalue_any b n HN.out v 0 HV.out A c w1 B1.out).mono ?_
  rintro e _ ⟨rfl, rfl⟩
  go_wp2_with fail
  refine (pnumber_any (v : Int) (by omega) 0 b HX.out w1).mono ?_
  rintro e w2 ⟨AN2, cN2, rfl, hs, hb⟩
  replace B1 := Lib.hid (B1.out.next hb)
  replace N1 := Lib.hid (N1.out.next hb)
  replace HBL := Lib.hid (HBL.out.trans (hb.mono HBL.out.size))
  have N2 := Lib.hid hs
  clear hb hs
  go_wp2_with fail
  refine (listed_any w2).mono ?_
  rintro e w3 ⟨rfl, hb⟩
  replace B1 := Lib.hid (B1.out.next hb)
  replace N1 := Lib.hid (N1.out.next hb)
  replace N2 := Lib.hid (N2.out.next hb)
  replace HBL := Lib.hid (HBL.out.trans (hb.mono HBL.out.size))
  clear hb
  go_wp2_with fail
  refine (same_true b n b.length HN.out rfl A AN2 c cN2 w3 B1.out N2.out).mono ?_
  rintro e w4 ⟨rfl, hb⟩
  replace B1 := Lib.hid (B1.out.next hb)
  replace N1 := Lib.hid (N1.out.next hb)
  replace N2 := Lib.hid (N2.out.next hb)
  replace HBL := Lib.hid (HBL.out.trans (hb.mono HBL.out.size))
  clear hb
  go_wp2
  go_ret
  exact ⟨rfl, HBL.out⟩
set_option maxRecDepth 100000 in
set_option maxHeartbeats 1600000 in
theorem tells17_zero_no (b : List Nat) (n : Nat) (hn : n = b.length) (A : Option Addr) (c : Nat) (w : World) (hl : n ≤ 1000) (v : Nat) (hv : valT b = (v, 14)) (hA : Bs w w.heap.size b A c) : Calls Try.prog 7 #[.int .i64 0, .slice A n c] w fun e w' => e = .returned (.bool true) ∧ Below w.heap.size w w' := by
  have h1 := hA.len
  have h2 := hA.cap
  have hn3 : n ≤ 9223372036854775807 := by omega
  have HN := Lib.hid hn
  have B1 := Lib.hid hA
  have HBL := Lib.hid (Below.refl w.heap.size w)
  clear h1 h2 hn hA
  have p0 : ¬ ((1000 : Int) < (n : Int)) := by omega
  have HV := Lib.hid hv
  clear hv
  go_enter Try.func7, Try.ntmps7
  go_wp2_with fail
  refine (pnumber_any 0 (by omega) 0 [] listed_c9 w).mono ?_
  rintro e w1 ⟨AN1, cN1, rfl, hs, hb⟩
  replace B1 := Lib.hid (B1.out.next hb)
  replace HBL := Lib.hid (HBL.out.trans (hb.mono HBL.out.size))
  have N1 := Lib.hid hs
  clear hb hs
  go_wp2_with fail
  refine (pvalue_any b n HN.out v 14 HV.out A c w1 B1.out).mono ?_
  rintro e _ ⟨rfl, rfl⟩
  go_wp2_with fail
  refine (listed_any w1).mono ?_
  rintro e w2 ⟨rfl, hb⟩
  replace B1 := Lib.hid (B1.out.next hb)
  replace N1 := Lib.hid (N1.out.next hb)
  replace HBL := Lib.hid (HBL.out.trans (hb.mono HBL.out.size))
  clear hb
  go_wp2
  go_ret
  exact ⟨rfl, HBL.out⟩
set_option maxRecDepth 100000 in
set_option maxHeartbeats 1600000 in
theorem tells17_zero_num (b : List Nat) (n : Nat) (hn : n = b.length) (A : Option Addr) (c : Nat) (w : World) (hl : n ≤ 1000) (v : Nat) (hv : valT b = (v, 0)) (hA : Bs w w.heap.size b A c) : Calls Try.prog 7 #[.int .i64 0, .slice A n c] w fun e w' => e = .returned (.bool true) ∧ Below w.heap.size w w' := by
  have h1 := hA.len
  have h2 := hA.cap
  have hn3 : n ≤ 9223372036854775807 := by omega
  have HN := Lib.hid hn
  have B1 := Lib.hid hA
  have HBL := Lib.hid (Below.refl w.heap.size w)
  clear h1 h2 hn hA
  have p0 : ¬ ((1000 : Int) < (n : Int)) := by omega
  have HV := Lib.hid hv
  obtain ⟨v1, v2, v3⟩ := num_valT B1.out.lt hv
  have HX := Lib.hid (show outN (v : Int) = (0, b) by rw [outN_nat, v3])
  have v4 : (0 : Int) < (v : Int) := by omega
  have v5 : 0 < v := v1
  clear v3
  clear hv
  go_enter Try.func7, Try.ntmps7
  go_wp2_with fail
  refine (pnumber_any 0 (by omega) 0 [] listed_c9 w).mono ?_
  rintro e w1 ⟨AN1, cN1, rfl, hs, hb⟩
  replace B1 := Lib.hid (B1.out.next hb)
  replace HBL := Lib.hid (HBL.out.trans (hb.mono HBL.out.size))
  have N1 := Lib.hid hs
  clear hb hs
  go_wp2_with fail
  refine (pvalue_any b n HN.out v 0 HV.out A c w1 B1.out).mono ?_
  rintro e _ ⟨rfl, rfl⟩
  go_wp2_with fail
  refine (pnumber_any (v : Int) (by omega) 0 b HX.out w1).mono ?_
  rintro e w2 ⟨AN2, cN2, rfl, hs, hb⟩
  replace B1 := Lib.hid (B1.out.next hb)
  replace N1 := Lib.hid (N1.out.next hb)
  replace HBL := Lib.hid (HBL.out.trans (hb.mono HBL.out.size))
  have N2 := Lib.hid hs
  clear hb hs
  go_wp2_with fail
  refine (listed_any w2).mono ?_
  rintro e w3 ⟨rfl, hb⟩
  replace B1 := Lib.hid (B1.out.next hb)
  replace N1 := Lib.hid (N1.out.next hb)
  replace N2 := Lib.hid (N2.out.next hb)
  replace HBL := Lib.hid (HBL.out.trans (hb.mono HBL.out.size))
  clear hb
  go_wp2_with fail
  refine (same_true b n b.length HN.out rfl A AN2 c cN2 w3 B1.out N2.out).mono ?_
  rintro e w4 ⟨rfl, hb⟩
  replace B1 := Lib.hid (B1.out.next hb)
  replace N1 := Lib.hid (N1.out.next hb)
  replace N2 := Lib.hid (N2.out.next hb)
  replace HBL := Lib.hid (HBL.out.trans (hb.mono HBL.out.size))
  clear hb
  go_wp2
  go_ret
  exact ⟨rfl, HBL.out⟩
set_option maxRecDepth 100000 in
set_option maxHeartbeats 1600000 in
theorem tells17_long_no (m : Int) (hm : m < 9223372036854775808) (b : List Nat) (n : Nat) (hn : n = b.length) (A : Option Addr) (c : Nat) (w : World) (hl : n ≤ 1000) (v : Nat) (hv : valT b = (v, 14)) (h0 : 0 < m) (h7 : 7 < sizeN m.toNat) (hA : Bs w w.heap.size b A c) : Calls Try.prog 7 #[.int .i64 m, .slice A n c] w fun e w' => e = .returned (.bool true) ∧ Below w.heap.size w w' := by
  have h1 := hA.len
  have h2 := hA.cap
  have hn3 : n ≤ 9223372036854775807 := by omega
  have HN := Lib.hid hn
  have B1 := Lib.hid hA
  have HBL := Lib.hid (Below.refl w.heap.size w)
  clear h1 h2 hn hA
  have p0 : ¬ ((1000 : Int) < (n : Int)) := by omega
  have HV := Lib.hid hv
  clear hv
  obtain ⟨N, hN⟩ : ∃ N : Nat, m = (N : Int) := ⟨m.toNat, by omega⟩
  have hNt : m.toNat = N := by omega
  rw [hNt] at h7
  have hN63 : N < 9223372036854775808 := by omega
  have hN0 : N ≠ 0 := by omega
  have HMN := Lib.hid hN.symm
  have HO := Lib.hid (show outN m = (0, numB N) by rw [hN, outN_nat])
  have hs8 := (sizeN_spec hN63).1
  have hl8 := numB_len N
  generalize numB N = p at *
  obtain ⟨u, hu⟩ : ∃ u, u = sizeN N := ⟨_, rfl⟩
  rw [← hu] at hl8 h7 hs8
  have HL := Lib.hid hl8
  have h7' : ¬ (u : Int) ≤ 7 := by omega
  clear hN hNt hu hl8
  go_enter Try.func7, Try.ntmps7
  go_wp2_with fail
  refine (pnumber_any m hm 0 p HO.out w).mono ?_
  rintro e w1 ⟨AN1, cN1, rfl, hs, hb⟩
  replace B1 := Lib.hid (B1.out.next hb)
  replace HBL := Lib.hid (HBL.out.trans (hb.mono HBL.out.size))
  have N1 := Lib.hid hs
  clear hb hs
  rw [HL.out]
  go_wp2_with fail
  refine (pvalue_any b n HN.out v 14 HV.out A c w1 B1.out).mono ?_
  rintro e _ ⟨rfl, rfl⟩
  go_wp2_with fail
  refine (listed_any w1).mono ?_
  rintro e w2 ⟨rfl, hb⟩
  replace B1 := Lib.hid (B1.out.next hb)
  replace N1 := Lib.hid (N1.out.next hb)
  replace HBL := Lib.hid (HBL.out.trans (hb.mono HBL.out.size))
  clear hb
  go_wp2
  go_ret
  exact ⟨rfl, HBL.out⟩
set_option maxRecDepth 100000 in
set_option maxHeartbeats 1600000 in
theorem tells17_long_num (m : Int) (hm : m < 9223372036854775808) (b : List Nat) (n : Nat) (hn : n = b.length) (A : Option Addr) (c : Nat) (w : World) (hl : n ≤ 1000) (v : Nat) (hv : valT b = (v, 0)) (h0 : 0 < m) (h7 : 7 < sizeN m.toNat) (hA : Bs w w.heap.size b A c) : Calls Try.prog 7 #[.int .i64 m, .slice A n c] w fun e w' => e = .returned (.bool true) ∧ Below w.heap.size w w' := by
  have h1 := hA.len
  have h2 := hA.cap
  have hn3 : n ≤ 9223372036854775807 := by omega
  have HN := Lib.hid hn
  have B1 := Lib.hid hA
  have HBL := Lib.hid (Below.refl w.heap.size w)
  clear h1 h2 hn hA
  have p0 : ¬ ((1000 : Int) < (n : Int)) := by omega
  have HV := Lib.hid hv
  obtain ⟨v1, v2, v3⟩ := num_valT B1.out.lt hv
  have HX := Lib.hid (show outN (v : Int) = (0, b) by rw [outN_nat, v3])
  have v4 : (0 : Int) < (v : Int) := by omega
  have v5 : 0 < v := v1
  clear v3
  clear hv
  obtain ⟨N, hN⟩ : ∃ N : Nat, m = (N : Int) := ⟨m.toNat, by omega⟩
  have hNt : m.toNat = N := by omega
  rw [hNt] at h7
  have hN63 : N < 9223372036854775808 := by omega
  have hN0 : N ≠ 0 := by omega
  have HMN := Lib.hid hN.symm
  have HO := Lib.hid (show outN m = (0, numB N) by rw [hN, outN_nat])
  have hs8 := (sizeN_spec hN63).1
  have hl8 := numB_len N
  generalize numB N = p at *
  obtain ⟨u, hu⟩ : ∃ u, u = sizeN N := ⟨_, rfl⟩
  rw [← hu] at hl8 h7 hs8
  have HL := Lib.hid hl8
  have h7' : ¬ (u : Int) ≤ 7 := by omega
  clear hN hNt hu hl8
  go_enter Try.func7, Try.ntmps7
  go_wp2_with fail
  refine (pnumber_any m hm 0 p HO.out w).mono ?_
  rintro e w1 ⟨AN1, cN1, rfl, hs, hb⟩
  replace B1 := Lib.hid (B1.out.next hb)
  replace HBL := Lib.hid (HBL.out.trans (hb.mono HBL.out.size))
  have N1 := Lib.hid hs
  clear hb hs
  rw [HL.out]
  go_wp2_with fail
  refine (pvalue_any b n HN.out v 0 HV.out A c w1 B1.out).mono ?_
  rintro e _ ⟨rfl, rfl⟩
  go_wp2_with fail
  refine (pnumber_any (v : Int) (by omega) 0 b HX.out w1).mono ?_
  rintro e w2 ⟨AN2, cN2, rfl, hs, hb⟩
  replace B1 := Lib.hid (B1.out.next hb)
  replace N1 := Lib.hid (N1.out.next hb)
  replace HBL := Lib.hid (HBL.out.trans (hb.mono HBL.out.size))
  have N2 := Lib.hid hs
  clear hb hs
  go_wp2_with fail
  refine (listed_any w2).mono ?_
  rintro e w3 ⟨rfl, hb⟩
  replace B1 := Lib.hid (B1.out.next hb)
  replace N1 := Lib.hid (N1.out.next hb)
  replace N2 := Lib.hid (N2.out.next hb)
  replace HBL := Lib.hid (HBL.out.trans (hb.mono HBL.out.size))
  clear hb
  go_wp2_with fail
  refine (same_true b n b.length HN.out rfl A AN2 c cN2 w3 B1.out N2.out).mono ?_
  rintro e w4 ⟨rfl, hb⟩
  replace B1 := Lib.hid (B1.out.next hb)
  replace N1 := Lib.hid (N1.out.next hb)
  replace N2 := Lib.hid (N2.out.next hb)
  replace HBL := Lib.hid (HBL.out.trans (hb.mono HBL.out.size))
  clear hb
  go_wp2
  go_ret
  exact ⟨rfl, HBL.out⟩
set_option maxRecDepth 100000 in
set_option maxHeartbeats 1600000 in
theorem tells17_ok_no (m : Int) (hm : m < 9223372036854775808) (b : List Nat) (n : Nat) (hn : n = b.length) (A : Option Addr) (c : Nat) (w : World) (hl : n ≤ 1000) (v : Nat) (hv : valT b = (v, 14)) (h0 : 0 < m) (h7 : sizeN m.toNat ≤ 7) (hA : Bs w w.heap.size b A c) : Calls Try.prog 7 #[.int .i64 m, .slice A n c] w fun e w' => e = .returned (.bool true) ∧ Below w.heap.size w w' := by
  have h1 := hA.len
  have h2 := hA.cap
  have hn3 : n ≤ 9223372036854775807 := by omega
  have HN := Lib.hid hn
  have B1 := Lib.hid hA
  have HBL := Lib.hid (Below.refl w.heap.size w)
  clear h1 h2 hn hA
  have p0 : ¬ ((1000 : Int) < (n : Int)) := by omega
  have HV := Lib.hid hv
  clear hv
  obtain ⟨N, hN⟩ : ∃ N : Nat, m = (N : Int) := ⟨m.toNat, by omega⟩
  have hNt : m.toNat = N := by omega
  rw [hNt] at h7
  have hN63 : N < 9223372036854775808 := by omega
  have hN0 : N ≠ 0 := by omega
  have HMN := Lib.hid hN.symm
  have HO := Lib.hid (show outN m = (0, numB N) by rw [hN, outN_nat])
  have HW := Lib.hid (valT_num hN63 hN0 h7)
  have hs8 := (sizeN_spec hN63).1
  have hl8 := numB_len N
  generalize numB N = p at *
  obtain ⟨u, hu⟩ : ∃ u, u = sizeN N := ⟨_, rfl⟩
  rw [← hu] at hl8 h7 hs8
  have HL := Lib.hid hl8
  have h7' : (u : Int) ≤ 7 := by omega
  clear hN hNt hu hl8
  go_enter Try.func7, Try.ntmps7
  go_wp2_with fail
  refine (pnumber_any m hm 0 p HO.out w).mono ?_
  rintro e w1 ⟨AN1, cN1, rfl, hs, hb⟩
  replace B1 := Lib.hid (B1.out.next hb)
  replace HBL := Lib.hid (HBL.out.trans (hb.mono HBL.out.size))
  have N1 := Lib.hid hs
  clear hb hs
  rw [HL.out]
  go_wp2_with fail
  refine (pvalue_any p u HL.out.symm N 0 HW.out AN1 cN1 w1 N1.out).mono ?_
  rintro e _ ⟨rfl, rfl⟩
  rw [HMN.out]
  go_wp2_with fail
  refine (pvalue_any b n HN.out v 14 HV.out A c w1 B1.out).mono ?_
  rintro e _ ⟨rfl, rfl⟩
  go_wp2_with fail
  refine (listed_any w1).mono ?_
  rintro e w2 ⟨rfl, hb⟩
  replace B1 := Lib.hid (B1.out.next hb)
  replace N1 := Lib.hid (N1.out.next hb)
  replace HBL := Lib.hid (HBL.out.trans (hb.mono HBL.out.size))
  clear hb
  go_wp2
  go_ret
  exact ⟨rfl, HBL.out⟩
set_option maxRecDepth 100000 in
set_option maxHeartbeats 1600000 in
theorem tells17_ok_num (m : Int) (hm : m < 9223372036854775808) (b : List Nat) (n : Nat) (hn : n = b.length) (A : Option Addr) (c : Nat) (w : World) (hl : n ≤ 1000) (v : Nat) (hv : valT b = (v, 0)) (h0 : 0 < m) (h7 : sizeN m.toNat ≤ 7) (hA : Bs w w.heap.size b A c) : Calls Try.prog 7 #[.int .i64 m, .slice A n c] w fun e w' => e = .returned (.bool true) ∧ Below w.heap.size w w' := by
  have h1 := hA.len
  have h2 := hA.cap
  have hn3 : n ≤ 9223372036854775807 := by omega
  have HN := Lib.hid hn
  have B1 := Lib.hid hA
  have HBL := Lib.hid (Below.refl w.heap.size w)
  clear h1 h2 hn hA
  have p0 : ¬ ((1000 : Int) < (n : Int)) := by omega
  have HV := Lib.hid hv
  obtain ⟨v1, v2, v3⟩ := num_valT B1.out.lt hv
  have HX := Lib.hid (show outN (v : Int) = (0, b) by rw [outN_nat, v3])
  have v4 : (0 : Int) < (v : Int) := by omega
  have v5 : 0 < v := v1
  clear v3
  clear hv
  obtain ⟨N, hN⟩ : ∃ N : Nat, m = (N : Int) := ⟨m.toNat, by omega⟩
  have hNt : m.toNat = N := by omega
  rw [hNt] at h7
  have hN63 : N < 9223372036854775808 := by omega
  have hN0 : N ≠ 0 := by omega
  have HMN := Lib.hid hN.symm
  have HO := Lib.hid (show outN m = (0, numB N) by rw [hN, outN_nat])
  have HW := Lib.hid (valT_num hN63 hN0 h7)
  have hs8 := (sizeN_spec hN63).1
  have hl8 := numB_len N
  generalize numB N = p at *
  obtain ⟨u, hu⟩ : ∃ u, u = sizeN N := ⟨_, rfl⟩
  rw [← hu] at hl8 h7 hs8
  have HL := Lib.hid hl8
  have h7' : (u : Int) ≤ 7 := by omega
  clear hN hNt hu hl8
  go_enter Try.func7, Try.ntmps7
  go_wp2_with fail
  refine (pnumber_any m hm 0 p HO.out w).mono ?_
  rintro e w1 ⟨AN1, cN1, rfl, hs, hb⟩
  replace B1 := Lib.hid (B1.out.next hb)
  replace HBL := Lib.hid (HBL.out.trans (hb.mono HBL.out.size))
  have N1 := Lib.hid hs
  clear hb hs
  rw [HL.out]
  go_wp2_with fail
  refine (pvalue_any p u HL.out.symm N 0 HW.out AN1 cN1 w1 N1.out).mono ?_
  rintro e _ ⟨rfl, rfl⟩
  rw [HMN.out]
  go_wp2_with fail
  refine (pvalue_any b n HN.out v 0 HV.out A c w1 B1.out).mono ?_
  rintro e _ ⟨rfl, rfl⟩
  go_wp2_with fail
  refine (pnumber_any (v : Int) (by omega) 0 b HX.out w1).mono ?_
  rintro e w2 ⟨AN2, cN2, rfl, hs, hb⟩
  replace B1 := Lib.hid (B1.out.next hb)
  replace N1 := Lib.hid (N1.out.next hb)
  replace HBL := Lib.hid (HBL.out.trans (hb.mono HBL.out.size))
  have N2 := Lib.hid hs
  clear hb hs
  go_wp2_with fail
  refine (listed_any w2).mono ?_
  rintro e w3 ⟨rfl, hb⟩
  replace B1 := Lib.hid (B1.out.next hb)
  replace N1 := Lib.hid (N1.out.next hb)
  replace N2 := Lib.hid (N2.out.next hb)
  replace HBL := Lib.hid (HBL.out.trans (hb.mono HBL.out.size))
  clear hb
  go_wp2_with fail
  refine (same_true b n b.length HN.out rfl A AN2 c cN2 w3 B1.out N2.out).mono ?_
  rintro e w4 ⟨rfl, hb⟩
  replace B1 := Lib.hid (B1.out.next hb)
  replace N1 := Lib.hid (N1.out.next hb)
  replace N2 := Lib.hid (N2.out.next hb)
  replace HBL := Lib.hid (HBL.out.trans (hb.mono HBL.out.size))
  clear hb
  go_wp2
  go_ret
  exact ⟨rfl, HBL.out⟩
set_option maxRecDepth 100000 in
set_option maxHeartbeats 1600000 in
theorem tells17_any (m : Int) (hm : m < 9223372036854775808) (b : List Nat) (n : Nat) (hn : n = b.length) (A : Option Addr) (c : Nat) (w : World) (hA : Bs w w.heap.size b A c) : Calls Try.prog 7 #[.int .i64 m, .slice A n c] w fun e w' => e = .returned (.bool true) ∧ Below w.heap.size w w' := by
  by_cases hl : n ≤ 1000
  · rcases valT_cases b with ⟨v, hv⟩ | ⟨v, hv⟩
    · rcases Int.lt_trichotomy m 0 with h0 | rfl | h0
      · exact tells17_neg_no m hm b n hn A c w hl v hv h0 hA
      · exact tells17_zero_no b n hn A c w hl v hv hA
      · rcases Nat.lt_or_ge 7 (sizeN m.toNat) with h7 | h7
        · exact tells17_long_no m hm b n hn A c w hl v hv h0 h7 hA
        · exact tells17_ok_no m hm b n hn A c w hl v hv h0 h7 hA
    · rcases Int.lt_trichotomy m 0 with h0 | rfl | h0
      · exact tells17_neg_num m hm b n hn A c w hl v hv h0 hA
      · exact tells17_zero_num b n hn A c w hl v hv hA
      · rcases Nat.lt_or_ge 7 (sizeN m.toNat) with h7 | h7
        · exact tells17_long_num m hm b n hn A c w hl v hv h0 h7 hA
        · exact tells17_ok_num m hm b n hn A c w hl v hv h0 h7 hA
  · have h1 := hA.len
    have h2 := hA.cap
    have p0 : (1000 : Int) < (n : Int) := by omega
    have hn3 : n ≤ 9223372036854775807 := by omega
    clear hn hA h1 h2
    go_enter Try.func7, Try.ntmps7
    go_wp2
    go_ret
    exact ⟨rfl, Below.refl _ _⟩
end Go.Proofs.Ytkjghmonpdbjeaa
