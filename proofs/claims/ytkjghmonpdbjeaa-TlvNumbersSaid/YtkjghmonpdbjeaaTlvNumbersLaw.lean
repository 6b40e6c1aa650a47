/-
  Law TlvNumbers walked: it answers true. Conditions: the slice reads as bytes.
-/
import Derived.Test.YtkjghmonpdbjeaaTlvListed
namespace Go.Proofs.Ytkjghmonpdbjeaa
set_option linter.unusedVariables false
open Go.ChangeShapes Go.WideShapes Go.ChangeAt Go.RowKit

set_option maxRecDepth 100000 in
set_option maxHeartbeats 1600000 in
theorem numbers17_any (m : Int) (hm : m < 9223372036854775808) (b : List Nat) (n : Nat) (hn : n = b.length) (A : Option Addr) (c : Nat) (w : World) (hA : Bs w w.heap.size b A c) : Calls Try.prog 5 #[.int .i64 m, .slice A n c] w fun e w' => e = .returned (.bool true) ∧ Below w.heap.size w w' := by
  have h1 := hA.len
  have h2 := hA.cap
  have hn3 : n ≤ 9223372036854775807 := by omega
  have HN := Lib.hid hn
  have B1 := Lib.hid hA
  have HBL := Lib.hid (Below.refl w.heap.size w)
  clear h1 h2 hn hA
  by_cases q0 : 1000 < n
  · have p0 : (1000 : Int) < (n : Int) := by omega
    go_enter Try.func5, Try.ntmps5
    go_wp2
    go_ret
    exact ⟨rfl, Below.refl _ _⟩
  have p0 : ¬ ((1000 : Int) < (n : Int)) := by omega
  obtain ⟨E, p, hO⟩ : ∃ e d, outN m = (e, d) := ⟨_, _, rfl⟩
  have HO := Lib.hid hO
  clear hO
  obtain ⟨v, F, hV⟩ : ∃ e d, valT b = (e, d) := ⟨_, _, rfl⟩
  have HV := Lib.hid hV
  clear hV
  go_enter Try.func5, Try.ntmps5
  go_wp2_with fail
  refine (pnumber_any m hm E p HO.out w).mono ?_
  rintro e w1 ⟨AN1, cN1, rfl, hs, hb⟩
  replace B1 := Lib.hid (B1.out.next hb)
  replace HBL := Lib.hid (HBL.out.trans (hb.mono HBL.out.size))
  have N1 := Lib.hid hs
  clear hb hs
  go_wp2_with fail
  refine (refnumber_any m hm E p HO.out w1).mono ?_
  rintro e w2 ⟨AN2, cN2, rfl, hs, hb⟩
  replace B1 := Lib.hid (B1.out.next hb)
  replace N1 := Lib.hid (N1.out.next hb)
  replace HBL := Lib.hid (HBL.out.trans (hb.mono HBL.out.size))
  have N2 := Lib.hid hs
  clear hb hs
  go_wp2_with fail
  refine (pvalue_any b n HN.out v F HV.out A c w2 B1.out).mono ?_
  rintro e _ ⟨rfl, rfl⟩
  go_wp2_with fail
  refine (refvalue_any b n HN.out v F HV.out A c w2 B1.out).mono ?_
  rintro e _ ⟨rfl, rfl⟩
  go_wp2_with fail
  refine (listed_any w2).mono ?_
  rintro e w3 ⟨rfl, hb⟩
  replace B1 := Lib.hid (B1.out.next hb)
  replace N1 := Lib.hid (N1.out.next hb)
  replace N2 := Lib.hid (N2.out.next hb)
  replace HBL := Lib.hid (HBL.out.trans (hb.mono HBL.out.size))
  clear hb
  go_wp2_with fail
  refine (same_true p p.length p.length rfl rfl AN1 AN2 cN1 cN2 w3 N1.out N2.out).mono ?_
  rintro e w4 ⟨rfl, hb⟩
  replace B1 := Lib.hid (B1.out.next hb)
  replace N1 := Lib.hid (N1.out.next hb)
  replace N2 := Lib.hid (N2.out.next hb)
  replace HBL := Lib.hid (HBL.out.trans (hb.mono HBL.out.size))
  clear hb
  go_wp2
  go_ret
  exact ⟨rfl, HBL.out⟩
end Go.Proofs.Ytkjghmonpdbjeaa
