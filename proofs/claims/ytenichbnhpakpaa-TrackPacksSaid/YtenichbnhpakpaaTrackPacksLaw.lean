/-
  Law TrackPacks walked, out of the contracts: it answers true. Conditions: the slices read as bits and bytes.
-/
import Derived.Test.YtenichbnhpakpaaTrackC
import Derived.Test.YtenichbnhpakpaaTrackRefPack
import Derived.Test.YtenichbnhpakpaaTrackRefUnpack
namespace Go.Proofs.Ytenichbnhpakpaa
set_option linter.unusedVariables false
open Go.ChangeShapes Go.WideShapes Go.ChangeAt Go.RowKit

set_option maxRecDepth 100000 in
set_option maxHeartbeats 1600000 in
theorem packs11_any (C : TC) (l : List Bool) (n : Nat) (hn : n = l.length) (b : List Nat) (m : Nat) (hm : m = b.length) (A A2 : Option Addr) (c c2 : Nat) (w : World) (hA : Vs w w.heap.size l A c) (hB : Bs w w.heap.size b A2 c2) : Calls Try.prog 3 #[.slice A n c, .slice A2 m c2] w fun e w' => e = .returned (.bool true) ∧ Below w.heap.size w w' := by
  have h1 := hA.len
  have h2 := hA.cap
  have h3 := hB.len
  have h4 := hB.cap
  have hn3 : n ≤ 9223372036854775807 := by omega
  have hm3 : m ≤ 9223372036854775807 := by omega
  have HN := Lib.hid hn
  have HM := Lib.hid hm
  have V1 := Lib.hid hA
  have B1 := Lib.hid hB
  have HBL := Lib.hid (Below.refl w.heap.size w)
  clear h1 h2 h3 h4 hn hm hA hB
  by_cases q0 : 5000 < n
  · have p0 : (5000 : Int) < (n : Int) := by omega
    go_enter Try.func3, Try.ntmps3
    go_wp2
    go_ret
    exact ⟨rfl, Below.refl _ _⟩
  have p0 : ¬ ((5000 : Int) < (n : Int)) := by omega
  by_cases q1 : 1000 < m
  · have p1 : (1000 : Int) < (m : Int) := by omega
    go_enter Try.func3, Try.ntmps3
    go_wp2
    go_ret
    exact ⟨rfl, Below.refl _ _⟩
  have p1 : ¬ ((1000 : Int) < (m : Int)) := by omega
  have HP := Lib.hid (show (n + 7) / 8 = (packL l).length by rw [packL_len, HN.out])
  have HU := Lib.hid (show 8 * m = (unpackL b).length by rw [unpackL_len, HM.out])
  have HPU := Lib.hid (pack_unpack b B1.out.lt)
  have HPM := Lib.hid (show (8 * m + 7) / 8 = b.length by rw [← HM.out]; omega)
  go_enter Try.func3, Try.ntmps3
  go_wp2_with fail
  refine (tracked_any C w).mono ?_
  rintro e w1 ⟨rfl, hb⟩
  replace V1 := Lib.hid (V1.out.next hb)
  replace B1 := Lib.hid (B1.out.next hb)
  replace HBL := Lib.hid (HBL.out.trans (hb.mono HBL.out.size))
  clear hb
  go_wp2_with fail
  refine (C.pack l n A c w1 HN.out (by omega) V1.out).mono ?_
  rintro e w2 ⟨AP1, cP1, rfl, hs, hb⟩
  replace V1 := Lib.hid (V1.out.next hb)
  replace B1 := Lib.hid (B1.out.next hb)
  replace HBL := Lib.hid (HBL.out.trans (hb.mono HBL.out.size))
  have P1 := Lib.hid hs
  clear hb hs
  go_wp2_with fail
  refine (refpack_any l n HN.out (by omega) A c w2 V1.out).mono ?_
  rintro e w3 ⟨AP2, cP2, rfl, hs, hb⟩
  replace V1 := Lib.hid (V1.out.next hb)
  replace B1 := Lib.hid (B1.out.next hb)
  replace P1 := Lib.hid (P1.out.next hb)
  replace HBL := Lib.hid (HBL.out.trans (hb.mono HBL.out.size))
  have P2 := Lib.hid hs
  clear hb hs
  go_wp2_with fail
  refine (same_true (packL l) ((n + 7) / 8) ((n + 7) / 8) HP.out HP.out AP1 AP2 cP1 cP2 w3 P1.out P2.out).mono ?_
  rintro e w4 ⟨rfl, hb⟩
  replace V1 := Lib.hid (V1.out.next hb)
  replace B1 := Lib.hid (B1.out.next hb)
  replace P1 := Lib.hid (P1.out.next hb)
  replace P2 := Lib.hid (P2.out.next hb)
  replace HBL := Lib.hid (HBL.out.trans (hb.mono HBL.out.size))
  clear hb
  go_wp2_with fail
  refine (C.unpack b m A2 c2 w4 HM.out (by omega) B1.out).mono ?_
  rintro e w5 ⟨AU1, cU1, rfl, hs, hb⟩
  replace V1 := Lib.hid (V1.out.next hb)
  replace B1 := Lib.hid (B1.out.next hb)
  replace P1 := Lib.hid (P1.out.next hb)
  replace P2 := Lib.hid (P2.out.next hb)
  replace HBL := Lib.hid (HBL.out.trans (hb.mono HBL.out.size))
  have U1 := Lib.hid hs
  clear hb hs
  go_wp2_with fail
  refine (refunpack_any b m HM.out (by omega) A2 c2 w5 B1.out).mono ?_
  rintro e w6 ⟨AU2, cU2, rfl, hs, hb⟩
  replace V1 := Lib.hid (V1.out.next hb)
  replace B1 := Lib.hid (B1.out.next hb)
  replace P1 := Lib.hid (P1.out.next hb)
  replace P2 := Lib.hid (P2.out.next hb)
  replace U1 := Lib.hid (U1.out.next hb)
  replace HBL := Lib.hid (HBL.out.trans (hb.mono HBL.out.size))
  have U2 := Lib.hid hs
  clear hb hs
  go_wp2_with fail
  refine (samebits_true (unpackL b) (8 * m) (8 * m) HU.out HU.out AU1 AU2 cU1 cU2 w6 U1.out U2.out).mono ?_
  rintro e w7 ⟨rfl, hb⟩
  replace V1 := Lib.hid (V1.out.next hb)
  replace B1 := Lib.hid (B1.out.next hb)
  replace P1 := Lib.hid (P1.out.next hb)
  replace P2 := Lib.hid (P2.out.next hb)
  replace U1 := Lib.hid (U1.out.next hb)
  replace U2 := Lib.hid (U2.out.next hb)
  replace HBL := Lib.hid (HBL.out.trans (hb.mono HBL.out.size))
  clear hb
  go_wp2_with fail
  refine (C.unpack b m A2 c2 w7 HM.out (by omega) B1.out).mono ?_
  rintro e w8 ⟨AU3, cU3, rfl, hs, hb⟩
  replace V1 := Lib.hid (V1.out.next hb)
  replace B1 := Lib.hid (B1.out.next hb)
  replace P1 := Lib.hid (P1.out.next hb)
  replace P2 := Lib.hid (P2.out.next hb)
  replace U1 := Lib.hid (U1.out.next hb)
  replace U2 := Lib.hid (U2.out.next hb)
  replace HBL := Lib.hid (HBL.out.trans (hb.mono HBL.out.size))
  have U3 := Lib.hid hs
  clear hb hs
  go_wp2_with fail
  refine (C.pack (unpackL b) (8 * m) AU3 cU3 w8 HU.out (by omega) U3.out).mono ?_
  rintro e w9 ⟨AP3, cP3, rfl, hs, hb⟩
  replace V1 := Lib.hid (V1.out.next hb)
  replace B1 := Lib.hid (B1.out.next hb)
  replace P1 := Lib.hid (P1.out.next hb)
  replace P2 := Lib.hid (P2.out.next hb)
  replace U1 := Lib.hid (U1.out.next hb)
  replace U2 := Lib.hid (U2.out.next hb)
  replace U3 := Lib.hid (U3.out.next hb)
  replace HBL := Lib.hid (HBL.out.trans (hb.mono HBL.out.size))
  have P3 := Lib.hid hs
  clear hb hs
  rw [HPU.out] at P3
  go_wp2_with fail
  refine (same_true b ((8 * m + 7) / 8) m HPM.out HM.out AP3 A2 cP3 c2 w9 P3.out B1.out).mono ?_
  rintro e w10 ⟨rfl, hb⟩
  replace V1 := Lib.hid (V1.out.next hb)
  replace B1 := Lib.hid (B1.out.next hb)
  replace P1 := Lib.hid (P1.out.next hb)
  replace P2 := Lib.hid (P2.out.next hb)
  replace U1 := Lib.hid (U1.out.next hb)
  replace U2 := Lib.hid (U2.out.next hb)
  replace U3 := Lib.hid (U3.out.next hb)
  replace P3 := Lib.hid (P3.out.next hb)
  replace HBL := Lib.hid (HBL.out.trans (hb.mono HBL.out.size))
  clear hb
  go_wp2
  go_ret
  exact ⟨rfl, HBL.out⟩
end Go.Proofs.Ytenichbnhpakpaa
