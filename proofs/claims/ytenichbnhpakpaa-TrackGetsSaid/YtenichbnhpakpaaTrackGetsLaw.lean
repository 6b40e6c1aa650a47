/-
  Law TrackGets walked, out of the contracts: it answers true. Conditions: the slice reads as bytes.
-/
import Derived.Test.YtenichbnhpakpaaTrackC
import Derived.Test.YtenichbnhpakpaaTrackRefGet
namespace Go.Proofs.Ytenichbnhpakpaa
set_option linter.unusedVariables false
open Go.ChangeShapes Go.WideShapes Go.ChangeAt Go.RowKit

set_option maxRecDepth 100000 in
set_option maxHeartbeats 1600000 in
theorem gets11_any (C : TC) (d : List Nat) (n : Nat) (hn : n = d.length) (A : Option Addr) (c : Nat) (w : World) (hA : Bs w w.heap.size d A c) : Calls Try.prog 5 #[.slice A n c] w fun e w' => e = .returned (.bool true) ∧ Below w.heap.size w w' := by
  have h1 := hA.len
  have h2 := hA.cap
  have hn3 : n ≤ 9223372036854775807 := by omega
  have HN := Lib.hid hn
  have B1 := Lib.hid hA
  have HBL := Lib.hid (Below.refl w.heap.size w)
  clear h1 h2 hn hA
  by_cases q0 : 1000 < n
  · have p0 : (1000 : Int) < (n : Int) := by omega
    go_enter Try.func5, Try.ntmps5
    go_wp2
    go_ret
    exact ⟨rfl, Below.refl _ _⟩
  have p0 : ¬ ((1000 : Int) < (n : Int)) := by omega
  obtain ⟨E, hE⟩ : ∃ E, getE d = E := ⟨_, rfl⟩
  obtain ⟨p, hP⟩ : ∃ p, getL d = p := ⟨_, rfl⟩
  have HE := Lib.hid hE
  have HP := Lib.hid hP
  clear hE hP
  go_enter Try.func5, Try.ntmps5
  go_wp2_with fail
  refine (C.get d n E p A c w HN.out (by omega) HE.out HP.out B1.out).mono ?_
  rintro e w1 ⟨AP1, cP1, rfl, hs, hb⟩
  replace B1 := Lib.hid (B1.out.next hb)
  replace HBL := Lib.hid (HBL.out.trans (hb.mono HBL.out.size))
  have P1 := Lib.hid hs
  clear hb hs
  go_wp2_with fail
  refine (refget11_any d n HN.out (by omega) E HE.out p HP.out A c w1 B1.out).mono ?_
  rintro e w2 ⟨AP2, cP2, rfl, hs, hb⟩
  replace B1 := Lib.hid (B1.out.next hb)
  replace P1 := Lib.hid (P1.out.next hb)
  replace HBL := Lib.hid (HBL.out.trans (hb.mono HBL.out.size))
  have P2 := Lib.hid hs
  clear hb hs
  go_wp2_with fail
  refine (tracked_any C w2).mono ?_
  rintro e w3 ⟨rfl, hb⟩
  replace B1 := Lib.hid (B1.out.next hb)
  replace P1 := Lib.hid (P1.out.next hb)
  replace P2 := Lib.hid (P2.out.next hb)
  replace HBL := Lib.hid (HBL.out.trans (hb.mono HBL.out.size))
  clear hb
  go_wp2_with fail
  refine (same_true p p.length p.length rfl rfl AP1 AP2 cP1 cP2 w3 P1.out P2.out).mono ?_
  rintro e w4 ⟨rfl, hb⟩
  replace B1 := Lib.hid (B1.out.next hb)
  replace P1 := Lib.hid (P1.out.next hb)
  replace P2 := Lib.hid (P2.out.next hb)
  replace HBL := Lib.hid (HBL.out.trans (hb.mono HBL.out.size))
  clear hb
  go_wp2
  go_ret
  exact ⟨rfl, HBL.out⟩
end Go.Proofs.Ytenichbnhpakpaa
