/-
  Law TlvGets walked: it answers true. Conditions: the slice reads as bytes.
-/
import Derived.Test.YtkjghmonpdbjeaaTlvListed
namespace Go.Proofs.Ytkjghmonpdbjeaa
set_option linter.unusedVariables false
open Go.ChangeShapes Go.WideShapes Go.ChangeAt Go.RowKit

set_option maxRecDepth 100000 in
set_option maxHeartbeats 1600000 in
theorem gets17_any (b : List Nat) (n : Nat) (hn : n = b.length) (A : Option Addr) (c : Nat) (w : World) (hA : Bs w w.heap.size b A c) : Calls Try.prog 4 #[.slice A n c] w fun e w' => e = .returned (.bool true) ∧ Below w.heap.size w w' := by
  have h1 := hA.len
  have h2 := hA.cap
  have hn3 : n ≤ 9223372036854775807 := by omega
  have HN := Lib.hid hn
  have B1 := Lib.hid hA
  have HBL := Lib.hid (Below.refl w.heap.size w)
  clear h1 h2 hn hA
  by_cases q0 : 3000 < n
  · have p0 : (3000 : Int) < (n : Int) := by omega
    go_enter Try.func4, Try.ntmps4
    go_wp2
    go_ret
    exact ⟨rfl, Below.refl _ _⟩
  have p0 : ¬ ((3000 : Int) < (n : Int)) := by omega
  obtain ⟨E, p, hG⟩ : ∃ e d, gotT b = (e, d) := ⟨_, _, rfl⟩
  have HG := Lib.hid hG
  clear hG
  go_enter Try.func4, Try.ntmps4
  go_wp2_with fail
  refine (pget_tlv b n HN.out (by omega) E p HG.out A c w B1.out).mono ?_
  rintro e w1 ⟨AG1, cG1, rfl, hs, hb⟩
  replace B1 := Lib.hid (B1.out.next hb)
  replace HBL := Lib.hid (HBL.out.trans (hb.mono HBL.out.size))
  have G1 := Lib.hid hs
  clear hb hs
  go_wp2_with fail
  refine (refget_tlv b n HN.out (by omega) E p HG.out A c w1 B1.out).mono ?_
  rintro e w2 ⟨AG2, cG2, rfl, hs, hb⟩
  replace B1 := Lib.hid (B1.out.next hb)
  replace G1 := Lib.hid (G1.out.next hb)
  replace HBL := Lib.hid (HBL.out.trans (hb.mono HBL.out.size))
  have G2 := Lib.hid hs
  clear hb hs
  go_wp2_with fail
  refine (listed_any w2).mono ?_
  rintro e w3 ⟨rfl, hb⟩
  replace B1 := Lib.hid (B1.out.next hb)
  replace G1 := Lib.hid (G1.out.next hb)
  replace G2 := Lib.hid (G2.out.next hb)
  replace HBL := Lib.hid (HBL.out.trans (hb.mono HBL.out.size))
  clear hb
  go_wp2_with fail
  refine (refsame_tlv p p.length p.length rfl rfl AG1 AG2 cG1 cG2 w3 G1.out G2.out).mono ?_
  rintro e w4 ⟨rfl, hb⟩
  replace B1 := Lib.hid (B1.out.next hb)
  replace G1 := Lib.hid (G1.out.next hb)
  replace G2 := Lib.hid (G2.out.next hb)
  replace HBL := Lib.hid (HBL.out.trans (hb.mono HBL.out.size))
  clear hb
  go_wp2
  go_ret
  exact ⟨rfl, HBL.out⟩
end Go.Proofs.Ytkjghmonpdbjeaa
