/-
  Law SwipeTurns walked: it answers true. Conditions: the slice reads as bytes.
-/
import Derived.Test.YtjlcaobffhihhaaSwiped
import Derived.Test.YtjlcaobffhihhaaSwipeRefTurn
namespace Go.Proofs.Ytjlcaobffhihhaa
set_option linter.unusedVariables false
open Go.ChangeShapes Go.WideShapes Go.ChangeAt Go.RowKit

set_option maxRecDepth 100000 in
set_option maxHeartbeats 1600000 in
theorem turns14_any (b : List Nat) (n : Nat) (hn : n = b.length) (A : Option Addr) (c : Nat) (w : World) (hA : Bs w w.heap.size b A c) : Calls Try.prog 3 #[.slice A n c] w fun e w' => e = .returned (.bool true) ∧ Below w.heap.size w w' := by
  have h1 := hA.len
  have h2 := hA.cap
  have hn3 : n ≤ 9223372036854775807 := by omega
  have HN := Lib.hid hn
  have B1 := Lib.hid hA
  have HBL := Lib.hid (Below.refl w.heap.size w)
  clear h1 h2 hn hA
  by_cases q0 : 1000 < n
  · have p0 : (1000 : Int) < (n : Int) := by omega
    go_enter Try.func3, Try.ntmps3
    go_wp2
    go_ret
    exact ⟨rfl, Below.refl _ _⟩
  have p0 : ¬ ((1000 : Int) < (n : Int)) := by omega
  have HTN := Lib.hid (show n = (turnL b).length by rw [turn_len]; exact HN.out)
  have HTT := Lib.hid (turn_turn b B1.out.lt)
  go_enter Try.func3, Try.ntmps3
  go_wp2_with fail
  refine (pturn_any b n HN.out (by omega) A c w B1.out).mono ?_
  rintro e w1 ⟨AT1, cT1, rfl, hs, hb⟩
  replace B1 := Lib.hid (B1.out.next hb)
  replace HBL := Lib.hid (HBL.out.trans (hb.mono HBL.out.size))
  have T1 := Lib.hid hs
  clear hb hs
  go_wp2_with fail
  refine (swiped_any w1).mono ?_
  rintro e w2 ⟨rfl, hb⟩
  replace B1 := Lib.hid (B1.out.next hb)
  replace T1 := Lib.hid (T1.out.next hb)
  replace HBL := Lib.hid (HBL.out.trans (hb.mono HBL.out.size))
  clear hb
  go_wp2_with fail
  refine (refturn_any b n HN.out (by omega) A c w2 B1.out).mono ?_
  rintro e w3 ⟨AT2, cT2, rfl, hs, hb⟩
  replace B1 := Lib.hid (B1.out.next hb)
  replace T1 := Lib.hid (T1.out.next hb)
  replace HBL := Lib.hid (HBL.out.trans (hb.mono HBL.out.size))
  have T2 := Lib.hid hs
  clear hb hs
  go_wp2_with fail
  refine (same_true (turnL b) n n HTN.out HTN.out AT1 AT2 cT1 cT2 w3 T1.out T2.out).mono ?_
  rintro e w4 ⟨rfl, hb⟩
  replace B1 := Lib.hid (B1.out.next hb)
  replace T1 := Lib.hid (T1.out.next hb)
  replace T2 := Lib.hid (T2.out.next hb)
  replace HBL := Lib.hid (HBL.out.trans (hb.mono HBL.out.size))
  clear hb
  go_wp2_with fail
  refine (pturn_any (turnL b) n HTN.out (by omega) AT1 cT1 w4 T1.out).mono ?_
  rintro e w5 ⟨AT3, cT3, rfl, hs, hb⟩
  replace B1 := Lib.hid (B1.out.next hb)
  replace T1 := Lib.hid (T1.out.next hb)
  replace T2 := Lib.hid (T2.out.next hb)
  replace HBL := Lib.hid (HBL.out.trans (hb.mono HBL.out.size))
  have T3 := Lib.hid hs
  clear hb hs
  rw [HTT.out] at T3
  go_wp2_with fail
  refine (same_true b n n HN.out HN.out AT3 A cT3 c w5 T3.out B1.out).mono ?_
  rintro e w6 ⟨rfl, hb⟩
  replace B1 := Lib.hid (B1.out.next hb)
  replace T1 := Lib.hid (T1.out.next hb)
  replace T2 := Lib.hid (T2.out.next hb)
  replace T3 := Lib.hid (T3.out.next hb)
  replace HBL := Lib.hid (HBL.out.trans (hb.mono HBL.out.size))
  clear hb
  go_wp2
  go_ret
  exact ⟨rfl, HBL.out⟩
end Go.Proofs.Ytjlcaobffhihhaa
