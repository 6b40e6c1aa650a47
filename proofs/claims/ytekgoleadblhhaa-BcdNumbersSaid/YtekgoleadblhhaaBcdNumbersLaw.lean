/-
  Law BcdNumbers walked: it answers true. Conditions: the slice reads as bytes.
-/
import Derived.Test.YtekgoleadblhhaaCoded
import Derived.Test.YtekgoleadblhhaaBcdRefPut
import Derived.Test.YtekgoleadblhhaaBcdRefGet
namespace Go.Proofs.Ytekgoleadblhhaa
set_option linter.unusedVariables false
open Go.ChangeShapes Go.WideShapes Go.ChangeAt Go.RowKit

set_option maxRecDepth 100000 in
set_option maxHeartbeats 1600000 in
theorem numbers12_any (n t : Int) (hn : n ≤ 9223372036854775807) (l : List Nat) (m : Nat) (hm : m = l.length) (A : Option Addr) (c : Nat) (w : World) (hA : Bs w w.heap.size l A c) : Calls Try.prog 3 #[.int .i64 n, .int .i64 t, .slice A m c] w fun e w' => e = .returned (.bool true) ∧ Below w.heap.size w w' := by
  have h0a := hA.len
  have h0b := hA.cap
  have h063 : m ≤ 9223372036854775807 := by omega
  clear h0a h0b
  have HM := Lib.hid hm
  have LA := Lib.hid hA
  clear hm hA
  have HBL := Lib.hid (Below.refl w.heap.size w)
  by_cases q0 : 1000 < m
  · have p0 : (1000 : Int) < (m : Int) := by omega
    go_enter Try.func3, Try.ntmps3
    go_wp2
    go_ret
    exact ⟨rfl, HBL.out⟩
  have p0 : ¬ ((1000 : Int) < (m : Int)) := by omega
  obtain ⟨E, hE⟩ : ∃ E, putE n t = E := ⟨_, rfl⟩
  obtain ⟨p, hP⟩ : ∃ p, putL n t = p := ⟨_, rfl⟩
  obtain ⟨G, N, hG⟩ : ∃ G N, getX l = (G, N) := ⟨_, _, rfl⟩
  have HE := Lib.hid hE
  have HP := Lib.hid hP
  have HG := Lib.hid hG
  clear hE hP hG
  go_enter Try.func3, Try.ntmps3
  go_wp2_with fail
  refine (pput_any n t E p HE.out HP.out w hn).mono ?_
  rintro e w1 ⟨AP1, cP1, rfl, hs, hb⟩
  replace LA := Lib.hid (LA.out.next hb)
  replace HBL := Lib.hid (HBL.out.trans (hb.mono HBL.out.size))
  have P1 := Lib.hid hs
  clear hb hs
  go_wp2_with fail
  refine (rput_any n t E p HE.out HP.out w1 hn).mono ?_
  rintro e w2 ⟨AP2, cP2, rfl, hs, hb⟩
  replace LA := Lib.hid (LA.out.next hb)
  replace P1 := Lib.hid (P1.out.next hb)
  replace HBL := Lib.hid (HBL.out.trans (hb.mono HBL.out.size))
  have P2 := Lib.hid hs
  clear hb hs
  go_wp2_with fail
  refine (pget_any l m HM.out G N HG.out A c w2 LA.out).mono ?_
  rintro e wn ⟨rfl, rfl⟩
  go_wp2_with fail
  refine (rget_any l m HM.out G N HG.out A c w2 LA.out).mono ?_
  rintro e wn ⟨rfl, rfl⟩
  go_wp2_with fail
  refine (coded_any w2).mono ?_
  rintro e w3 ⟨rfl, hb⟩
  replace LA := Lib.hid (LA.out.next hb)
  replace P1 := Lib.hid (P1.out.next hb)
  replace P2 := Lib.hid (P2.out.next hb)
  replace HBL := Lib.hid (HBL.out.trans (hb.mono HBL.out.size))
  clear hb
  go_wp2_with fail
  refine (same_true p p.length p.length rfl rfl AP1 AP2 cP1 cP2 w3 P1.out P2.out).mono ?_
  rintro e w4 ⟨rfl, hb⟩
  replace LA := Lib.hid (LA.out.next hb)
  replace P1 := Lib.hid (P1.out.next hb)
  replace P2 := Lib.hid (P2.out.next hb)
  replace HBL := Lib.hid (HBL.out.trans (hb.mono HBL.out.size))
  clear hb
  go_wp2
  go_ret
  exact ⟨rfl, HBL.out⟩
end Go.Proofs.Ytekgoleadblhhaa
