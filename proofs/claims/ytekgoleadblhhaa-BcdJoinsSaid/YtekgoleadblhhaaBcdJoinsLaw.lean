/-
  Law BcdJoins walked: it answers true. Conditions: the slices read as ints and bytes.
-/
import Derived.Test.YtekgoleadblhhaaCoded
import Derived.Test.YtekgoleadblhhaaBcdRefJoin
import Derived.Test.YtekgoleadblhhaaBcdRefSplit
namespace Go.Proofs.Ytekgoleadblhhaa
set_option linter.unusedVariables false
open Go.ChangeShapes Go.WideShapes Go.ChangeAt Go.RowKit

set_option maxRecDepth 100000 in
set_option maxHeartbeats 1600000 in
theorem joins12_any (vs ws : List Int) (hv : ∀ v ∈ vs, In64 v) (l : List Nat) (a b m : Nat) (ha : a = vs.length) (hb : b = ws.length) (hm : m = l.length) (A B C : Option Addr) (c c1 c2 : Nat) (w : World) (hA : Zs w w.heap.size vs A c) (hB : Zs w w.heap.size ws B c1) (hC : Bs w w.heap.size l C c2) : Calls Try.prog 4 #[.slice A a c, .slice B b c1, .slice C m c2] w fun e w' => e = .returned (.bool true) ∧ Below w.heap.size w w' := by
  have h0a := hA.len
  have h0b := hA.cap
  have h063 : a ≤ 9223372036854775807 := by omega
  clear h0a h0b
  have HA := Lib.hid ha
  have LA := Lib.hid hA
  clear ha hA
  have h1a := hB.len
  have h1b := hB.cap
  have h163 : b ≤ 9223372036854775807 := by omega
  clear h1a h1b
  have HB := Lib.hid hb
  have LB := Lib.hid hB
  clear hb hB
  have h2a := hC.len
  have h2b := hC.cap
  have h263 : m ≤ 9223372036854775807 := by omega
  clear h2a h2b
  have HC := Lib.hid hm
  have LC := Lib.hid hC
  clear hm hC
  have HV := Lib.hid hv
  clear hv
  have HBL := Lib.hid (Below.refl w.heap.size w)
  by_cases q0 : 100 < a
  · have p0 : (100 : Int) < (a : Int) := by omega
    go_enter Try.func4, Try.ntmps4
    go_wp2
    go_ret
    exact ⟨rfl, HBL.out⟩
  have p0 : ¬ ((100 : Int) < (a : Int)) := by omega
  by_cases q1 : 100 < b
  · have p1 : (100 : Int) < (b : Int) := by omega
    go_enter Try.func4, Try.ntmps4
    go_wp2
    go_ret
    exact ⟨rfl, HBL.out⟩
  have p1 : ¬ ((100 : Int) < (b : Int)) := by omega
  by_cases q2 : 1000 < m
  · have p2 : (1000 : Int) < (m : Int) := by omega
    go_enter Try.func4, Try.ntmps4
    go_wp2
    go_ret
    exact ⟨rfl, HBL.out⟩
  have p2 : ¬ ((1000 : Int) < (m : Int)) := by omega
  obtain ⟨E, p, hE⟩ : ∃ E p, joinX vs ws = (E, p) := ⟨_, _, rfl⟩
  obtain ⟨G, v, hG⟩ : ∃ G v, splitX l ws = (G, v) := ⟨_, _, rfl⟩
  have HE := Lib.hid hE
  have HG := Lib.hid hG
  clear hE hG
  go_enter Try.func4, Try.ntmps4
  go_wp2_with fail
  refine (pjoin_any vs ws a b HA.out HB.out E p HE.out A B c c1 w LA.out LB.out HV.out).mono ?_
  rintro e w1 ⟨AP1, cP1, rfl, hs, hb⟩
  replace LA := Lib.hid (LA.out.next hb)
  replace LB := Lib.hid (LB.out.next hb)
  replace LC := Lib.hid (LC.out.next hb)
  replace HBL := Lib.hid (HBL.out.trans (hb.mono HBL.out.size))
  have P1 := Lib.hid hs
  clear hb hs
  go_wp2_with fail
  refine (rjoin_any vs ws a b HA.out HB.out E p HE.out A B c c1 w1 LA.out LB.out HV.out).mono ?_
  rintro e w2 ⟨AP2, cP2, rfl, hs, hb⟩
  replace LA := Lib.hid (LA.out.next hb)
  replace LB := Lib.hid (LB.out.next hb)
  replace LC := Lib.hid (LC.out.next hb)
  replace P1 := Lib.hid (P1.out.next hb)
  replace HBL := Lib.hid (HBL.out.trans (hb.mono HBL.out.size))
  have P2 := Lib.hid hs
  clear hb hs
  go_wp2_with fail
  refine (psplit_any l ws m b HC.out HB.out G v HG.out C B c2 c1 w2 LC.out LB.out).mono ?_
  rintro e w3 ⟨AQ1, cQ1, rfl, hs, hb⟩
  replace LA := Lib.hid (LA.out.next hb)
  replace LB := Lib.hid (LB.out.next hb)
  replace LC := Lib.hid (LC.out.next hb)
  replace P1 := Lib.hid (P1.out.next hb)
  replace P2 := Lib.hid (P2.out.next hb)
  replace HBL := Lib.hid (HBL.out.trans (hb.mono HBL.out.size))
  have Q1 := Lib.hid hs
  clear hb hs
  go_wp2_with fail
  refine (rsplit_any l ws m b HC.out HB.out G v HG.out C B c2 c1 w3 LC.out LB.out).mono ?_
  rintro e w4 ⟨AQ2, cQ2, rfl, hs, hb⟩
  replace LA := Lib.hid (LA.out.next hb)
  replace LB := Lib.hid (LB.out.next hb)
  replace LC := Lib.hid (LC.out.next hb)
  replace P1 := Lib.hid (P1.out.next hb)
  replace P2 := Lib.hid (P2.out.next hb)
  replace Q1 := Lib.hid (Q1.out.next hb)
  replace HBL := Lib.hid (HBL.out.trans (hb.mono HBL.out.size))
  have Q2 := Lib.hid hs
  clear hb hs
  go_wp2_with fail
  refine (coded_any w4).mono ?_
  rintro e w5 ⟨rfl, hb⟩
  replace LA := Lib.hid (LA.out.next hb)
  replace LB := Lib.hid (LB.out.next hb)
  replace LC := Lib.hid (LC.out.next hb)
  replace P1 := Lib.hid (P1.out.next hb)
  replace P2 := Lib.hid (P2.out.next hb)
  replace Q1 := Lib.hid (Q1.out.next hb)
  replace Q2 := Lib.hid (Q2.out.next hb)
  replace HBL := Lib.hid (HBL.out.trans (hb.mono HBL.out.size))
  clear hb
  go_wp2_with fail
  refine (same_true p p.length p.length rfl rfl AP1 AP2 cP1 cP2 w5 P1.out P2.out).mono ?_
  rintro e w6 ⟨rfl, hb⟩
  replace LA := Lib.hid (LA.out.next hb)
  replace LB := Lib.hid (LB.out.next hb)
  replace LC := Lib.hid (LC.out.next hb)
  replace P1 := Lib.hid (P1.out.next hb)
  replace P2 := Lib.hid (P2.out.next hb)
  replace Q1 := Lib.hid (Q1.out.next hb)
  replace Q2 := Lib.hid (Q2.out.next hb)
  replace HBL := Lib.hid (HBL.out.trans (hb.mono HBL.out.size))
  clear hb
  go_wp2_with fail
  refine (samen_true v v.length v.length rfl rfl AQ1 AQ2 cQ1 cQ2 w6 Q1.out Q2.out).mono ?_
  rintro e w7 ⟨rfl, hb⟩
  replace LA := Lib.hid (LA.out.next hb)
  replace LB := Lib.hid (LB.out.next hb)
  replace LC := Lib.hid (LC.out.next hb)
  replace P1 := Lib.hid (P1.out.next hb)
  replace P2 := Lib.hid (P2.out.next hb)
  replace Q1 := Lib.hid (Q1.out.next hb)
  replace Q2 := Lib.hid (Q2.out.next hb)
  replace HBL := Lib.hid (HBL.out.trans (hb.mono HBL.out.size))
  clear hb
  go_wp2
  go_ret
  exact ⟨rfl, HBL.out⟩
end Go.Proofs.Ytekgoleadblhhaa
