/-
  Law StripeTags walked: it answers true. Conditions: the slices read as bytes; sha's tables hold what its text lays.
-/
import Derived.Test.YtpniolinndlepaaGreatDoorStripeCoded
import Derived.Test.YtpniolinndlepaaGreatDoorStripeRefTag
namespace Go.Proofs.YtpniolinndlepaaGreatDoor
set_option linter.unusedVariables false
open Go.ChangeShapes Go.WideShapes Go.ChangeAt Go.RowKit

set_option maxRecDepth 100000 in
set_option maxHeartbeats 1600000 in
theorem same_rd (s : List Nat) (n n' : Nat) (hn : n = s.length) (hn' : n' = s.length) (A A' : Option Addr) (c c' : Nat) (w : World) (h1 : n ≤ 1000) (hA : Rd w w.heap.size A (U8 s)) (hA' : Rd w w.heap.size A' (U8 s)) : Calls Tryz.prog 13 #[.slice A n c, .slice A' n' c'] w fun e w' => e = .returned (.bool true) ∧ Below w.heap.size w w' := by
  have := same_any s s n n' hn hn' A A' c c' w.heap.size w hA hA' (by omega) (by omega)
  simpa using this
set_option maxRecDepth 100000 in
set_option maxHeartbeats 1600000 in
theorem tags15_any (s : List Nat) (n : Nat) (hn : n = s.length) (A : Option Addr) (c : Nat) (t : List Nat) (m : Nat) (hm : m = t.length) (B : Option Addr) (d : Nat) (w : World) (hT : Tabs w) (hA : Bs w w.heap.size s A c) (hB : Bs w w.heap.size t B d) : Calls Tryz.prog 5 #[.slice A n c, .slice B m d] w fun e w' => e = .returned (.bool true) ∧ Below w.heap.size w w' := by
  have h1 := hA.len
  have h2 := hA.cap
  have h3 := hB.len
  have h4 := hB.cap
  have hn3 : n ≤ 9223372036854775807 := by omega
  have hm3 : m ≤ 9223372036854775807 := by omega
  clear h1 h2 h3 h4
  obtain ⟨T, hE⟩ : ∃ T, tagS s t = T := ⟨_, rfl⟩
  have hTL : T.length = 10 := by rw [← hE]; exact tagS_len _ _
  have HN := Lib.hid hn
  have HM := Lib.hid hm
  have HT := Lib.hid hT
  have HA := Lib.hid hA
  have HB := Lib.hid hB
  have HE := Lib.hid hE
  have HTL := Lib.hid hTL
  clear hn hm hT hA hB hE hTL
  have HBL := Lib.hid (Below.refl w.heap.size w)
  by_cases qn : 1000 < n
  · have pn : (1000 : Int) < (n : Int) := by omega
    go_enter Tryz.func5, Tryz.ntmps5
    go_wp2
    go_ret
    exact ⟨rfl, HBL.out⟩
  have pn : ¬ ((1000 : Int) < (n : Int)) := by omega
  by_cases qm : 1000 < m
  · have pm : (1000 : Int) < (m : Int) := by omega
    go_enter Tryz.func5, Tryz.ntmps5
    go_wp2
    go_ret
    exact ⟨rfl, HBL.out⟩
  have pm : ¬ ((1000 : Int) < (m : Int)) := by omega
  go_enter Tryz.func5, Tryz.ntmps5
  go_wp2_with fail
  refine (coded_any w HT.out).mono ?_
  rintro e w1 ⟨rfl, hb⟩
  replace HT := Lib.hid (HT.out.next hb)
  replace HA := Lib.hid (HA.out.next hb)
  replace HB := Lib.hid (HB.out.next hb)
  replace HBL := Lib.hid (HBL.out.trans (hb.mono HBL.out.size))
  clear hb
  go_wp2_with fail
  refine (ptag_any s t n m HN.out HM.out A B c d w1 HT.out HA.out HB.out (by omega) (by omega) T HE.out).mono ?_
  rintro e w2 ⟨g1, cap1, rfl, hs, hb⟩
  replace HT := Lib.hid (HT.out.next hb)
  replace HA := Lib.hid (HA.out.next hb)
  replace HB := Lib.hid (HB.out.next hb)
  replace HBL := Lib.hid (HBL.out.trans (hb.mono HBL.out.size))
  have G1 := Lib.hid hs
  clear hb hs
  go_wp2_with fail
  refine (rtag_any s t n m HN.out HM.out A B c d w2 HA.out HB.out (by omega) (by omega) T HE.out).mono ?_
  rintro e w3 ⟨g2, cap2, rfl, hs, hb⟩
  replace HT := Lib.hid (HT.out.next hb)
  replace HA := Lib.hid (HA.out.next hb)
  replace HB := Lib.hid (HB.out.next hb)
  replace G1 := Lib.hid (G1.out.next hb)
  replace HBL := Lib.hid (HBL.out.trans (hb.mono HBL.out.size))
  have G2 := Lib.hid hs
  clear hb hs
  go_wp2_with fail
  refine (same_rd T 10 10 HTL.out.symm HTL.out.symm _ _ cap1 cap2 w3 (by omega) G1.out G2.out).mono ?_
  rintro e w4 ⟨rfl, hb⟩
  replace HT := Lib.hid (HT.out.next hb)
  replace HA := Lib.hid (HA.out.next hb)
  replace HB := Lib.hid (HB.out.next hb)
  replace G1 := Lib.hid (G1.out.next hb)
  replace G2 := Lib.hid (G2.out.next hb)
  replace HBL := Lib.hid (HBL.out.trans (hb.mono HBL.out.size))
  clear hb
  go_wp2
  go_ret
  exact ⟨rfl, HBL.out⟩
end Go.Proofs.YtpniolinndlepaaGreatDoor
