/-
  Law SwipeReads walked: it answers true. Conditions: the slice reads as bytes.
-/
import Derived.Test.YtjlcaobffhihhaaSwiped
import Derived.Test.YtjlcaobffhihhaaSwipeRefRead
namespace Go.Proofs.Ytjlcaobffhihhaa
set_option linter.unusedVariables false
open Go.ChangeShapes Go.WideShapes Go.ChangeAt Go.RowKit

set_option maxRecDepth 100000 in
set_option maxHeartbeats 1600000 in
theorem reads14_any (b : List Nat) (n : Nat) (hn : n = b.length) (A : Option Addr) (c : Nat) (w : World) (hA : Bs w w.heap.size b A c) : Calls Try.prog 4 #[.slice A n c] w fun e w' => e = .returned (.bool true) ∧ Below w.heap.size w w' := by
  have h1 := hA.len
  have h2 := hA.cap
  have hn3 : n ≤ 9223372036854775807 := by omega
  have HN := Lib.hid hn
  have B1 := Lib.hid hA
  have HBL := Lib.hid (Below.refl w.heap.size w)
  clear h1 h2 hn hA
  by_cases q0 : 1000 < n
  · have p0 : (1000 : Int) < (n : Int) := by omega
    go_enter Try.func4, Try.ntmps4
    go_wp2
    go_ret
    exact ⟨rfl, Below.refl _ _⟩
  have p0 : ¬ ((1000 : Int) < (n : Int)) := by omega
  obtain ⟨E, hE⟩ : ∃ E, readE b = E := ⟨_, rfl⟩
  obtain ⟨o, hO⟩ : ∃ o, readO b = o := ⟨_, rfl⟩
  obtain ⟨p, hP⟩ : ∃ p, readL b = p := ⟨_, rfl⟩
  have HE := Lib.hid hE
  have HO := Lib.hid hO
  have HP := Lib.hid hP
  clear hE hO hP
  go_enter Try.func4, Try.ntmps4
  go_wp2_with fail
  refine (pread_any b n HN.out (by omega) E HE.out o HO.out p HP.out A c w B1.out).mono ?_
  rintro e w1 ⟨AR1, cR1, rfl, hs, hb⟩
  replace B1 := Lib.hid (B1.out.next hb)
  replace HBL := Lib.hid (HBL.out.trans (hb.mono HBL.out.size))
  have R1 := Lib.hid hs
  clear hb hs
  go_wp2_with fail
  refine (refread_any b n HN.out (by omega) E HE.out o HO.out p HP.out A c w1 B1.out).mono ?_
  rintro e w2 ⟨AR2, cR2, rfl, hs, hb⟩
  replace B1 := Lib.hid (B1.out.next hb)
  replace R1 := Lib.hid (R1.out.next hb)
  replace HBL := Lib.hid (HBL.out.trans (hb.mono HBL.out.size))
  have R2 := Lib.hid hs
  clear hb hs
  go_wp2_with fail
  refine (swiped_any w2).mono ?_
  rintro e w3 ⟨rfl, hb⟩
  replace B1 := Lib.hid (B1.out.next hb)
  replace R1 := Lib.hid (R1.out.next hb)
  replace R2 := Lib.hid (R2.out.next hb)
  replace HBL := Lib.hid (HBL.out.trans (hb.mono HBL.out.size))
  clear hb
  go_wp2_with fail
  refine (same_true p p.length p.length rfl rfl AR1 AR2 cR1 cR2 w3 R1.out R2.out).mono ?_
  rintro e w4 ⟨rfl, hb⟩
  replace B1 := Lib.hid (B1.out.next hb)
  replace R1 := Lib.hid (R1.out.next hb)
  replace R2 := Lib.hid (R2.out.next hb)
  replace HBL := Lib.hid (HBL.out.trans (hb.mono HBL.out.size))
  clear hb
  go_wp2
  go_ret
  exact ⟨rfl, HBL.out⟩
end Go.Proofs.Ytjlcaobffhihhaa
