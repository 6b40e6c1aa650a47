/-
  Law TlvPuts walked: it answers true. Conditions: the slice reads as fields.
-/
import Derived.Test.YtkjghmonpdbjeaaTlvListed
namespace Go.Proofs.Ytkjghmonpdbjeaa
set_option linter.unusedVariables false
open Go.ChangeShapes Go.WideShapes Go.ChangeAt Go.RowKit

set_option maxRecDepth 100000 in
set_option maxHeartbeats 1600000 in
theorem puts17_any (l : List Tf) (n : Nat) (hn : n = l.length) (A : Option Addr) (c : Nat) (w : World) (hA : Ts w w.heap.size l A c) : Calls Try.prog 3 #[.slice A n c] w fun e w' => e = .returned (.bool true) ∧ Below w.heap.size w w' := by
  have h1 := hA.len
  have h2 := hA.cap
  have hn3 : n ≤ 9223372036854775807 := by omega
  have HN := Lib.hid hn
  have B1 := Lib.hid hA
  have HBL := Lib.hid (Below.refl w.heap.size w)
  clear h1 h2 hn hA
  obtain ⟨E, p, hP⟩ : ∃ e d, outT l = (e, d) := ⟨_, _, rfl⟩
  have HP := Lib.hid hP
  clear hP
  obtain ⟨t, ht⟩ : ∃ t, isT 0 l = t := ⟨_, rfl⟩
  have HT := Lib.hid ht
  clear ht
  cases hb : bigT l with
  | true =>
    have HB := Lib.hid hb
    clear hb
    go_enter Try.func3, Try.ntmps3
    go_wp2_with fail
    refine (refbig_tlv l n HN.out true HB.out A c w B1.out).mono ?_
    rintro e _ ⟨rfl, rfl⟩
    go_wp2
    go_ret
    exact ⟨rfl, HBL.out⟩
  | false =>
    have HB := Lib.hid hb
    clear hb
    go_enter Try.func3, Try.ntmps3
    go_wp2_with fail
    refine (refbig_tlv l n HN.out false HB.out A c w B1.out).mono ?_
    rintro e _ ⟨rfl, rfl⟩
    go_wp2_with fail
    refine (pput_tlv l n HN.out E p HP.out A c w B1.out).mono ?_
    rintro e w1 ⟨AP1, cP1, rfl, hs, hb⟩
    replace B1 := Lib.hid (B1.out.next hb)
    replace HBL := Lib.hid (HBL.out.trans (hb.mono HBL.out.size))
    have P1 := Lib.hid hs
    clear hb hs
    go_wp2_with fail
    refine (refput_tlv l n HN.out E p HP.out A c w1 B1.out).mono ?_
    rintro e w2 ⟨AP2, cP2, rfl, hs, hb⟩
    replace B1 := Lib.hid (B1.out.next hb)
    replace P1 := Lib.hid (P1.out.next hb)
    replace HBL := Lib.hid (HBL.out.trans (hb.mono HBL.out.size))
    have P2 := Lib.hid hs
    clear hb hs
    go_wp2_with fail
    refine (listed_any w2).mono ?_
    rintro e w3 ⟨rfl, hb⟩
    replace B1 := Lib.hid (B1.out.next hb)
    replace P1 := Lib.hid (P1.out.next hb)
    replace P2 := Lib.hid (P2.out.next hb)
    replace HBL := Lib.hid (HBL.out.trans (hb.mono HBL.out.size))
    clear hb
    go_wp2_with fail
    refine (same_true p p.length p.length rfl rfl AP1 AP2 cP1 cP2 w3 P1.out P2.out).mono ?_
    rintro e w4 ⟨rfl, hb⟩
    replace B1 := Lib.hid (B1.out.next hb)
    replace P1 := Lib.hid (P1.out.next hb)
    replace P2 := Lib.hid (P2.out.next hb)
    replace HBL := Lib.hid (HBL.out.trans (hb.mono HBL.out.size))
    clear hb
    go_wp2_with fail
    refine (pis_tlv l n HN.out t HT.out A c w4 B1.out).mono ?_
    rintro e w5 ⟨rfl, hb⟩
    replace B1 := Lib.hid (B1.out.next hb)
    replace P1 := Lib.hid (P1.out.next hb)
    replace P2 := Lib.hid (P2.out.next hb)
    replace HBL := Lib.hid (HBL.out.trans (hb.mono HBL.out.size))
    clear hb
    go_wp2_with fail
    refine (refis_tlv l n HN.out t HT.out A c w5 B1.out).mono ?_
    rintro e w6 ⟨rfl, hb⟩
    replace B1 := Lib.hid (B1.out.next hb)
    replace P1 := Lib.hid (P1.out.next hb)
    replace P2 := Lib.hid (P2.out.next hb)
    replace HBL := Lib.hid (HBL.out.trans (hb.mono HBL.out.size))
    clear hb
    cases t
    all_goals
      go_wp2
      go_ret
      exact ⟨rfl, HBL.out⟩
end Go.Proofs.Ytkjghmonpdbjeaa
