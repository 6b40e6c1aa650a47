/-
  Law StripeDecodes walked: it answers true. Conditions: the slices read as keys and bytes; sha's tables hold what its text lays.
-/
import Derived.Test.YtpniolinndlepaaGreatDoorStripeCoded
import Derived.Test.YtpniolinndlepaaGreatDoorStripeRefDec
namespace Go.Proofs.YtpniolinndlepaaGreatDoor
set_option linter.unusedVariables false
open Go.ChangeShapes Go.WideShapes Go.ChangeAt Go.RowKit

set_option maxRecDepth 100000 in
set_option maxHeartbeats 1600000 in
theorem decodes15_any (l : List K) (n : Nat) (hn : n = l.length) (hn3 : n ≤ 9223372036854775807) (A : Option Addr) (c : Nat) (b : List Nat) (m : Nat) (hm : m = b.length) (B : Option Addr) (d : Nat) (w : World) (hT : Tabs w) (hA : Ks w w.heap.size A l) (hB : Bs w w.heap.size b B d) : Calls Tryz.prog 4 #[.slice A n c, .slice B m d] w fun e w' => e = .returned (.bool true) ∧ Below w.heap.size w w' := by
  have h1 := hB.len
  have h2 := hB.cap
  have hm3 : m ≤ 9223372036854775807 := by omega
  clear h1 h2
  obtain ⟨E, r, hE⟩ : ∃ E r, decX l b = (E, r) := ⟨_, _, rfl⟩
  have HN := Lib.hid hn
  have HM := Lib.hid hm
  have HT := Lib.hid hT
  have HA := Lib.hid hA
  have HB := Lib.hid hB
  have HE := Lib.hid hE
  clear hn hm hT hA hB hE
  have HBL := Lib.hid (Below.refl w.heap.size w)
  cases hbig : bigR l
  · have HBIG := Lib.hid hbig
    clear hbig
    by_cases q0 : 1000 < m
    · have p0 : (1000 : Int) < (m : Int) := by omega
      go_enter Tryz.func4, Tryz.ntmps4
      go_wp2_with fail
      refine (refbig_named l n HN.out false HBIG.out A c w HA.out hn3).mono ?_
      rintro e w1 ⟨rfl, hb⟩
      replace HT := Lib.hid (HT.out.next hb)
      replace HA := Lib.hid (HA.out.next hb)
      replace HB := Lib.hid (HB.out.next hb)
      replace HBL := Lib.hid (HBL.out.trans (hb.mono HBL.out.size))
      clear hb
      go_wp2
      go_ret
      exact ⟨rfl, HBL.out⟩
    have p0 : ¬ ((1000 : Int) < (m : Int)) := by omega
    go_enter Tryz.func4, Tryz.ntmps4
    go_wp2_with fail
    refine (refbig_named l n HN.out false HBIG.out A c w HA.out hn3).mono ?_
    rintro e w1 ⟨rfl, hb⟩
    replace HT := Lib.hid (HT.out.next hb)
    replace HA := Lib.hid (HA.out.next hb)
    replace HB := Lib.hid (HB.out.next hb)
    replace HBL := Lib.hid (HBL.out.trans (hb.mono HBL.out.size))
    clear hb
    go_wp2_with fail
    refine (pdec_any l n HN.out hn3 b m HM.out (by omega) A c B d E r HE.out w1 HT.out HA.out HB.out).mono ?_
    rintro e w2 ⟨rfl, hb⟩
    replace HT := Lib.hid (HT.out.next hb)
    replace HA := Lib.hid (HA.out.next hb)
    replace HB := Lib.hid (HB.out.next hb)
    replace HBL := Lib.hid (HBL.out.trans (hb.mono HBL.out.size))
    clear hb
    go_wp2_with fail
    obtain ⟨w3, hw⟩ : ∃ w3, w3 = w2.alloc (.cells #[.int .i64 r.t.ser, .int .i64 r.t.kind, .int .i64 r.t.frm, .int .i64 r.t.till, .int .i64 r.t.cls, .int .i64 r.t.card, .int .i64 r.t.seat, .int .i64 r.t.day, .int .i64 r.t.days, .int .i64 r.t.uses, .int .i64 r.t.epoch, .int .i64 r.key, .int .i64 r.left, .int .i64 r.inn, .int .i64 r.ver] 28) := ⟨_, rfl⟩
    rw [← hw]
    have hx : RBox w3 w2.heap.size r := by rw [hw]; exact RBox.new w2 r
    have hb : Below w2.heap.size w2 w3 := by rw [hw]; exact below_lit w2 _ _
    replace HT := Lib.hid (HT.out.next hb)
    replace HA := Lib.hid (HA.out.next hb)
    replace HB := Lib.hid (HB.out.next hb)
    replace HBL := Lib.hid (HBL.out.trans (hb.mono HBL.out.size))
    have X1 := Lib.hid hx
    clear hx hb hw
    obtain ⟨B1, hB⟩ : ∃ B, B = w2.heap.size := ⟨_, rfl⟩
    rw [← hB] at X1 ⊢
    clear hB
    refine (rdec_any l n HN.out hn3 b m HM.out (by omega) A c B d E r HE.out w3 HA.out HB.out).mono ?_
    rintro e w4 ⟨rfl, hb⟩
    replace HT := Lib.hid (HT.out.next hb)
    replace HA := Lib.hid (HA.out.next hb)
    replace HB := Lib.hid (HB.out.next hb)
    replace X1 := Lib.hid (X1.out.next hb)
    replace HBL := Lib.hid (HBL.out.trans (hb.mono HBL.out.size))
    clear hb
    go_wp2_with fail
    obtain ⟨w5, hw⟩ : ∃ w5, w5 = w4.alloc (.cells #[.int .i64 r.t.ser, .int .i64 r.t.kind, .int .i64 r.t.frm, .int .i64 r.t.till, .int .i64 r.t.cls, .int .i64 r.t.card, .int .i64 r.t.seat, .int .i64 r.t.day, .int .i64 r.t.days, .int .i64 r.t.uses, .int .i64 r.t.epoch, .int .i64 r.key, .int .i64 r.left, .int .i64 r.inn, .int .i64 r.ver] 28) := ⟨_, rfl⟩
    rw [← hw]
    have hx : RBox w5 w4.heap.size r := by rw [hw]; exact RBox.new w4 r
    have hb : Below w4.heap.size w4 w5 := by rw [hw]; exact below_lit w4 _ _
    replace HT := Lib.hid (HT.out.next hb)
    replace HA := Lib.hid (HA.out.next hb)
    replace HB := Lib.hid (HB.out.next hb)
    replace X1 := Lib.hid (X1.out.next hb)
    replace HBL := Lib.hid (HBL.out.trans (hb.mono HBL.out.size))
    have X2 := Lib.hid hx
    clear hx hb hw
    obtain ⟨B2, hB⟩ : ∃ B, B = w4.heap.size := ⟨_, rfl⟩
    rw [← hB] at X2 ⊢
    clear hB
    refine (coded_any w5 HT.out).mono ?_
    rintro e w6 ⟨rfl, hb⟩
    replace HT := Lib.hid (HT.out.next hb)
    replace HA := Lib.hid (HA.out.next hb)
    replace HB := Lib.hid (HB.out.next hb)
    replace X1 := Lib.hid (X1.out.next hb)
    replace X2 := Lib.hid (X2.out.next hb)
    replace HBL := Lib.hid (HBL.out.trans (hb.mono HBL.out.size))
    clear hb
    obtain ⟨c0, c1, c2, c3, c4, c5, c6, c7, c8, c9, c10, c11, c12, c13, c14⟩ := X1.out.cells
    obtain ⟨k0, k1, k2, k3, k4, k5, k6, k7, k8, k9, k10, k11, k12, k13, k14⟩ := X2.out.cells
    have heq := read_eq r r
    rw [rgB_self] at heq
    go_wp2
    go_ret
    exact ⟨rfl, HBL.out⟩
  · have HBIG := Lib.hid hbig
    clear hbig
    go_enter Tryz.func4, Tryz.ntmps4
    go_wp2_with fail
    refine (refbig_named l n HN.out true HBIG.out A c w HA.out hn3).mono ?_
    rintro e w1 ⟨rfl, hb⟩
    replace HT := Lib.hid (HT.out.next hb)
    replace HA := Lib.hid (HA.out.next hb)
    replace HB := Lib.hid (HB.out.next hb)
    replace HBL := Lib.hid (HBL.out.trans (hb.mono HBL.out.size))
    clear hb
    go_wp2
    go_ret
    exact ⟨rfl, HBL.out⟩
end Go.Proofs.YtpniolinndlepaaGreatDoor
