/-
  Law StripeEncodes walked: it answers true. Conditions: the slice reads as keys; the numbers fit an int; sha's tables hold what its text lays.
-/
import Derived.Test.YtpniolinndlepaaGreatDoorStripeCoded
import Derived.Test.YtpniolinndlepaaGreatDoorStripeRefEnc
namespace Go.Proofs.YtpniolinndlepaaGreatDoor
set_option linter.unusedVariables false
open Go.ChangeShapes Go.WideShapes Go.ChangeAt Go.RowKit

set_option maxRecDepth 100000 in
set_option maxHeartbeats 1600000 in
theorem encodes15_any (l : List K) (n : Nat) (hn : n = l.length) (hn3 : n ≤ 9223372036854775807) (A : Option Addr) (c : Nat) (r : Rg) (hin : InR r) (w : World) (hT : Tabs w) (hA : Ks w w.heap.size A l) : Calls Tryz.prog 3 #[.slice A n c, .agg #[.int .i64 r.t.ser, .int .i64 r.t.kind, .int .i64 r.t.frm, .int .i64 r.t.till, .int .i64 r.t.cls, .int .i64 r.t.card, .int .i64 r.t.seat, .int .i64 r.t.day, .int .i64 r.t.days, .int .i64 r.t.uses, .int .i64 r.t.epoch, .int .i64 r.key, .int .i64 r.left, .int .i64 r.inn, .int .i64 r.ver]] w fun e w' => e = .returned (.bool true) ∧ Below w.heap.size w w' := by
  obtain ⟨E, p, hE⟩ : ∃ E p, encX l r = (E, p) := ⟨_, _, rfl⟩
  have HN := Lib.hid hn
  have HT := Lib.hid hT
  have HA := Lib.hid hA
  have HI := Lib.hid hin
  have HE := Lib.hid hE
  clear hn hT hA hin hE
  have HBL := Lib.hid (Below.refl w.heap.size w)
  cases hbig : bigR l
  · have HBIG := Lib.hid hbig
    clear hbig
    go_enter Tryz.func3, Tryz.ntmps3
    go_wp2_with fail
    obtain ⟨w1, hw⟩ : ∃ w1, w1 = w.alloc (.cells #[.int .i64 r.t.ser, .int .i64 r.t.kind, .int .i64 r.t.frm, .int .i64 r.t.till, .int .i64 r.t.cls, .int .i64 r.t.card, .int .i64 r.t.seat, .int .i64 r.t.day, .int .i64 r.t.days, .int .i64 r.t.uses, .int .i64 r.t.epoch, .int .i64 r.key, .int .i64 r.left, .int .i64 r.inn, .int .i64 r.ver] 28) := ⟨_, rfl⟩
    rw [← hw]
    have hx : RBox w1 w.heap.size r := by rw [hw]; exact RBox.new w r
    have hb : Below w.heap.size w w1 := by rw [hw]; exact below_lit w _ _
    replace HT := Lib.hid (HT.out.next hb)
    replace HA := Lib.hid (HA.out.next hb)
    replace HBL := Lib.hid (HBL.out.trans (hb.mono HBL.out.size))
    have X1 := Lib.hid hx
    clear hx hb hw
    obtain ⟨B1, hB⟩ : ∃ B, B = w.heap.size := ⟨_, rfl⟩
    rw [← hB] at X1 ⊢
    clear hB
    refine (refbig_named l n HN.out false HBIG.out A c w1 HA.out hn3).mono ?_
    rintro e w2 ⟨rfl, hb⟩
    replace HT := Lib.hid (HT.out.next hb)
    replace HA := Lib.hid (HA.out.next hb)
    replace X1 := Lib.hid (X1.out.next hb)
    replace HBL := Lib.hid (HBL.out.trans (hb.mono HBL.out.size))
    clear hb
    obtain ⟨c0, c1, c2, c3, c4, c5, c6, c7, c8, c9, c10, c11, c12, c13, c14⟩ := X1.out.cells
    go_wp2_with fail
    refine (penc_any l n HN.out hn3 A c r HI.out E p HE.out w2 HT.out HA.out).mono ?_
    rintro e w3 ⟨AP1, cP1, rfl, hs, hb⟩
    clear c0 c1 c2 c3 c4 c5 c6 c7 c8 c9 c10 c11 c12 c13 c14
    replace HT := Lib.hid (HT.out.next hb)
    replace HA := Lib.hid (HA.out.next hb)
    replace X1 := Lib.hid (X1.out.next hb)
    replace HBL := Lib.hid (HBL.out.trans (hb.mono HBL.out.size))
    have P1 := Lib.hid hs
    clear hb hs
    obtain ⟨c0, c1, c2, c3, c4, c5, c6, c7, c8, c9, c10, c11, c12, c13, c14⟩ := X1.out.cells
    go_wp2_with fail
    refine (renc_any l n HN.out hn3 A c r HI.out E p HE.out w3 HA.out).mono ?_
    rintro e w4 ⟨AP2, cP2, rfl, hs, hb⟩
    clear c0 c1 c2 c3 c4 c5 c6 c7 c8 c9 c10 c11 c12 c13 c14
    replace HT := Lib.hid (HT.out.next hb)
    replace HA := Lib.hid (HA.out.next hb)
    replace X1 := Lib.hid (X1.out.next hb)
    replace P1 := Lib.hid (P1.out.next hb)
    replace HBL := Lib.hid (HBL.out.trans (hb.mono HBL.out.size))
    have P2 := Lib.hid hs
    clear hb hs
    go_wp2_with fail
    refine (coded_any w4 HT.out).mono ?_
    rintro e w5 ⟨rfl, hb⟩
    replace HT := Lib.hid (HT.out.next hb)
    replace HA := Lib.hid (HA.out.next hb)
    replace X1 := Lib.hid (X1.out.next hb)
    replace P1 := Lib.hid (P1.out.next hb)
    replace P2 := Lib.hid (P2.out.next hb)
    replace HBL := Lib.hid (HBL.out.trans (hb.mono HBL.out.size))
    clear hb
    go_wp2_with fail
    refine (same_true p p.length p.length rfl rfl AP1 AP2 cP1 cP2 w5 P1.out P2.out).mono ?_
    rintro e w6 ⟨rfl, hb⟩
    replace HT := Lib.hid (HT.out.next hb)
    replace HA := Lib.hid (HA.out.next hb)
    replace X1 := Lib.hid (X1.out.next hb)
    replace P1 := Lib.hid (P1.out.next hb)
    replace P2 := Lib.hid (P2.out.next hb)
    replace HBL := Lib.hid (HBL.out.trans (hb.mono HBL.out.size))
    clear hb
    go_wp2
    go_ret
    exact ⟨rfl, HBL.out⟩
  · have HBIG := Lib.hid hbig
    clear hbig
    go_enter Tryz.func3, Tryz.ntmps3
    go_wp2_with fail
    obtain ⟨w1, hw⟩ : ∃ w1, w1 = w.alloc (.cells #[.int .i64 r.t.ser, .int .i64 r.t.kind, .int .i64 r.t.frm, .int .i64 r.t.till, .int .i64 r.t.cls, .int .i64 r.t.card, .int .i64 r.t.seat, .int .i64 r.t.day, .int .i64 r.t.days, .int .i64 r.t.uses, .int .i64 r.t.epoch, .int .i64 r.key, .int .i64 r.left, .int .i64 r.inn, .int .i64 r.ver] 28) := ⟨_, rfl⟩
    rw [← hw]
    have hx : RBox w1 w.heap.size r := by rw [hw]; exact RBox.new w r
    have hb : Below w.heap.size w w1 := by rw [hw]; exact below_lit w _ _
    replace HT := Lib.hid (HT.out.next hb)
    replace HA := Lib.hid (HA.out.next hb)
    replace HBL := Lib.hid (HBL.out.trans (hb.mono HBL.out.size))
    have X1 := Lib.hid hx
    clear hx hb hw
    obtain ⟨B1, hB⟩ : ∃ B, B = w.heap.size := ⟨_, rfl⟩
    rw [← hB] at X1 ⊢
    clear hB
    refine (refbig_named l n HN.out true HBIG.out A c w1 HA.out hn3).mono ?_
    rintro e w2 ⟨rfl, hb⟩
    replace HT := Lib.hid (HT.out.next hb)
    replace HA := Lib.hid (HA.out.next hb)
    replace X1 := Lib.hid (X1.out.next hb)
    replace HBL := Lib.hid (HBL.out.trans (hb.mono HBL.out.size))
    clear hb
    go_wp2
    go_ret
    exact ⟨rfl, HBL.out⟩
end Go.Proofs.YtpniolinndlepaaGreatDoor
