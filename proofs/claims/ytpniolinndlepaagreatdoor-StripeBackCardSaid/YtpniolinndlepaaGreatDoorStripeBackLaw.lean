/-
  Law StripeBack walked: it answers true. Conditions: the slice reads as keys; the numbers fit an int; sha's tables hold what its text lays.
-/
import Derived.Test.YtpniolinndlepaaGreatDoorStripeCoded
namespace Go.Proofs.YtpniolinndlepaaGreatDoor
set_option linter.unusedVariables false
open Go.ChangeShapes Go.WideShapes Go.ChangeAt Go.RowKit

set_option maxRecDepth 100000 in
set_option maxHeartbeats 1600000 in
theorem back15_a (l : List K) (n : Nat) (hn : n = l.length) (hn3 : n ≤ 9223372036854775807) (A : Option Addr) (c : Nat) (r : Rg) (hin : InR r) (E : Int) (p : List Nat) (hE : encX l r = (E, p)) (h0 : E ≠ 0) (hbig : bigR l = true) (w : World) (hT : Tabs w) (hA : Ks w w.heap.size A l) : Calls Tryz.prog 6 #[.slice A n c, .agg #[.int .i64 r.t.ser, .int .i64 r.t.kind, .int .i64 r.t.frm, .int .i64 r.t.till, .int .i64 r.t.cls, .int .i64 r.t.card, .int .i64 r.t.seat, .int .i64 r.t.day, .int .i64 r.t.days, .int .i64 r.t.uses, .int .i64 r.t.epoch, .int .i64 r.key, .int .i64 r.left, .int .i64 r.inn, .int .i64 r.ver]] w fun e w' => e = .returned (.bool true) ∧ Below w.heap.size w w' := by
  have s1 : (E == 0) = false := by rw [beq_eq_false_iff_ne]; exact h0
  have s2 : (E != 0) = true := by rw [bne_iff_ne]; exact h0
  clear h0
  have HE := Lib.hid hE
  have HBIG := Lib.hid hbig
  clear hE hbig
  have HN := Lib.hid hn
  have HT := Lib.hid hT
  have HA := Lib.hid hA
  have HI := Lib.hid hin
  clear hn hT hA hin
  have HBL := Lib.hid (Below.refl w.heap.size w)
  go_enter Tryz.func6, Tryz.ntmps6
  go_wp2_with fail
  obtain ⟨w1, hw⟩ : ∃ w1, w1 = w.alloc (.cells #[.int .i64 r.t.ser, .int .i64 r.t.kind, .int .i64 r.t.frm, .int .i64 r.t.till, .int .i64 r.t.cls, .int .i64 r.t.card, .int .i64 r.t.seat, .int .i64 r.t.day, .int .i64 r.t.days, .int .i64 r.t.uses, .int .i64 r.t.epoch, .int .i64 r.key, .int .i64 r.left, .int .i64 r.inn, .int .i64 r.ver] 28) := ⟨_, rfl⟩
  rw [← hw]
  have hx : RBox w1 w.heap.size r := by rw [hw]; exact RBox.new w r
  have hb : Below w.heap.size w w1 := by rw [hw]; exact below_lit w _ _
  replace HT := Lib.hid (HT.out.next hb)
  replace HA := Lib.hid (HA.out.next hb)
  replace HBL := Lib.hid (HBL.out.trans (hb.mono HBL.out.size))
  have X1 := Lib.hid hx
  clear hx hb hw
  obtain ⟨B1, hB⟩ : ∃ B, B = w.heap.size := ⟨_, rfl⟩
  rw [← hB] at X1 ⊢
  clear hB
  refine (penc_any l n HN.out hn3 A c r HI.out E p HE.out w1 HT.out HA.out).mono ?_
  rintro e w2 ⟨AP1, cP1, rfl, hs, hb⟩
  replace HT := Lib.hid (HT.out.next hb)
  replace HA := Lib.hid (HA.out.next hb)
  replace X1 := Lib.hid (X1.out.next hb)
  replace HBL := Lib.hid (HBL.out.trans (hb.mono HBL.out.size))
  have P1 := Lib.hid hs
  clear hb hs
  go_wp2_with fail
  refine (refbig_named l n HN.out true HBIG.out A c w2 HA.out hn3).mono ?_
  rintro e w3 ⟨rfl, hb⟩
  replace HT := Lib.hid (HT.out.next hb)
  replace HA := Lib.hid (HA.out.next hb)
  replace X1 := Lib.hid (X1.out.next hb)
  replace P1 := Lib.hid (P1.out.next hb)
  replace HBL := Lib.hid (HBL.out.trans (hb.mono HBL.out.size))
  clear hb
  go_wp2_with fail
  refine (coded_any w3 HT.out).mono ?_
  rintro e w4 ⟨rfl, hb⟩
  replace HT := Lib.hid (HT.out.next hb)
  replace HA := Lib.hid (HA.out.next hb)
  replace X1 := Lib.hid (X1.out.next hb)
  replace P1 := Lib.hid (P1.out.next hb)
  replace HBL := Lib.hid (HBL.out.trans (hb.mono HBL.out.size))
  clear hb
  go_wp2
  go_ret
  exact ⟨rfl, HBL.out⟩
set_option maxRecDepth 100000 in
set_option maxHeartbeats 1600000 in
theorem back15_b (l : List K) (n : Nat) (hn : n = l.length) (hn3 : n ≤ 9223372036854775807) (A : Option Addr) (c : Nat) (r : Rg) (hin : InR r) (E : Int) (p : List Nat) (hE : encX l r = (E, p)) (h0 : E ≠ 0) (hbig : bigR l = false) (w : World) (hT : Tabs w) (hA : Ks w w.heap.size A l) : Calls Tryz.prog 6 #[.slice A n c, .agg #[.int .i64 r.t.ser, .int .i64 r.t.kind, .int .i64 r.t.frm, .int .i64 r.t.till, .int .i64 r.t.cls, .int .i64 r.t.card, .int .i64 r.t.seat, .int .i64 r.t.day, .int .i64 r.t.days, .int .i64 r.t.uses, .int .i64 r.t.epoch, .int .i64 r.key, .int .i64 r.left, .int .i64 r.inn, .int .i64 r.ver]] w fun e w' => e = .returned (.bool true) ∧ Below w.heap.size w w' := by
  have s1 : (E == 0) = false := by rw [beq_eq_false_iff_ne]; exact h0
  have s2 : (E != 0) = true := by rw [bne_iff_ne]; exact h0
  clear h0
  have HE := Lib.hid hE
  have HBIG := Lib.hid hbig
  clear hE hbig
  have HN := Lib.hid hn
  have HT := Lib.hid hT
  have HA := Lib.hid hA
  have HI := Lib.hid hin
  clear hn hT hA hin
  have HBL := Lib.hid (Below.refl w.heap.size w)
  go_enter Tryz.func6, Tryz.ntmps6
  go_wp2_with fail
  obtain ⟨w1, hw⟩ : ∃ w1, w1 = w.alloc (.cells #[.int .i64 r.t.ser, .int .i64 r.t.kind, .int .i64 r.t.frm, .int .i64 r.t.till, .int .i64 r.t.cls, .int .i64 r.t.card, .int .i64 r.t.seat, .int .i64 r.t.day, .int .i64 r.t.days, .int .i64 r.t.uses, .int .i64 r.t.epoch, .int .i64 r.key, .int .i64 r.left, .int .i64 r.inn, .int .i64 r.ver] 28) := ⟨_, rfl⟩
  rw [← hw]
  have hx : RBox w1 w.heap.size r := by rw [hw]; exact RBox.new w r
  have hb : Below w.heap.size w w1 := by rw [hw]; exact below_lit w _ _
  replace HT := Lib.hid (HT.out.next hb)
  replace HA := Lib.hid (HA.out.next hb)
  replace HBL := Lib.hid (HBL.out.trans (hb.mono HBL.out.size))
  have X1 := Lib.hid hx
  clear hx hb hw
  obtain ⟨B1, hB⟩ : ∃ B, B = w.heap.size := ⟨_, rfl⟩
  rw [← hB] at X1 ⊢
  clear hB
  refine (penc_any l n HN.out hn3 A c r HI.out E p HE.out w1 HT.out HA.out).mono ?_
  rintro e w2 ⟨AP1, cP1, rfl, hs, hb⟩
  replace HT := Lib.hid (HT.out.next hb)
  replace HA := Lib.hid (HA.out.next hb)
  replace X1 := Lib.hid (X1.out.next hb)
  replace HBL := Lib.hid (HBL.out.trans (hb.mono HBL.out.size))
  have P1 := Lib.hid hs
  clear hb hs
  go_wp2_with fail
  refine (refbig_named l n HN.out false HBIG.out A c w2 HA.out hn3).mono ?_
  rintro e w3 ⟨rfl, hb⟩
  replace HT := Lib.hid (HT.out.next hb)
  replace HA := Lib.hid (HA.out.next hb)
  replace X1 := Lib.hid (X1.out.next hb)
  replace P1 := Lib.hid (P1.out.next hb)
  replace HBL := Lib.hid (HBL.out.trans (hb.mono HBL.out.size))
  clear hb
  go_wp2_with fail
  refine (coded_any w3 HT.out).mono ?_
  rintro e w4 ⟨rfl, hb⟩
  replace HT := Lib.hid (HT.out.next hb)
  replace HA := Lib.hid (HA.out.next hb)
  replace X1 := Lib.hid (X1.out.next hb)
  replace P1 := Lib.hid (P1.out.next hb)
  replace HBL := Lib.hid (HBL.out.trans (hb.mono HBL.out.size))
  clear hb
  go_wp2
  go_ret
  exact ⟨rfl, HBL.out⟩
set_option maxRecDepth 100000 in
set_option maxHeartbeats 1600000 in
theorem back15_c (l : List K) (n : Nat) (hn : n = l.length) (hn3 : n ≤ 9223372036854775807) (A : Option Addr) (c : Nat) (r : Rg) (hin : InR r) (p : List Nat) (hE : encX l r = (0, p)) (hbig : bigR l = true) (w : World) (hT : Tabs w) (hA : Ks w w.heap.size A l) : Calls Tryz.prog 6 #[.slice A n c, .agg #[.int .i64 r.t.ser, .int .i64 r.t.kind, .int .i64 r.t.frm, .int .i64 r.t.till, .int .i64 r.t.cls, .int .i64 r.t.card, .int .i64 r.t.seat, .int .i64 r.t.day, .int .i64 r.t.days, .int .i64 r.t.uses, .int .i64 r.t.epoch, .int .i64 r.key, .int .i64 r.left, .int .i64 r.inn, .int .i64 r.ver]] w fun e w' => e = .returned (.bool true) ∧ Below w.heap.size w w' := by
  have HE := Lib.hid hE
  have HBIG := Lib.hid hbig
  clear hE hbig
  have HN := Lib.hid hn
  have HT := Lib.hid hT
  have HA := Lib.hid hA
  have HI := Lib.hid hin
  clear hn hT hA hin
  have HBL := Lib.hid (Below.refl w.heap.size w)
  go_enter Tryz.func6, Tryz.ntmps6
  go_wp2_with fail
  obtain ⟨w1, hw⟩ : ∃ w1, w1 = w.alloc (.cells #[.int .i64 r.t.ser, .int .i64 r.t.kind, .int .i64 r.t.frm, .int .i64 r.t.till, .int .i64 r.t.cls, .int .i64 r.t.card, .int .i64 r.t.seat, .int .i64 r.t.day, .int .i64 r.t.days, .int .i64 r.t.uses, .int .i64 r.t.epoch, .int .i64 r.key, .int .i64 r.left, .int .i64 r.inn, .int .i64 r.ver] 28) := ⟨_, rfl⟩
  rw [← hw]
  have hx : RBox w1 w.heap.size r := by rw [hw]; exact RBox.new w r
  have hb : Below w.heap.size w w1 := by rw [hw]; exact below_lit w _ _
  replace HT := Lib.hid (HT.out.next hb)
  replace HA := Lib.hid (HA.out.next hb)
  replace HBL := Lib.hid (HBL.out.trans (hb.mono HBL.out.size))
  have X1 := Lib.hid hx
  clear hx hb hw
  obtain ⟨B1, hB⟩ : ∃ B, B = w.heap.size := ⟨_, rfl⟩
  rw [← hB] at X1 ⊢
  clear hB
  refine (penc_any l n HN.out hn3 A c r HI.out 0 p HE.out w1 HT.out HA.out).mono ?_
  rintro e w2 ⟨AP1, cP1, rfl, hs, hb⟩
  replace HT := Lib.hid (HT.out.next hb)
  replace HA := Lib.hid (HA.out.next hb)
  replace X1 := Lib.hid (X1.out.next hb)
  replace HBL := Lib.hid (HBL.out.trans (hb.mono HBL.out.size))
  have P1 := Lib.hid hs
  clear hb hs
  go_wp2_with fail
  refine (refbig_named l n HN.out true HBIG.out A c w2 HA.out hn3).mono ?_
  rintro e w3 ⟨rfl, hb⟩
  replace HT := Lib.hid (HT.out.next hb)
  replace HA := Lib.hid (HA.out.next hb)
  replace X1 := Lib.hid (X1.out.next hb)
  replace P1 := Lib.hid (P1.out.next hb)
  replace HBL := Lib.hid (HBL.out.trans (hb.mono HBL.out.size))
  clear hb
  go_wp2_with fail
  refine (coded_any w3 HT.out).mono ?_
  rintro e w4 ⟨rfl, hb⟩
  replace HT := Lib.hid (HT.out.next hb)
  replace HA := Lib.hid (HA.out.next hb)
  replace X1 := Lib.hid (X1.out.next hb)
  replace P1 := Lib.hid (P1.out.next hb)
  replace HBL := Lib.hid (HBL.out.trans (hb.mono HBL.out.size))
  clear hb
  go_wp2
  go_ret
  exact ⟨rfl, HBL.out⟩
set_option maxRecDepth 100000 in
set_option maxHeartbeats 1600000 in
theorem back15_d (l : List K) (n : Nat) (hn : n = l.length) (hn3 : n ≤ 9223372036854775807) (A : Option Addr) (c : Nat) (r : Rg) (hin : InR r) (p : List Nat) (hE : encX l r = (0, p)) (hbig : bigR l = false) (hget : getE (turnL p) = 0) (E3 : Int) (r3 : Rg) (hD2 : decX l (turnL p) = (E3, r3)) (w : World) (hT : Tabs w) (hA : Ks w w.heap.size A l) : Calls Tryz.prog 6 #[.slice A n c, .agg #[.int .i64 r.t.ser, .int .i64 r.t.kind, .int .i64 r.t.frm, .int .i64 r.t.till, .int .i64 r.t.cls, .int .i64 r.t.card, .int .i64 r.t.seat, .int .i64 r.t.day, .int .i64 r.t.days, .int .i64 r.t.uses, .int .i64 r.t.epoch, .int .i64 r.key, .int .i64 r.left, .int .i64 r.inn, .int .i64 r.ver]] w fun e w' => e = .returned (.bool true) ∧ Below w.heap.size w w' := by
  obtain ⟨hD, hG, hlt, h50⟩ := enc_back hE
  obtain ⟨t, ht⟩ : ∃ t, turnL p = t := ⟨_, rfl⟩
  have htl : p.length = t.length := by rw [← ht, turn_len]
  rw [ht] at hget hD2
  have HGT := Lib.hid hget
  have HD2 := Lib.hid hD2
  clear hget hD2
  obtain ⟨g, hg⟩ : ∃ g, getL t = g := ⟨_, rfl⟩
  have HE := Lib.hid hE
  have HBIG := Lib.hid hbig
  have HD := Lib.hid hD
  have HTU := Lib.hid ht
  have HTL := Lib.hid htl
  have HGL := Lib.hid hg
  have H50 := Lib.hid h50
  clear hE hbig hD ht htl hg h50
  clear hG hlt
  have HN := Lib.hid hn
  have HT := Lib.hid hT
  have HA := Lib.hid hA
  have HI := Lib.hid hin
  clear hn hT hA hin
  have HBL := Lib.hid (Below.refl w.heap.size w)
  go_enter Tryz.func6, Tryz.ntmps6
  go_wp2_with fail
  obtain ⟨w1, hw⟩ : ∃ w1, w1 = w.alloc (.cells #[.int .i64 r.t.ser, .int .i64 r.t.kind, .int .i64 r.t.frm, .int .i64 r.t.till, .int .i64 r.t.cls, .int .i64 r.t.card, .int .i64 r.t.seat, .int .i64 r.t.day, .int .i64 r.t.days, .int .i64 r.t.uses, .int .i64 r.t.epoch, .int .i64 r.key, .int .i64 r.left, .int .i64 r.inn, .int .i64 r.ver] 28) := ⟨_, rfl⟩
  rw [← hw]
  have hx : RBox w1 w.heap.size r := by rw [hw]; exact RBox.new w r
  have hb : Below w.heap.size w w1 := by rw [hw]; exact below_lit w _ _
  replace HT := Lib.hid (HT.out.next hb)
  replace HA := Lib.hid (HA.out.next hb)
  replace HBL := Lib.hid (HBL.out.trans (hb.mono HBL.out.size))
  have X1 := Lib.hid hx
  clear hx hb hw
  obtain ⟨B1, hB⟩ : ∃ B, B = w.heap.size := ⟨_, rfl⟩
  rw [← hB] at X1 ⊢
  clear hB
  refine (penc_any l n HN.out hn3 A c r HI.out 0 p HE.out w1 HT.out HA.out).mono ?_
  rintro e w2 ⟨AP1, cP1, rfl, hs, hb⟩
  replace HT := Lib.hid (HT.out.next hb)
  replace HA := Lib.hid (HA.out.next hb)
  replace X1 := Lib.hid (X1.out.next hb)
  replace HBL := Lib.hid (HBL.out.trans (hb.mono HBL.out.size))
  have P1 := Lib.hid hs
  clear hb hs
  go_wp2_with fail
  refine (refbig_named l n HN.out false HBIG.out A c w2 HA.out hn3).mono ?_
  rintro e w3 ⟨rfl, hb⟩
  replace HT := Lib.hid (HT.out.next hb)
  replace HA := Lib.hid (HA.out.next hb)
  replace X1 := Lib.hid (X1.out.next hb)
  replace P1 := Lib.hid (P1.out.next hb)
  replace HBL := Lib.hid (HBL.out.trans (hb.mono HBL.out.size))
  clear hb
  go_wp2_with fail
  refine (pdec_any l n HN.out hn3 p p.length rfl (by have := H50.out; omega) A c AP1 cP1 0 r HD.out w3 HT.out HA.out P1.out).mono ?_
  rintro e w4 ⟨rfl, hb⟩
  replace HT := Lib.hid (HT.out.next hb)
  replace HA := Lib.hid (HA.out.next hb)
  replace X1 := Lib.hid (X1.out.next hb)
  replace P1 := Lib.hid (P1.out.next hb)
  replace HBL := Lib.hid (HBL.out.trans (hb.mono HBL.out.size))
  clear hb
  go_wp2_with fail
  obtain ⟨w5, hw⟩ : ∃ w5, w5 = w4.alloc (.cells #[.int .i64 r.t.ser, .int .i64 r.t.kind, .int .i64 r.t.frm, .int .i64 r.t.till, .int .i64 r.t.cls, .int .i64 r.t.card, .int .i64 r.t.seat, .int .i64 r.t.day, .int .i64 r.t.days, .int .i64 r.t.uses, .int .i64 r.t.epoch, .int .i64 r.key, .int .i64 r.left, .int .i64 r.inn, .int .i64 r.ver] 28) := ⟨_, rfl⟩
  rw [← hw]
  have hx : RBox w5 w4.heap.size r := by rw [hw]; exact RBox.new w4 r
  have hb : Below w4.heap.size w4 w5 := by rw [hw]; exact below_lit w4 _ _
  replace HT := Lib.hid (HT.out.next hb)
  replace HA := Lib.hid (HA.out.next hb)
  replace X1 := Lib.hid (X1.out.next hb)
  replace P1 := Lib.hid (P1.out.next hb)
  replace HBL := Lib.hid (HBL.out.trans (hb.mono HBL.out.size))
  have X2 := Lib.hid hx
  clear hx hb hw
  obtain ⟨B2, hB⟩ : ∃ B, B = w4.heap.size := ⟨_, rfl⟩
  rw [← hB] at X2 ⊢
  clear hB
  refine (pturn_any p p.length rfl (by have := H50.out; omega) AP1 cP1 w5 P1.out).mono ?_
  rintro e w6 ⟨AT1, cT1, rfl, hs, hb⟩
  replace HT := Lib.hid (HT.out.next hb)
  replace HA := Lib.hid (HA.out.next hb)
  replace X1 := Lib.hid (X1.out.next hb)
  replace P1 := Lib.hid (P1.out.next hb)
  replace X2 := Lib.hid (X2.out.next hb)
  replace HBL := Lib.hid (HBL.out.trans (hb.mono HBL.out.size))
  have T1 := Lib.hid hs
  clear hb hs
  rw [HTU.out] at T1
  obtain ⟨c0, c1, c2, c3, c4, c5, c6, c7, c8, c9, c10, c11, c12, c13, c14⟩ := X2.out.cells
  obtain ⟨k0, k1, k2, k3, k4, k5, k6, k7, k8, k9, k10, k11, k12, k13, k14⟩ := X1.out.cells
  have heq := read_eq r r
  rw [rgB_self] at heq
  go_wp2_with fail
  refine (pget_any t p.length HTL.out (by have := H50.out; omega) 0 HGT.out g HGL.out AT1 cT1 w6 T1.out).mono ?_
  rintro e w7 ⟨AG1, cG1, rfl, hs, hb⟩
  clear c0 c1 c2 c3 c4 c5 c6 c7 c8 c9 c10 c11 c12 c13 c14 k0 k1 k2 k3 k4 k5 k6 k7 k8 k9 k10 k11 k12 k13 k14
  replace HT := Lib.hid (HT.out.next hb)
  replace HA := Lib.hid (HA.out.next hb)
  replace X1 := Lib.hid (X1.out.next hb)
  replace P1 := Lib.hid (P1.out.next hb)
  replace X2 := Lib.hid (X2.out.next hb)
  replace T1 := Lib.hid (T1.out.next hb)
  replace HBL := Lib.hid (HBL.out.trans (hb.mono HBL.out.size))
  have G1 := Lib.hid hs
  clear hb hs
  clear heq
  go_wp2_with fail
  refine (pdec_any l n HN.out hn3 t p.length HTL.out (by have := H50.out; omega) A c AT1 cT1 E3 r3 HD2.out w7 HT.out HA.out T1.out).mono ?_
  rintro e w8 ⟨rfl, hb⟩
  replace HT := Lib.hid (HT.out.next hb)
  replace HA := Lib.hid (HA.out.next hb)
  replace X1 := Lib.hid (X1.out.next hb)
  replace P1 := Lib.hid (P1.out.next hb)
  replace X2 := Lib.hid (X2.out.next hb)
  replace T1 := Lib.hid (T1.out.next hb)
  replace G1 := Lib.hid (G1.out.next hb)
  replace HBL := Lib.hid (HBL.out.trans (hb.mono HBL.out.size))
  clear hb
  go_wp2_with fail
  obtain ⟨w9, hw⟩ : ∃ w9, w9 = w8.alloc (.cells #[.int .i64 r3.t.ser, .int .i64 r3.t.kind, .int .i64 r3.t.frm, .int .i64 r3.t.till, .int .i64 r3.t.cls, .int .i64 r3.t.card, .int .i64 r3.t.seat, .int .i64 r3.t.day, .int .i64 r3.t.days, .int .i64 r3.t.uses, .int .i64 r3.t.epoch, .int .i64 r3.key, .int .i64 r3.left, .int .i64 r3.inn, .int .i64 r3.ver] 28) := ⟨_, rfl⟩
  rw [← hw]
  have hx : RBox w9 w8.heap.size r3 := by rw [hw]; exact RBox.new w8 r3
  have hb : Below w8.heap.size w8 w9 := by rw [hw]; exact below_lit w8 _ _
  replace HT := Lib.hid (HT.out.next hb)
  replace HA := Lib.hid (HA.out.next hb)
  replace X1 := Lib.hid (X1.out.next hb)
  replace P1 := Lib.hid (P1.out.next hb)
  replace X2 := Lib.hid (X2.out.next hb)
  replace T1 := Lib.hid (T1.out.next hb)
  replace G1 := Lib.hid (G1.out.next hb)
  replace HBL := Lib.hid (HBL.out.trans (hb.mono HBL.out.size))
  have X3 := Lib.hid hx
  clear hx hb hw
  obtain ⟨B3, hB⟩ : ∃ B, B = w8.heap.size := ⟨_, rfl⟩
  rw [← hB] at X3 ⊢
  clear hB
  refine (coded_any w9 HT.out).mono ?_
  rintro e w10 ⟨rfl, hb⟩
  replace HT := Lib.hid (HT.out.next hb)
  replace HA := Lib.hid (HA.out.next hb)
  replace X1 := Lib.hid (X1.out.next hb)
  replace P1 := Lib.hid (P1.out.next hb)
  replace X2 := Lib.hid (X2.out.next hb)
  replace T1 := Lib.hid (T1.out.next hb)
  replace G1 := Lib.hid (G1.out.next hb)
  replace X3 := Lib.hid (X3.out.next hb)
  replace HBL := Lib.hid (HBL.out.trans (hb.mono HBL.out.size))
  clear hb
  go_wp2
  go_ret
  exact ⟨rfl, HBL.out⟩
set_option maxRecDepth 100000 in
set_option maxHeartbeats 1600000 in
theorem back15_e (l : List K) (n : Nat) (hn : n = l.length) (hn3 : n ≤ 9223372036854775807) (A : Option Addr) (c : Nat) (r : Rg) (hin : InR r) (p : List Nat) (hE : encX l r = (0, p)) (hbig : bigR l = false) (G : Int) (hget : getE (turnL p) = G) (h0 : G ≠ 0) (w : World) (hT : Tabs w) (hA : Ks w w.heap.size A l) : Calls Tryz.prog 6 #[.slice A n c, .agg #[.int .i64 r.t.ser, .int .i64 r.t.kind, .int .i64 r.t.frm, .int .i64 r.t.till, .int .i64 r.t.cls, .int .i64 r.t.card, .int .i64 r.t.seat, .int .i64 r.t.day, .int .i64 r.t.days, .int .i64 r.t.uses, .int .i64 r.t.epoch, .int .i64 r.key, .int .i64 r.left, .int .i64 r.inn, .int .i64 r.ver]] w fun e w' => e = .returned (.bool true) ∧ Below w.heap.size w w' := by
  have s1 : (G == 0) = false := by rw [beq_eq_false_iff_ne]; exact h0
  have s2 : (G != 0) = true := by rw [bne_iff_ne]; exact h0
  have hD2 := enc_turned hE (by rw [hget]; exact h0)
  clear h0
  obtain ⟨hD, hG, hlt, h50⟩ := enc_back hE
  obtain ⟨t, ht⟩ : ∃ t, turnL p = t := ⟨_, rfl⟩
  have htl : p.length = t.length := by rw [← ht, turn_len]
  rw [ht] at hget hD2
  have HGT := Lib.hid hget
  have HD2 := Lib.hid hD2
  clear hget hD2
  obtain ⟨g, hg⟩ : ∃ g, getL t = g := ⟨_, rfl⟩
  have HE := Lib.hid hE
  have HBIG := Lib.hid hbig
  have HD := Lib.hid hD
  have HTU := Lib.hid ht
  have HTL := Lib.hid htl
  have HGL := Lib.hid hg
  have H50 := Lib.hid h50
  clear hE hbig hD ht htl hg h50
  clear hG hlt
  have HN := Lib.hid hn
  have HT := Lib.hid hT
  have HA := Lib.hid hA
  have HI := Lib.hid hin
  clear hn hT hA hin
  have HBL := Lib.hid (Below.refl w.heap.size w)
  go_enter Tryz.func6, Tryz.ntmps6
  go_wp2_with fail
  obtain ⟨w1, hw⟩ : ∃ w1, w1 = w.alloc (.cells #[.int .i64 r.t.ser, .int .i64 r.t.kind, .int .i64 r.t.frm, .int .i64 r.t.till, .int .i64 r.t.cls, .int .i64 r.t.card, .int .i64 r.t.seat, .int .i64 r.t.day, .int .i64 r.t.days, .int .i64 r.t.uses, .int .i64 r.t.epoch, .int .i64 r.key, .int .i64 r.left, .int .i64 r.inn, .int .i64 r.ver] 28) := ⟨_, rfl⟩
  rw [← hw]
  have hx : RBox w1 w.heap.size r := by rw [hw]; exact RBox.new w r
  have hb : Below w.heap.size w w1 := by rw [hw]; exact below_lit w _ _
  replace HT := Lib.hid (HT.out.next hb)
  replace HA := Lib.hid (HA.out.next hb)
  replace HBL := Lib.hid (HBL.out.trans (hb.mono HBL.out.size))
  have X1 := Lib.hid hx
  clear hx hb hw
  obtain ⟨B1, hB⟩ : ∃ B, B = w.heap.size := ⟨_, rfl⟩
  rw [← hB] at X1 ⊢
  clear hB
  refine (penc_any l n HN.out hn3 A c r HI.out 0 p HE.out w1 HT.out HA.out).mono ?_
  rintro e w2 ⟨AP1, cP1, rfl, hs, hb⟩
  replace HT := Lib.hid (HT.out.next hb)
  replace HA := Lib.hid (HA.out.next hb)
  replace X1 := Lib.hid (X1.out.next hb)
  replace HBL := Lib.hid (HBL.out.trans (hb.mono HBL.out.size))
  have P1 := Lib.hid hs
  clear hb hs
  go_wp2_with fail
  refine (refbig_named l n HN.out false HBIG.out A c w2 HA.out hn3).mono ?_
  rintro e w3 ⟨rfl, hb⟩
  replace HT := Lib.hid (HT.out.next hb)
  replace HA := Lib.hid (HA.out.next hb)
  replace X1 := Lib.hid (X1.out.next hb)
  replace P1 := Lib.hid (P1.out.next hb)
  replace HBL := Lib.hid (HBL.out.trans (hb.mono HBL.out.size))
  clear hb
  go_wp2_with fail
  refine (pdec_any l n HN.out hn3 p p.length rfl (by have := H50.out; omega) A c AP1 cP1 0 r HD.out w3 HT.out HA.out P1.out).mono ?_
  rintro e w4 ⟨rfl, hb⟩
  replace HT := Lib.hid (HT.out.next hb)
  replace HA := Lib.hid (HA.out.next hb)
  replace X1 := Lib.hid (X1.out.next hb)
  replace P1 := Lib.hid (P1.out.next hb)
  replace HBL := Lib.hid (HBL.out.trans (hb.mono HBL.out.size))
  clear hb
  go_wp2_with fail
  obtain ⟨w5, hw⟩ : ∃ w5, w5 = w4.alloc (.cells #[.int .i64 r.t.ser, .int .i64 r.t.kind, .int .i64 r.t.frm, .int .i64 r.t.till, .int .i64 r.t.cls, .int .i64 r.t.card, .int .i64 r.t.seat, .int .i64 r.t.day, .int .i64 r.t.days, .int .i64 r.t.uses, .int .i64 r.t.epoch, .int .i64 r.key, .int .i64 r.left, .int .i64 r.inn, .int .i64 r.ver] 28) := ⟨_, rfl⟩
  rw [← hw]
  have hx : RBox w5 w4.heap.size r := by rw [hw]; exact RBox.new w4 r
  have hb : Below w4.heap.size w4 w5 := by rw [hw]; exact below_lit w4 _ _
  replace HT := Lib.hid (HT.out.next hb)
  replace HA := Lib.hid (HA.out.next hb)
  replace X1 := Lib.hid (X1.out.next hb)
  replace P1 := Lib.hid (P1.out.next hb)
  replace HBL := Lib.hid (HBL.out.trans (hb.mono HBL.out.size))
  have X2 := Lib.hid hx
  clear hx hb hw
  obtain ⟨B2, hB⟩ : ∃ B, B = w4.heap.size := ⟨_, rfl⟩
  rw [← hB] at X2 ⊢
  clear hB
  refine (pturn_any p p.length rfl (by have := H50.out; omega) AP1 cP1 w5 P1.out).mono ?_
  rintro e w6 ⟨AT1, cT1, rfl, hs, hb⟩
  replace HT := Lib.hid (HT.out.next hb)
  replace HA := Lib.hid (HA.out.next hb)
  replace X1 := Lib.hid (X1.out.next hb)
  replace P1 := Lib.hid (P1.out.next hb)
  replace X2 := Lib.hid (X2.out.next hb)
  replace HBL := Lib.hid (HBL.out.trans (hb.mono HBL.out.size))
  have T1 := Lib.hid hs
  clear hb hs
  rw [HTU.out] at T1
  obtain ⟨c0, c1, c2, c3, c4, c5, c6, c7, c8, c9, c10, c11, c12, c13, c14⟩ := X2.out.cells
  obtain ⟨k0, k1, k2, k3, k4, k5, k6, k7, k8, k9, k10, k11, k12, k13, k14⟩ := X1.out.cells
  have heq := read_eq r r
  rw [rgB_self] at heq
  go_wp2_with fail
  refine (pget_any t p.length HTL.out (by have := H50.out; omega) G HGT.out g HGL.out AT1 cT1 w6 T1.out).mono ?_
  rintro e w7 ⟨AG1, cG1, rfl, hs, hb⟩
  clear c0 c1 c2 c3 c4 c5 c6 c7 c8 c9 c10 c11 c12 c13 c14 k0 k1 k2 k3 k4 k5 k6 k7 k8 k9 k10 k11 k12 k13 k14
  replace HT := Lib.hid (HT.out.next hb)
  replace HA := Lib.hid (HA.out.next hb)
  replace X1 := Lib.hid (X1.out.next hb)
  replace P1 := Lib.hid (P1.out.next hb)
  replace X2 := Lib.hid (X2.out.next hb)
  replace T1 := Lib.hid (T1.out.next hb)
  replace HBL := Lib.hid (HBL.out.trans (hb.mono HBL.out.size))
  have G1 := Lib.hid hs
  clear hb hs
  clear heq
  go_wp2_with fail
  refine (pdec_any l n HN.out hn3 t p.length HTL.out (by have := H50.out; omega) A c AT1 cT1 0 r HD2.out w7 HT.out HA.out T1.out).mono ?_
  rintro e w8 ⟨rfl, hb⟩
  replace HT := Lib.hid (HT.out.next hb)
  replace HA := Lib.hid (HA.out.next hb)
  replace X1 := Lib.hid (X1.out.next hb)
  replace P1 := Lib.hid (P1.out.next hb)
  replace X2 := Lib.hid (X2.out.next hb)
  replace T1 := Lib.hid (T1.out.next hb)
  replace G1 := Lib.hid (G1.out.next hb)
  replace HBL := Lib.hid (HBL.out.trans (hb.mono HBL.out.size))
  clear hb
  go_wp2_with fail
  obtain ⟨w9, hw⟩ : ∃ w9, w9 = w8.alloc (.cells #[.int .i64 r.t.ser, .int .i64 r.t.kind, .int .i64 r.t.frm, .int .i64 r.t.till, .int .i64 r.t.cls, .int .i64 r.t.card, .int .i64 r.t.seat, .int .i64 r.t.day, .int .i64 r.t.days, .int .i64 r.t.uses, .int .i64 r.t.epoch, .int .i64 r.key, .int .i64 r.left, .int .i64 r.inn, .int .i64 r.ver] 28) := ⟨_, rfl⟩
  rw [← hw]
  have hx : RBox w9 w8.heap.size r := by rw [hw]; exact RBox.new w8 r
  have hb : Below w8.heap.size w8 w9 := by rw [hw]; exact below_lit w8 _ _
  replace HT := Lib.hid (HT.out.next hb)
  replace HA := Lib.hid (HA.out.next hb)
  replace X1 := Lib.hid (X1.out.next hb)
  replace P1 := Lib.hid (P1.out.next hb)
  replace X2 := Lib.hid (X2.out.next hb)
  replace T1 := Lib.hid (T1.out.next hb)
  replace G1 := Lib.hid (G1.out.next hb)
  replace HBL := Lib.hid (HBL.out.trans (hb.mono HBL.out.size))
  have X3 := Lib.hid hx
  clear hx hb hw
  obtain ⟨B3, hB⟩ : ∃ B, B = w8.heap.size := ⟨_, rfl⟩
  rw [← hB] at X3 ⊢
  clear hB
  refine (coded_any w9 HT.out).mono ?_
  rintro e w10 ⟨rfl, hb⟩
  replace HT := Lib.hid (HT.out.next hb)
  replace HA := Lib.hid (HA.out.next hb)
  replace X1 := Lib.hid (X1.out.next hb)
  replace P1 := Lib.hid (P1.out.next hb)
  replace X2 := Lib.hid (X2.out.next hb)
  replace T1 := Lib.hid (T1.out.next hb)
  replace G1 := Lib.hid (G1.out.next hb)
  replace X3 := Lib.hid (X3.out.next hb)
  replace HBL := Lib.hid (HBL.out.trans (hb.mono HBL.out.size))
  clear hb
  obtain ⟨c0, c1, c2, c3, c4, c5, c6, c7, c8, c9, c10, c11, c12, c13, c14⟩ := X3.out.cells
  obtain ⟨k0, k1, k2, k3, k4, k5, k6, k7, k8, k9, k10, k11, k12, k13, k14⟩ := X1.out.cells
  have heq := read_eq r r
  rw [rgB_self] at heq
  go_wp2
  go_ret
  exact ⟨rfl, HBL.out⟩
set_option maxRecDepth 100000 in
set_option maxHeartbeats 1600000 in
theorem back15_any (l : List K) (n : Nat) (hn : n = l.length) (hn3 : n ≤ 9223372036854775807) (A : Option Addr) (c : Nat) (r : Rg) (hin : InR r) (w : World) (hT : Tabs w) (hA : Ks w w.heap.size A l) : Calls Tryz.prog 6 #[.slice A n c, .agg #[.int .i64 r.t.ser, .int .i64 r.t.kind, .int .i64 r.t.frm, .int .i64 r.t.till, .int .i64 r.t.cls, .int .i64 r.t.card, .int .i64 r.t.seat, .int .i64 r.t.day, .int .i64 r.t.days, .int .i64 r.t.uses, .int .i64 r.t.epoch, .int .i64 r.key, .int .i64 r.left, .int .i64 r.inn, .int .i64 r.ver]] w fun e w' => e = .returned (.bool true) ∧ Below w.heap.size w w' := by
  by_cases h0 : (encX l r).1 = 0
  · have hE : encX l r = (0, (encX l r).2) := by rw [← h0]
    cases hbig : bigR l
    · by_cases hg : getE (turnL (encX l r).2) = 0
      · exact back15_d l n hn hn3 A c r hin _ hE hbig hg _ _ rfl w hT hA
      · exact back15_e l n hn hn3 A c r hin _ hE hbig _ rfl hg w hT hA
    · exact back15_c l n hn hn3 A c r hin _ hE hbig w hT hA
  · cases hbig : bigR l
    · exact back15_b l n hn hn3 A c r hin _ _ rfl h0 hbig w hT hA
    · exact back15_a l n hn hn3 A c r hin _ _ rfl h0 hbig w hT hA
end Go.Proofs.YtpniolinndlepaaGreatDoor
