/-
  Law LayoutBack walked, by cases. Conditions: the numbers fit an int; the slice reads as bytes.
-/
import Derived.Test.YtpeccmcojocgkaaLayoutBackLaw0
namespace Go.Proofs.Ytpeccmcojocgkaa
set_option linter.unusedVariables false
open Go.ChangeShapes Go.WideShapes Go.ChangeAt Go.RowKit

set_option maxRecDepth 100000 in
set_option maxHeartbeats 1600000 in
theorem lback_1 (C : LaidOK) (r : Rg) (hin : InR r) (l : List Nat) (m : Nat) (hm : m = l.length) (A : Option Addr) (c : Nat) (E : Int) (p : List Nat) (hE : lputX r = (E, p)) (G : Int) (s : Rg) (hG : lgetX l = (G, s)) (w : World) (hA : Bs w w.heap.size l A c) (e0 : E = 0) (h18 : 1000 < m) : Calls Try.prog 5 #[.agg #[.int .i64 r.t.ser, .int .i64 r.t.kind, .int .i64 r.t.frm, .int .i64 r.t.till, .int .i64 r.t.cls, .int .i64 r.t.card, .int .i64 r.t.seat, .int .i64 r.t.day, .int .i64 r.t.days, .int .i64 r.t.uses, .int .i64 r.t.epoch, .int .i64 r.key, .int .i64 r.left, .int .i64 r.inn, .int .i64 r.ver], .slice A m c] w fun e w' => e = .returned (.bool true) ∧ Below w.heap.size w w' := by
  have h1 := hA.len
  have h2 := hA.cap
  have h63 : m ≤ 9223372036854775807 := by omega
  clear h1 h2
  have HM := Lib.hid hm
  have LA := Lib.hid hA
  clear hm hA
  have HBL := Lib.hid (Below.refl w.heap.size w)
  subst e0
  have HE := Lib.hid hE
  have HG := Lib.hid hG
  have HI := Lib.hid hin
  clear hE hG hin
  have hg := lput_get HE.out
  have HGP := Lib.hid hg
  clear hg
  have p18 : (1000 : Int) < (m : Int) := by omega
  go_enter Try.func5, Try.ntmps5
  go_wp2_with fail
  obtain ⟨w1, hw⟩ : ∃ w1, w1 = w.alloc (.cells #[.int .i64 r.t.ser, .int .i64 r.t.kind, .int .i64 r.t.frm, .int .i64 r.t.till, .int .i64 r.t.cls, .int .i64 r.t.card, .int .i64 r.t.seat, .int .i64 r.t.day, .int .i64 r.t.days, .int .i64 r.t.uses, .int .i64 r.t.epoch, .int .i64 r.key, .int .i64 r.left, .int .i64 r.inn, .int .i64 r.ver] 27) := ⟨_, rfl⟩
  rw [← hw]
  have hx : RBox w1 w.heap.size r := by rw [hw]; exact RBox.new w r
  have hb : Below w.heap.size w w1 := by rw [hw]; exact below_lit w _ _
  replace LA := Lib.hid (LA.out.next hb)
  replace HBL := Lib.hid (HBL.out.trans (hb.mono HBL.out.size))
  have X1 := Lib.hid hx
  clear hx hb hw
  obtain ⟨B1, hB⟩ : ∃ B, B = w.heap.size := ⟨_, rfl⟩
  rw [← hB] at X1 ⊢
  clear hB
  refine (lput_any r HI.out 0 p HE.out w1).mono ?_
  rintro e w2 ⟨AP1, cP1, rfl, hs, hb⟩
  replace LA := Lib.hid (LA.out.next hb)
  replace X1 := Lib.hid (X1.out.next hb)
  replace HBL := Lib.hid (HBL.out.trans (hb.mono HBL.out.size))
  have P1 := Lib.hid hs
  clear hb hs
  go_wp2_with fail
  refine (lget_any p p.length rfl 0 r HGP.out AP1 cP1 w2 P1.out).mono ?_
  rintro e w3 ⟨rfl, hb⟩
  replace LA := Lib.hid (LA.out.next hb)
  replace X1 := Lib.hid (X1.out.next hb)
  replace P1 := Lib.hid (P1.out.next hb)
  replace HBL := Lib.hid (HBL.out.trans (hb.mono HBL.out.size))
  clear hb
  have hx1 := X1.out.alloc (.cells #[.int .i64 r.t.ser, .int .i64 r.t.kind, .int .i64 r.t.frm, .int .i64 r.t.till, .int .i64 r.t.cls, .int .i64 r.t.card, .int .i64 r.t.seat, .int .i64 r.t.day, .int .i64 r.t.days, .int .i64 r.t.uses, .int .i64 r.t.epoch, .int .i64 r.key, .int .i64 r.left, .int .i64 r.inn, .int .i64 r.ver] 27)
  obtain ⟨c0, c1, c2, c3, c4, c5, c6, c7, c8, c9, c10, c11, c12, c13, c14⟩ := hx1.cells
  clear hx1
  have heq := read_eq r r
  rw [rgB_self] at heq
  go_wp2_with fail
  obtain ⟨w4, hw⟩ : ∃ w4, w4 = w3.alloc (.cells #[.int .i64 r.t.ser, .int .i64 r.t.kind, .int .i64 r.t.frm, .int .i64 r.t.till, .int .i64 r.t.cls, .int .i64 r.t.card, .int .i64 r.t.seat, .int .i64 r.t.day, .int .i64 r.t.days, .int .i64 r.t.uses, .int .i64 r.t.epoch, .int .i64 r.key, .int .i64 r.left, .int .i64 r.inn, .int .i64 r.ver] 27) := ⟨_, rfl⟩
  rw [← hw]
  have hx : RBox w4 w3.heap.size r := by rw [hw]; exact RBox.new w3 r
  have hb : Below w3.heap.size w3 w4 := by rw [hw]; exact below_lit w3 _ _
  clear c0 c1 c2 c3 c4 c5 c6 c7 c8 c9 c10 c11 c12 c13 c14 heq
  replace LA := Lib.hid (LA.out.next hb)
  replace X1 := Lib.hid (X1.out.next hb)
  replace P1 := Lib.hid (P1.out.next hb)
  replace HBL := Lib.hid (HBL.out.trans (hb.mono HBL.out.size))
  have X7 := Lib.hid hx
  clear hx hb hw
  obtain ⟨B7, hB⟩ : ∃ B, B = w3.heap.size := ⟨_, rfl⟩
  rw [← hB] at X7 ⊢
  clear hB
  refine (C w4).mono ?_
  rintro e w5 ⟨rfl, hb⟩
  replace LA := Lib.hid (LA.out.next hb)
  replace X1 := Lib.hid (X1.out.next hb)
  replace P1 := Lib.hid (P1.out.next hb)
  replace X7 := Lib.hid (X7.out.next hb)
  replace HBL := Lib.hid (HBL.out.trans (hb.mono HBL.out.size))
  clear hb
  go_wp2
  go_ret
  exact ⟨rfl, HBL.out⟩
set_option maxRecDepth 100000 in
set_option maxHeartbeats 1600000 in
theorem lback_2 (C : LaidOK) (r : Rg) (hin : InR r) (l : List Nat) (m : Nat) (hm : m = l.length) (A : Option Addr) (c : Nat) (E : Int) (p : List Nat) (hE : lputX r = (E, p)) (G : Int) (s : Rg) (hG : lgetX l = (G, s)) (w : World) (hA : Bs w w.heap.size l A c) (e0 : E = 0) (h18 : ¬ 1000 < m) (g0 : G = 0) : Calls Try.prog 5 #[.agg #[.int .i64 r.t.ser, .int .i64 r.t.kind, .int .i64 r.t.frm, .int .i64 r.t.till, .int .i64 r.t.cls, .int .i64 r.t.card, .int .i64 r.t.seat, .int .i64 r.t.day, .int .i64 r.t.days, .int .i64 r.t.uses, .int .i64 r.t.epoch, .int .i64 r.key, .int .i64 r.left, .int .i64 r.inn, .int .i64 r.ver], .slice A m c] w fun e w' => e = .returned (.bool true) ∧ Below w.heap.size w w' := by
  have h1 := hA.len
  have h2 := hA.cap
  have h63 : m ≤ 9223372036854775807 := by omega
  clear h1 h2
  have HM := Lib.hid hm
  have LA := Lib.hid hA
  clear hm hA
  have HBL := Lib.hid (Below.refl w.heap.size w)
  subst e0
  subst g0
  have HE := Lib.hid hE
  have HG := Lib.hid hG
  have HI := Lib.hid hin
  clear hE hG hin
  have hg := lput_get HE.out
  have HGP := Lib.hid hg
  clear hg
  have p18 : ¬ ((1000 : Int) < (m : Int)) := by omega
  have hq := lget_put HG.out
  have hin2 := put_in hq.1
  obtain ⟨ho, hs⟩ := (rightR_iff s).1 hq.2
  have HQ := Lib.hid hq.1
  have HI2 := Lib.hid hin2
  have HO := Lib.hid ho
  have HS := Lib.hid hs
  clear hq hin2 ho hs
  go_enter Try.func5, Try.ntmps5
  go_wp2_with fail
  obtain ⟨w1, hw⟩ : ∃ w1, w1 = w.alloc (.cells #[.int .i64 r.t.ser, .int .i64 r.t.kind, .int .i64 r.t.frm, .int .i64 r.t.till, .int .i64 r.t.cls, .int .i64 r.t.card, .int .i64 r.t.seat, .int .i64 r.t.day, .int .i64 r.t.days, .int .i64 r.t.uses, .int .i64 r.t.epoch, .int .i64 r.key, .int .i64 r.left, .int .i64 r.inn, .int .i64 r.ver] 27) := ⟨_, rfl⟩
  rw [← hw]
  have hx : RBox w1 w.heap.size r := by rw [hw]; exact RBox.new w r
  have hb : Below w.heap.size w w1 := by rw [hw]; exact below_lit w _ _
  replace LA := Lib.hid (LA.out.next hb)
  replace HBL := Lib.hid (HBL.out.trans (hb.mono HBL.out.size))
  have X1 := Lib.hid hx
  clear hx hb hw
  obtain ⟨B1, hB⟩ : ∃ B, B = w.heap.size := ⟨_, rfl⟩
  rw [← hB] at X1 ⊢
  clear hB
  refine (lput_any r HI.out 0 p HE.out w1).mono ?_
  rintro e w2 ⟨AP1, cP1, rfl, hs, hb⟩
  replace LA := Lib.hid (LA.out.next hb)
  replace X1 := Lib.hid (X1.out.next hb)
  replace HBL := Lib.hid (HBL.out.trans (hb.mono HBL.out.size))
  have P1 := Lib.hid hs
  clear hb hs
  go_wp2_with fail
  refine (lget_any p p.length rfl 0 r HGP.out AP1 cP1 w2 P1.out).mono ?_
  rintro e w3 ⟨rfl, hb⟩
  replace LA := Lib.hid (LA.out.next hb)
  replace X1 := Lib.hid (X1.out.next hb)
  replace P1 := Lib.hid (P1.out.next hb)
  replace HBL := Lib.hid (HBL.out.trans (hb.mono HBL.out.size))
  clear hb
  have hx1 := X1.out.alloc (.cells #[.int .i64 r.t.ser, .int .i64 r.t.kind, .int .i64 r.t.frm, .int .i64 r.t.till, .int .i64 r.t.cls, .int .i64 r.t.card, .int .i64 r.t.seat, .int .i64 r.t.day, .int .i64 r.t.days, .int .i64 r.t.uses, .int .i64 r.t.epoch, .int .i64 r.key, .int .i64 r.left, .int .i64 r.inn, .int .i64 r.ver] 27)
  obtain ⟨c0, c1, c2, c3, c4, c5, c6, c7, c8, c9, c10, c11, c12, c13, c14⟩ := hx1.cells
  clear hx1
  have heq := read_eq r r
  rw [rgB_self] at heq
  go_wp2_with fail
  obtain ⟨w4, hw⟩ : ∃ w4, w4 = w3.alloc (.cells #[.int .i64 r.t.ser, .int .i64 r.t.kind, .int .i64 r.t.frm, .int .i64 r.t.till, .int .i64 r.t.cls, .int .i64 r.t.card, .int .i64 r.t.seat, .int .i64 r.t.day, .int .i64 r.t.days, .int .i64 r.t.uses, .int .i64 r.t.epoch, .int .i64 r.key, .int .i64 r.left, .int .i64 r.inn, .int .i64 r.ver] 27) := ⟨_, rfl⟩
  rw [← hw]
  have hx : RBox w4 w3.heap.size r := by rw [hw]; exact RBox.new w3 r
  have hb : Below w3.heap.size w3 w4 := by rw [hw]; exact below_lit w3 _ _
  clear c0 c1 c2 c3 c4 c5 c6 c7 c8 c9 c10 c11 c12 c13 c14 heq
  replace LA := Lib.hid (LA.out.next hb)
  replace X1 := Lib.hid (X1.out.next hb)
  replace P1 := Lib.hid (P1.out.next hb)
  replace HBL := Lib.hid (HBL.out.trans (hb.mono HBL.out.size))
  have X7 := Lib.hid hx
  clear hx hb hw
  obtain ⟨B7, hB⟩ : ∃ B, B = w3.heap.size := ⟨_, rfl⟩
  rw [← hB] at X7 ⊢
  clear hB
  refine (lget_any l m HM.out 0 s HG.out A c w4 LA.out).mono ?_
  rintro e w5 ⟨rfl, hb⟩
  replace LA := Lib.hid (LA.out.next hb)
  replace X1 := Lib.hid (X1.out.next hb)
  replace P1 := Lib.hid (P1.out.next hb)
  replace X7 := Lib.hid (X7.out.next hb)
  replace HBL := Lib.hid (HBL.out.trans (hb.mono HBL.out.size))
  clear hb
  go_wp2_with fail
  obtain ⟨w6, hw⟩ : ∃ w6, w6 = w5.alloc (.cells #[.int .i64 s.t.ser, .int .i64 s.t.kind, .int .i64 s.t.frm, .int .i64 s.t.till, .int .i64 s.t.cls, .int .i64 s.t.card, .int .i64 s.t.seat, .int .i64 s.t.day, .int .i64 s.t.days, .int .i64 s.t.uses, .int .i64 s.t.epoch, .int .i64 s.key, .int .i64 s.left, .int .i64 s.inn, .int .i64 s.ver] 27) := ⟨_, rfl⟩
  rw [← hw]
  have hx : RBox w6 w5.heap.size s := by rw [hw]; exact RBox.new w5 s
  have hb : Below w5.heap.size w5 w6 := by rw [hw]; exact below_lit w5 _ _
  replace LA := Lib.hid (LA.out.next hb)
  replace X1 := Lib.hid (X1.out.next hb)
  replace P1 := Lib.hid (P1.out.next hb)
  replace X7 := Lib.hid (X7.out.next hb)
  replace HBL := Lib.hid (HBL.out.trans (hb.mono HBL.out.size))
  have X9 := Lib.hid hx
  clear hx hb hw
  obtain ⟨B9, hB⟩ : ∃ B, B = w5.heap.size := ⟨_, rfl⟩
  rw [← hB] at X9 ⊢
  clear hB
  refine (lput_any s HI2.out 0 l HQ.out w6).mono ?_
  rintro e w7 ⟨AP2, cP2, rfl, hs, hb⟩
  replace LA := Lib.hid (LA.out.next hb)
  replace X1 := Lib.hid (X1.out.next hb)
  replace P1 := Lib.hid (P1.out.next hb)
  replace X7 := Lib.hid (X7.out.next hb)
  replace X9 := Lib.hid (X9.out.next hb)
  replace HBL := Lib.hid (HBL.out.trans (hb.mono HBL.out.size))
  have P2 := Lib.hid hs
  clear hb hs
  rw [← HM.out]
  go_wp2_with fail
  refine (C w7).mono ?_
  rintro e w8 ⟨rfl, hb⟩
  replace LA := Lib.hid (LA.out.next hb)
  replace X1 := Lib.hid (X1.out.next hb)
  replace P1 := Lib.hid (P1.out.next hb)
  replace X7 := Lib.hid (X7.out.next hb)
  replace X9 := Lib.hid (X9.out.next hb)
  replace P2 := Lib.hid (P2.out.next hb)
  replace HBL := Lib.hid (HBL.out.trans (hb.mono HBL.out.size))
  clear hb
  go_wp2_with fail
  refine (same_true l m m HM.out HM.out AP2 A cP2 c w8 P2.out LA.out).mono ?_
  rintro e w9 ⟨rfl, hb⟩
  replace LA := Lib.hid (LA.out.next hb)
  replace X1 := Lib.hid (X1.out.next hb)
  replace P1 := Lib.hid (P1.out.next hb)
  replace X7 := Lib.hid (X7.out.next hb)
  replace X9 := Lib.hid (X9.out.next hb)
  replace P2 := Lib.hid (P2.out.next hb)
  replace HBL := Lib.hid (HBL.out.trans (hb.mono HBL.out.size))
  clear hb
  obtain ⟨d0, d1, d2, d3, d4, d5, d6, d7, d8, d9, d10, d11, d12, d13, d14⟩ := X9.out.cells
  go_wp2_with fail
  refine (pis9_any s.t true HO.out w9).mono ?_
  rintro e w10 ⟨rfl, hb⟩
  clear d0 d1 d2 d3 d4 d5 d6 d7 d8 d9 d10 d11 d12 d13 d14
  replace LA := Lib.hid (LA.out.next hb)
  replace X1 := Lib.hid (X1.out.next hb)
  replace P1 := Lib.hid (P1.out.next hb)
  replace X7 := Lib.hid (X7.out.next hb)
  replace X9 := Lib.hid (X9.out.next hb)
  replace P2 := Lib.hid (P2.out.next hb)
  replace HBL := Lib.hid (HBL.out.trans (hb.mono HBL.out.size))
  clear hb
  obtain ⟨d0, d1, d2, d3, d4, d5, d6, d7, d8, d9, d10, d11, d12, d13, d14⟩ := X9.out.cells
  go_wp2_with fail
  refine (psuits_any s.t s.left s.inn true HS.out w10).mono ?_
  rintro e w11 ⟨rfl, hb⟩
  clear d0 d1 d2 d3 d4 d5 d6 d7 d8 d9 d10 d11 d12 d13 d14
  replace LA := Lib.hid (LA.out.next hb)
  replace X1 := Lib.hid (X1.out.next hb)
  replace P1 := Lib.hid (P1.out.next hb)
  replace X7 := Lib.hid (X7.out.next hb)
  replace X9 := Lib.hid (X9.out.next hb)
  replace P2 := Lib.hid (P2.out.next hb)
  replace HBL := Lib.hid (HBL.out.trans (hb.mono HBL.out.size))
  clear hb
  go_wp2
  go_ret
  exact ⟨rfl, HBL.out⟩
set_option maxRecDepth 100000 in
set_option maxHeartbeats 1600000 in
theorem lback_3 (C : LaidOK) (r : Rg) (hin : InR r) (l : List Nat) (m : Nat) (hm : m = l.length) (A : Option Addr) (c : Nat) (E : Int) (p : List Nat) (hE : lputX r = (E, p)) (G : Int) (s : Rg) (hG : lgetX l = (G, s)) (w : World) (hA : Bs w w.heap.size l A c) (e0 : E = 0) (h18 : ¬ 1000 < m) (g0 : G ≠ 0) : Calls Try.prog 5 #[.agg #[.int .i64 r.t.ser, .int .i64 r.t.kind, .int .i64 r.t.frm, .int .i64 r.t.till, .int .i64 r.t.cls, .int .i64 r.t.card, .int .i64 r.t.seat, .int .i64 r.t.day, .int .i64 r.t.days, .int .i64 r.t.uses, .int .i64 r.t.epoch, .int .i64 r.key, .int .i64 r.left, .int .i64 r.inn, .int .i64 r.ver], .slice A m c] w fun e w' => e = .returned (.bool true) ∧ Below w.heap.size w w' := by
  have h1 := hA.len
  have h2 := hA.cap
  have h63 : m ≤ 9223372036854775807 := by omega
  clear h1 h2
  have HM := Lib.hid hm
  have LA := Lib.hid hA
  clear hm hA
  have HBL := Lib.hid (Below.refl w.heap.size w)
  subst e0
  have HE := Lib.hid hE
  have HG := Lib.hid hG
  have HI := Lib.hid hin
  clear hE hG hin
  have hg := lput_get HE.out
  have HGP := Lib.hid hg
  clear hg
  have p18 : ¬ ((1000 : Int) < (m : Int)) := by omega
  have z1 : (G == 0) = false := by rw [beq_eq_false_iff_ne]; exact g0
  have z2 : (G != 0) = true := by rw [bne_iff_ne]; exact g0
  obtain rfl : s = zeroR := lget_not HG.out g0
  go_enter Try.func5, Try.ntmps5
  go_wp2_with fail
  obtain ⟨w1, hw⟩ : ∃ w1, w1 = w.alloc (.cells #[.int .i64 r.t.ser, .int .i64 r.t.kind, .int .i64 r.t.frm, .int .i64 r.t.till, .int .i64 r.t.cls, .int .i64 r.t.card, .int .i64 r.t.seat, .int .i64 r.t.day, .int .i64 r.t.days, .int .i64 r.t.uses, .int .i64 r.t.epoch, .int .i64 r.key, .int .i64 r.left, .int .i64 r.inn, .int .i64 r.ver] 27) := ⟨_, rfl⟩
  rw [← hw]
  have hx : RBox w1 w.heap.size r := by rw [hw]; exact RBox.new w r
  have hb : Below w.heap.size w w1 := by rw [hw]; exact below_lit w _ _
  replace LA := Lib.hid (LA.out.next hb)
  replace HBL := Lib.hid (HBL.out.trans (hb.mono HBL.out.size))
  have X1 := Lib.hid hx
  clear hx hb hw
  obtain ⟨B1, hB⟩ : ∃ B, B = w.heap.size := ⟨_, rfl⟩
  rw [← hB] at X1 ⊢
  clear hB
  refine (lput_any r HI.out 0 p HE.out w1).mono ?_
  rintro e w2 ⟨AP1, cP1, rfl, hs, hb⟩
  replace LA := Lib.hid (LA.out.next hb)
  replace X1 := Lib.hid (X1.out.next hb)
  replace HBL := Lib.hid (HBL.out.trans (hb.mono HBL.out.size))
  have P1 := Lib.hid hs
  clear hb hs
  go_wp2_with fail
  refine (lget_any p p.length rfl 0 r HGP.out AP1 cP1 w2 P1.out).mono ?_
  rintro e w3 ⟨rfl, hb⟩
  replace LA := Lib.hid (LA.out.next hb)
  replace X1 := Lib.hid (X1.out.next hb)
  replace P1 := Lib.hid (P1.out.next hb)
  replace HBL := Lib.hid (HBL.out.trans (hb.mono HBL.out.size))
  clear hb
  have hx1 := X1.out.alloc (.cells #[.int .i64 r.t.ser, .int .i64 r.t.kind, .int .i64 r.t.frm, .int .i64 r.t.till, .int .i64 r.t.cls, .int .i64 r.t.card, .int .i64 r.t.seat, .int .i64 r.t.day, .int .i64 r.t.days, .int .i64 r.t.uses, .int .i64 r.t.epoch, .int .i64 r.key, .int .i64 r.left, .int .i64 r.inn, .int .i64 r.ver] 27)
  obtain ⟨c0, c1, c2, c3, c4, c5, c6, c7, c8, c9, c10, c11, c12, c13, c14⟩ := hx1.cells
  clear hx1
  have heq := read_eq r r
  rw [rgB_self] at heq
  go_wp2_with fail
  obtain ⟨w4, hw⟩ : ∃ w4, w4 = w3.alloc (.cells #[.int .i64 r.t.ser, .int .i64 r.t.kind, .int .i64 r.t.frm, .int .i64 r.t.till, .int .i64 r.t.cls, .int .i64 r.t.card, .int .i64 r.t.seat, .int .i64 r.t.day, .int .i64 r.t.days, .int .i64 r.t.uses, .int .i64 r.t.epoch, .int .i64 r.key, .int .i64 r.left, .int .i64 r.inn, .int .i64 r.ver] 27) := ⟨_, rfl⟩
  rw [← hw]
  have hx : RBox w4 w3.heap.size r := by rw [hw]; exact RBox.new w3 r
  have hb : Below w3.heap.size w3 w4 := by rw [hw]; exact below_lit w3 _ _
  clear c0 c1 c2 c3 c4 c5 c6 c7 c8 c9 c10 c11 c12 c13 c14 heq
  replace LA := Lib.hid (LA.out.next hb)
  replace X1 := Lib.hid (X1.out.next hb)
  replace P1 := Lib.hid (P1.out.next hb)
  replace HBL := Lib.hid (HBL.out.trans (hb.mono HBL.out.size))
  have X7 := Lib.hid hx
  clear hx hb hw
  obtain ⟨B7, hB⟩ : ∃ B, B = w3.heap.size := ⟨_, rfl⟩
  rw [← hB] at X7 ⊢
  clear hB
  refine (lget_zero l m HM.out G HG.out A c w4 LA.out).mono ?_
  rintro e w5 ⟨rfl, hb⟩
  replace LA := Lib.hid (LA.out.next hb)
  replace X1 := Lib.hid (X1.out.next hb)
  replace P1 := Lib.hid (P1.out.next hb)
  replace X7 := Lib.hid (X7.out.next hb)
  replace HBL := Lib.hid (HBL.out.trans (hb.mono HBL.out.size))
  clear hb
  go_wp2_with fail
  obtain ⟨w6, hw⟩ : ∃ w6, w6 = w5.alloc (.cells #[.int .i64 0, .int .i64 0, .int .i64 0, .int .i64 0, .int .i64 0, .int .i64 0, .int .i64 0, .int .i64 0, .int .i64 0, .int .i64 0, .int .i64 0, .int .i64 0, .int .i64 0, .int .i64 0, .int .i64 0] 27) := ⟨_, rfl⟩
  rw [← hw]
  have hx : RBox w6 w5.heap.size zeroR := by rw [hw]; exact RBox.new w5 zeroR
  have hb : Below w5.heap.size w5 w6 := by rw [hw]; exact below_lit w5 _ _
  replace LA := Lib.hid (LA.out.next hb)
  replace X1 := Lib.hid (X1.out.next hb)
  replace P1 := Lib.hid (P1.out.next hb)
  replace X7 := Lib.hid (X7.out.next hb)
  replace HBL := Lib.hid (HBL.out.trans (hb.mono HBL.out.size))
  have X9 := Lib.hid hx
  clear hx hb hw
  obtain ⟨B9, hB⟩ : ∃ B, B = w5.heap.size := ⟨_, rfl⟩
  rw [← hB] at X9 ⊢
  clear hB
  refine (C w6).mono ?_
  rintro e w7 ⟨rfl, hb⟩
  replace LA := Lib.hid (LA.out.next hb)
  replace X1 := Lib.hid (X1.out.next hb)
  replace P1 := Lib.hid (P1.out.next hb)
  replace X7 := Lib.hid (X7.out.next hb)
  replace X9 := Lib.hid (X9.out.next hb)
  replace HBL := Lib.hid (HBL.out.trans (hb.mono HBL.out.size))
  clear hb
  have d0 : w7.cell? ⟨B9, 0, none⟩ = some (.int .i64 0) := X9.out.cells.1
  have d1 : w7.cell? ⟨B9, 1, none⟩ = some (.int .i64 0) := X9.out.cells.2.1
  have d2 : w7.cell? ⟨B9, 2, none⟩ = some (.int .i64 0) := X9.out.cells.2.2.1
  have d3 : w7.cell? ⟨B9, 3, none⟩ = some (.int .i64 0) := X9.out.cells.2.2.2.1
  have d4 : w7.cell? ⟨B9, 4, none⟩ = some (.int .i64 0) := X9.out.cells.2.2.2.2.1
  have d5 : w7.cell? ⟨B9, 5, none⟩ = some (.int .i64 0) := X9.out.cells.2.2.2.2.2.1
  have d6 : w7.cell? ⟨B9, 6, none⟩ = some (.int .i64 0) := X9.out.cells.2.2.2.2.2.2.1
  have d7 : w7.cell? ⟨B9, 7, none⟩ = some (.int .i64 0) := X9.out.cells.2.2.2.2.2.2.2.1
  have d8 : w7.cell? ⟨B9, 8, none⟩ = some (.int .i64 0) := X9.out.cells.2.2.2.2.2.2.2.2.1
  have d9 : w7.cell? ⟨B9, 9, none⟩ = some (.int .i64 0) := X9.out.cells.2.2.2.2.2.2.2.2.2.1
  have d10 : w7.cell? ⟨B9, 10, none⟩ = some (.int .i64 0) := X9.out.cells.2.2.2.2.2.2.2.2.2.2.1
  have d11 : w7.cell? ⟨B9, 11, none⟩ = some (.int .i64 0) := X9.out.cells.2.2.2.2.2.2.2.2.2.2.2.1
  have d12 : w7.cell? ⟨B9, 12, none⟩ = some (.int .i64 0) := X9.out.cells.2.2.2.2.2.2.2.2.2.2.2.2.1
  have d13 : w7.cell? ⟨B9, 13, none⟩ = some (.int .i64 0) := X9.out.cells.2.2.2.2.2.2.2.2.2.2.2.2.2.1
  have d14 : w7.cell? ⟨B9, 14, none⟩ = some (.int .i64 0) := X9.out.cells.2.2.2.2.2.2.2.2.2.2.2.2.2.2
  go_wp2
  go_ret
  exact ⟨rfl, HBL.out⟩
end Go.Proofs.Ytpeccmcojocgkaa
