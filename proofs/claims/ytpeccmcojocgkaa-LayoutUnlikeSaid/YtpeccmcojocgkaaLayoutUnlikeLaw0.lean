/-
  Law LayoutUnlike walked: it answers true. Conditions: the numbers fit an int.
-/
import Derived.Test.YtpeccmcojocgkaaLayOK
import Derived.Test.YtpeccmcojocgkaaLayPPut
import Derived.BigQuiet
namespace Go.Proofs.Ytpeccmcojocgkaa
set_option linter.unusedVariables false
open Go.ChangeShapes Go.WideShapes Go.ChangeAt Go.RowKit

theorem bs_at13 {w : World} {B : Nat} {l : List Nat} {A : Option Addr} {c k x : Nat} (h : Bs w B l A c) (hx : l[k]? = some x) : ∃ ad, A = some ad ∧ ad.block < B ∧ w.cell? (ad.add k) = some (.int .u8 x) := h.rd k _ (by rw [U8, List.getElem?_map, hx]; rfl)
/-- Behind k rounds: m of the digits differ. -/
def Mis (p q : List Nat) (k m : Nat) : Prop := m ≤ k ∧ (m = 0 ↔ p.take k = q.take k)
theorem mis_zero (p q : List Nat) : Mis p q 0 0 := ⟨by omega, by simp⟩
theorem mis_same {p q : List Nat} {k m x : Nat} (h : Mis p q k m) (h1 : p[k]? = some x) (h2 : q[k]? = some x) : Mis p q (k + 1) m := by
  refine ⟨by have := h.1; omega, ?_⟩
  rw [List.take_add_one, List.take_add_one, h1, h2, h.2]
  constructor
  · intro e; rw [e]
  · intro e; exact List.append_cancel_right e
theorem mis_other {p q : List Nat} {k m x y : Nat} (h : Mis p q k m) (h1 : p[k]? = some x) (h2 : q[k]? = some y) (hne : x ≠ y) : Mis p q (k + 1) (m + 1) := by
  refine ⟨by have := h.1; omega, ?_⟩
  constructor
  · intro e; omega
  · intro e
    have e2 := congrArg (fun l => l[k]?) e
    simp only [List.getElem?_take, Nat.lt_succ_self, if_true, h1, h2] at e2
    exact (hne (Option.some.inj e2)).elim
set_option maxRecDepth 100000 in
set_option maxHeartbeats 1600000 in
theorem lun_1 (C : LaidOK) (r : Rg) (hin : InR r) (s : Rg) (hin2 : InR s) (E F : Int) (p q : List Nat) (hE : lputX r = (E, p)) (hF : lputX s = (F, q)) (w : World)  (e0 : E ≠ 0) : Calls Try.prog 6 #[.agg #[.int .i64 r.t.ser, .int .i64 r.t.kind, .int .i64 r.t.frm, .int .i64 r.t.till, .int .i64 r.t.cls, .int .i64 r.t.card, .int .i64 r.t.seat, .int .i64 r.t.day, .int .i64 r.t.days, .int .i64 r.t.uses, .int .i64 r.t.epoch, .int .i64 r.key, .int .i64 r.left, .int .i64 r.inn, .int .i64 r.ver], .agg #[.int .i64 s.t.ser, .int .i64 s.t.kind, .int .i64 s.t.frm, .int .i64 s.t.till, .int .i64 s.t.cls, .int .i64 s.t.card, .int .i64 s.t.seat, .int .i64 s.t.day, .int .i64 s.t.days, .int .i64 s.t.uses, .int .i64 s.t.epoch, .int .i64 s.key, .int .i64 s.left, .int .i64 s.inn, .int .i64 s.ver]] w fun e w' => e = .returned (.bool true) ∧ Below w.heap.size w w' := by
  have HBL := Lib.hid (Below.refl w.heap.size w)
  have HE := Lib.hid hE
  have HF := Lib.hid hF
  have HI := Lib.hid hin
  have HI2 := Lib.hid hin2
  clear hE hF hin hin2
  have y1 : (E == 0) = false := by rw [beq_eq_false_iff_ne]; exact e0
  have y2 : (E != 0) = true := by rw [bne_iff_ne]; exact e0
  go_enter Try.func6, Try.ntmps6
  go_wp2_with fail
  obtain ⟨w1, hw⟩ : ∃ w1, w1 = (w.alloc (.cells #[.int .i64 r.t.ser, .int .i64 r.t.kind, .int .i64 r.t.frm, .int .i64 r.t.till, .int .i64 r.t.cls, .int .i64 r.t.card, .int .i64 r.t.seat, .int .i64 r.t.day, .int .i64 r.t.days, .int .i64 r.t.uses, .int .i64 r.t.epoch, .int .i64 r.key, .int .i64 r.left, .int .i64 r.inn, .int .i64 r.ver] 27)).alloc (.cells #[.int .i64 s.t.ser, .int .i64 s.t.kind, .int .i64 s.t.frm, .int .i64 s.t.till, .int .i64 s.t.cls, .int .i64 s.t.card, .int .i64 s.t.seat, .int .i64 s.t.day, .int .i64 s.t.days, .int .i64 s.t.uses, .int .i64 s.t.epoch, .int .i64 s.key, .int .i64 s.left, .int .i64 s.inn, .int .i64 s.ver] 27) := ⟨_, rfl⟩
  rw [← hw]
  have X1 : Hid (RBox w1 w.heap.size r) := Lib.hid (by rw [hw]; exact (RBox.new w r).alloc _)
  have X2 : Hid (RBox w1 (w.heap.size + 1) s) := Lib.hid (by rw [hw, show w.heap.size + 1 = (w.alloc (.cells #[.int .i64 r.t.ser, .int .i64 r.t.kind, .int .i64 r.t.frm, .int .i64 r.t.till, .int .i64 r.t.cls, .int .i64 r.t.card, .int .i64 r.t.seat, .int .i64 r.t.day, .int .i64 r.t.days, .int .i64 r.t.uses, .int .i64 r.t.epoch, .int .i64 r.key, .int .i64 r.left, .int .i64 r.inn, .int .i64 r.ver] 27)).heap.size by simp]; exact RBox.new _ s)
  replace HBL : Hid (Below w.heap.size w w1) := Lib.hid (by rw [hw]; exact ((Below.refl _ _).alloc (Nat.le_refl _) _).alloc (by simp) _)
  clear hw
  obtain ⟨c0, c1, c2, c3, c4, c5, c6, c7, c8, c9, c10, c11, c12, c13, c14⟩ := X2.out.cells
  refine (lput_any r HI.out E p HE.out w1).mono ?_
  rintro e w2 ⟨AP1, cP1, rfl, hs, hb⟩
  clear c0 c1 c2 c3 c4 c5 c6 c7 c8 c9 c10 c11 c12 c13 c14
  replace X1 := Lib.hid (X1.out.next hb)
  replace X2 := Lib.hid (X2.out.next hb)
  replace HBL := Lib.hid (HBL.out.trans (hb.mono HBL.out.size))
  have P1 := Lib.hid hs
  clear hb hs
  obtain ⟨d0, d1, d2, d3, d4, d5, d6, d7, d8, d9, d10, d11, d12, d13, d14⟩ := X2.out.cells
  go_wp2_with fail
  refine (lput_any s HI2.out F q HF.out w2).mono ?_
  rintro e w3 ⟨AP2, cP2, rfl, hs, hb⟩
  clear d0 d1 d2 d3 d4 d5 d6 d7 d8 d9 d10 d11 d12 d13 d14
  replace X1 := Lib.hid (X1.out.next hb)
  replace X2 := Lib.hid (X2.out.next hb)
  replace P1 := Lib.hid (P1.out.next hb)
  replace HBL := Lib.hid (HBL.out.trans (hb.mono HBL.out.size))
  have P2 := Lib.hid hs
  clear hb hs
  go_wp2_with fail
  refine (C w3).mono ?_
  rintro e w4 ⟨rfl, hb⟩
  replace X1 := Lib.hid (X1.out.next hb)
  replace X2 := Lib.hid (X2.out.next hb)
  replace P1 := Lib.hid (P1.out.next hb)
  replace P2 := Lib.hid (P2.out.next hb)
  replace HBL := Lib.hid (HBL.out.trans (hb.mono HBL.out.size))
  clear hb
  go_wp2
  go_ret
  exact ⟨rfl, HBL.out⟩
set_option maxRecDepth 100000 in
set_option maxHeartbeats 1600000 in
theorem lun_2 (C : LaidOK) (r : Rg) (hin : InR r) (s : Rg) (hin2 : InR s) (E F : Int) (p q : List Nat) (hE : lputX r = (E, p)) (hF : lputX s = (F, q)) (w : World)  (e0 : E = 0) (f0 : F ≠ 0) : Calls Try.prog 6 #[.agg #[.int .i64 r.t.ser, .int .i64 r.t.kind, .int .i64 r.t.frm, .int .i64 r.t.till, .int .i64 r.t.cls, .int .i64 r.t.card, .int .i64 r.t.seat, .int .i64 r.t.day, .int .i64 r.t.days, .int .i64 r.t.uses, .int .i64 r.t.epoch, .int .i64 r.key, .int .i64 r.left, .int .i64 r.inn, .int .i64 r.ver], .agg #[.int .i64 s.t.ser, .int .i64 s.t.kind, .int .i64 s.t.frm, .int .i64 s.t.till, .int .i64 s.t.cls, .int .i64 s.t.card, .int .i64 s.t.seat, .int .i64 s.t.day, .int .i64 s.t.days, .int .i64 s.t.uses, .int .i64 s.t.epoch, .int .i64 s.key, .int .i64 s.left, .int .i64 s.inn, .int .i64 s.ver]] w fun e w' => e = .returned (.bool true) ∧ Below w.heap.size w w' := by
  have HBL := Lib.hid (Below.refl w.heap.size w)
  have HE := Lib.hid hE
  have HF := Lib.hid hF
  have HI := Lib.hid hin
  have HI2 := Lib.hid hin2
  clear hE hF hin hin2
  subst e0
  have y1 : (F == 0) = false := by rw [beq_eq_false_iff_ne]; exact f0
  have y2 : (F != 0) = true := by rw [bne_iff_ne]; exact f0
  go_enter Try.func6, Try.ntmps6
  go_wp2_with fail
  obtain ⟨w1, hw⟩ : ∃ w1, w1 = (w.alloc (.cells #[.int .i64 r.t.ser, .int .i64 r.t.kind, .int .i64 r.t.frm, .int .i64 r.t.till, .int .i64 r.t.cls, .int .i64 r.t.card, .int .i64 r.t.seat, .int .i64 r.t.day, .int .i64 r.t.days, .int .i64 r.t.uses, .int .i64 r.t.epoch, .int .i64 r.key, .int .i64 r.left, .int .i64 r.inn, .int .i64 r.ver] 27)).alloc (.cells #[.int .i64 s.t.ser, .int .i64 s.t.kind, .int .i64 s.t.frm, .int .i64 s.t.till, .int .i64 s.t.cls, .int .i64 s.t.card, .int .i64 s.t.seat, .int .i64 s.t.day, .int .i64 s.t.days, .int .i64 s.t.uses, .int .i64 s.t.epoch, .int .i64 s.key, .int .i64 s.left, .int .i64 s.inn, .int .i64 s.ver] 27) := ⟨_, rfl⟩
  rw [← hw]
  have X1 : Hid (RBox w1 w.heap.size r) := Lib.hid (by rw [hw]; exact (RBox.new w r).alloc _)
  have X2 : Hid (RBox w1 (w.heap.size + 1) s) := Lib.hid (by rw [hw, show w.heap.size + 1 = (w.alloc (.cells #[.int .i64 r.t.ser, .int .i64 r.t.kind, .int .i64 r.t.frm, .int .i64 r.t.till, .int .i64 r.t.cls, .int .i64 r.t.card, .int .i64 r.t.seat, .int .i64 r.t.day, .int .i64 r.t.days, .int .i64 r.t.uses, .int .i64 r.t.epoch, .int .i64 r.key, .int .i64 r.left, .int .i64 r.inn, .int .i64 r.ver] 27)).heap.size by simp]; exact RBox.new _ s)
  replace HBL : Hid (Below w.heap.size w w1) := Lib.hid (by rw [hw]; exact ((Below.refl _ _).alloc (Nat.le_refl _) _).alloc (by simp) _)
  clear hw
  obtain ⟨c0, c1, c2, c3, c4, c5, c6, c7, c8, c9, c10, c11, c12, c13, c14⟩ := X2.out.cells
  refine (lput_any r HI.out 0 p HE.out w1).mono ?_
  rintro e w2 ⟨AP1, cP1, rfl, hs, hb⟩
  clear c0 c1 c2 c3 c4 c5 c6 c7 c8 c9 c10 c11 c12 c13 c14
  replace X1 := Lib.hid (X1.out.next hb)
  replace X2 := Lib.hid (X2.out.next hb)
  replace HBL := Lib.hid (HBL.out.trans (hb.mono HBL.out.size))
  have P1 := Lib.hid hs
  clear hb hs
  obtain ⟨d0, d1, d2, d3, d4, d5, d6, d7, d8, d9, d10, d11, d12, d13, d14⟩ := X2.out.cells
  go_wp2_with fail
  refine (lput_any s HI2.out F q HF.out w2).mono ?_
  rintro e w3 ⟨AP2, cP2, rfl, hs, hb⟩
  clear d0 d1 d2 d3 d4 d5 d6 d7 d8 d9 d10 d11 d12 d13 d14
  replace X1 := Lib.hid (X1.out.next hb)
  replace X2 := Lib.hid (X2.out.next hb)
  replace P1 := Lib.hid (P1.out.next hb)
  replace HBL := Lib.hid (HBL.out.trans (hb.mono HBL.out.size))
  have P2 := Lib.hid hs
  clear hb hs
  go_wp2_with fail
  refine (C w3).mono ?_
  rintro e w4 ⟨rfl, hb⟩
  replace X1 := Lib.hid (X1.out.next hb)
  replace X2 := Lib.hid (X2.out.next hb)
  replace P1 := Lib.hid (P1.out.next hb)
  replace P2 := Lib.hid (P2.out.next hb)
  replace HBL := Lib.hid (HBL.out.trans (hb.mono HBL.out.size))
  clear hb
  go_wp2
  go_ret
  exact ⟨rfl, HBL.out⟩
end Go.Proofs.Ytpeccmcojocgkaa
