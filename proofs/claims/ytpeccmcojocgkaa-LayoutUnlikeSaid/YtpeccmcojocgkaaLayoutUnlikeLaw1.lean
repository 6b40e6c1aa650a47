/-
  Law LayoutUnlike walked, by cases. Conditions: the numbers fit an int.
-/
import Derived.Test.YtpeccmcojocgkaaLayoutUnlikeLaw0
namespace Go.Proofs.Ytpeccmcojocgkaa
set_option linter.unusedVariables false
open Go.ChangeShapes Go.WideShapes Go.ChangeAt Go.RowKit

set_option maxRecDepth 100000 in
set_option maxHeartbeats 1600000 in
theorem lun_3 (C : LaidOK) (r : Rg) (hin : InR r) (s : Rg) (hin2 : InR s) (E F : Int) (p q : List Nat) (hE : lputX r = (E, p)) (hF : lputX s = (F, q)) (w : World) (e0 : E = 0) (f0 : F = 0) (hrs : r = s) : Calls Try.prog 6 #[.agg #[.int .i64 r.t.ser, .int .i64 r.t.kind, .int .i64 r.t.frm, .int .i64 r.t.till, .int .i64 r.t.cls, .int .i64 r.t.card, .int .i64 r.t.seat, .int .i64 r.t.day, .int .i64 r.t.days, .int .i64 r.t.uses, .int .i64 r.t.epoch, .int .i64 r.key, .int .i64 r.left, .int .i64 r.inn, .int .i64 r.ver], .agg #[.int .i64 s.t.ser, .int .i64 s.t.kind, .int .i64 s.t.frm, .int .i64 s.t.till, .int .i64 s.t.cls, .int .i64 s.t.card, .int .i64 s.t.seat, .int .i64 s.t.day, .int .i64 s.t.days, .int .i64 s.t.uses, .int .i64 s.t.epoch, .int .i64 s.key, .int .i64 s.left, .int .i64 s.inn, .int .i64 s.ver]] w fun e w' => e = .returned (.bool true) ∧ Below w.heap.size w w' := by
  have HBL := Lib.hid (Below.refl w.heap.size w)
  subst e0 f0
  have HRS : Hid (rgB r s = true) := Lib.hid ((rgB_iff r s).2 hrs)
  have HPQ : Hid (p = q) := Lib.hid (by subst hrs; have := hE.symm.trans hF; exact (Prod.mk.inj this).2)
  clear hrs
  have HE := Lib.hid hE
  have HF := Lib.hid hF
  have HI := Lib.hid hin
  have HI2 := Lib.hid hin2
  clear hE hF hin hin2
  obtain ⟨a, ha⟩ : ∃ a, p.length = a := ⟨_, rfl⟩
  obtain ⟨b, hb0⟩ : ∃ b, q.length = b := ⟨_, rfl⟩
  have hp9 := lput_lt HE.out
  have HPA := Lib.hid ha
  have HQB := Lib.hid hb0
  have HAB : Hid (a = b) := Lib.hid (by rw [← ha, ← hb0, HPQ.out])
  clear ha hb0 hp9
  go_enter Try.func6, Try.ntmps6
  go_wp2_with fail
  obtain ⟨w1, hw⟩ : ∃ w1, w1 = (w.alloc (.cells #[.int .i64 r.t.ser, .int .i64 r.t.kind, .int .i64 r.t.frm, .int .i64 r.t.till, .int .i64 r.t.cls, .int .i64 r.t.card, .int .i64 r.t.seat, .int .i64 r.t.day, .int .i64 r.t.days, .int .i64 r.t.uses, .int .i64 r.t.epoch, .int .i64 r.key, .int .i64 r.left, .int .i64 r.inn, .int .i64 r.ver] 27)).alloc (.cells #[.int .i64 s.t.ser, .int .i64 s.t.kind, .int .i64 s.t.frm, .int .i64 s.t.till, .int .i64 s.t.cls, .int .i64 s.t.card, .int .i64 s.t.seat, .int .i64 s.t.day, .int .i64 s.t.days, .int .i64 s.t.uses, .int .i64 s.t.epoch, .int .i64 s.key, .int .i64 s.left, .int .i64 s.inn, .int .i64 s.ver] 27) := ⟨_, rfl⟩
  rw [← hw]
  have X1 : Hid (RBox w1 w.heap.size r) := Lib.hid (by rw [hw]; exact (RBox.new w r).alloc _)
  have X2 : Hid (RBox w1 (w.heap.size + 1) s) := Lib.hid (by rw [hw, show w.heap.size + 1 = (w.alloc (.cells #[.int .i64 r.t.ser, .int .i64 r.t.kind, .int .i64 r.t.frm, .int .i64 r.t.till, .int .i64 r.t.cls, .int .i64 r.t.card, .int .i64 r.t.seat, .int .i64 r.t.day, .int .i64 r.t.days, .int .i64 r.t.uses, .int .i64 r.t.epoch, .int .i64 r.key, .int .i64 r.left, .int .i64 r.inn, .int .i64 r.ver] 27)).heap.size by simp]; exact RBox.new _ s)
  replace HBL : Hid (Below w.heap.size w w1) := Lib.hid (by rw [hw]; exact ((Below.refl _ _).alloc (Nat.le_refl _) _).alloc (by simp) _)
  clear hw
  obtain ⟨c0, c1, c2, c3, c4, c5, c6, c7, c8, c9, c10, c11, c12, c13, c14⟩ := X2.out.cells
  refine (lput_any r HI.out 0 p HE.out w1).mono ?_
  rintro e w2 ⟨AP1, cP1, rfl, hs, hb⟩
  clear c0 c1 c2 c3 c4 c5 c6 c7 c8 c9 c10 c11 c12 c13 c14
  replace X1 := Lib.hid (X1.out.next hb)
  replace X2 := Lib.hid (X2.out.next hb)
  replace HBL := Lib.hid (HBL.out.trans (hb.mono HBL.out.size))
  have P1 := Lib.hid hs
  clear hb hs
  rw [HPA.out]
  obtain ⟨d0, d1, d2, d3, d4, d5, d6, d7, d8, d9, d10, d11, d12, d13, d14⟩ := X2.out.cells
  go_wp2_with fail
  refine (lput_any s HI2.out 0 q HF.out w2).mono ?_
  rintro e w3 ⟨AP2, cP2, rfl, hs, hb⟩
  clear d0 d1 d2 d3 d4 d5 d6 d7 d8 d9 d10 d11 d12 d13 d14
  replace X1 := Lib.hid (X1.out.next hb)
  replace X2 := Lib.hid (X2.out.next hb)
  replace P1 := Lib.hid (P1.out.next hb)
  replace HBL := Lib.hid (HBL.out.trans (hb.mono HBL.out.size))
  have P2 := Lib.hid hs
  clear hb hs
  rw [HQB.out]
  go_wp2
  have ha63 : a ≤ 9223372036854775807 := by have h1 := P1.out.len; have h2 := P1.out.cap; rw [HPA.out] at h1; omega
  go_loopw [9, 10] (fun c i wr => ∃ k m j : Nat, k ≤ a ∧ k ≤ b ∧ i = .int .i64 k ∧ c = .int .i64 m ∧ wr = w3.drewN j ∧ Mis p q k m) (fun _ i _ => a - (intOf i).toNat)
  case atStart => exact ⟨0, 0, 0, Nat.zero_le _, Nat.zero_le _, rfl, rfl, rfl, mis_zero p q⟩
  case round =>
    obtain ⟨k, m, j, hka, hkb, rfl, rfl, rfl, hm⟩ := hrel
    have hmk := hm.1
    have HM := Lib.hid hm
    clear hm
    by_cases hla : k < a
    · by_cases hlb : k < b
      · have hkp : k < p.length := by rw [HPA.out]; exact hla
        have hkq : k < q.length := by rw [HQB.out]; exact hlb
        obtain ⟨x, hx⟩ : ∃ x, p[k]? = some x := ⟨_, List.getElem?_eq_getElem hkp⟩
        obtain ⟨y, hy⟩ : ∃ y, q[k]? = some y := ⟨_, List.getElem?_eq_getElem hkq⟩
        obtain ⟨ad, rfl, _, hc⟩ := bs_at13 P1.out hx
        obtain ⟨ad', rfl, _, hc'⟩ := bs_at13 P2.out hy
        have HX := Lib.hid hx
        have HY := Lib.hid hy
        have b1 : (0 : Int) ≤ (k : Int) := by omega
        have b2 : (k : Int) < (a : Int) := by omega
        have b3 : (k : Int) < (b : Int) := by omega
        have b4 : (0 : Int) ≤ (m : Int) := by omega
        clear hx hy hkp hkq
        by_cases he : x = y
        · subst he
          have HD := Lib.hid (mis_same HM.out HX.out HY.out)
          go_wp2
          go_quiet (fail)
          go_wp2
          go_roundw
          case rel => exact ⟨k + 1, m, _, by omega, by omega, by go_num, rfl, rfl, HD.out⟩
          case measure => simp [intOf]; omega
        · have hb : ((x : Int) == (y : Int)) = false := by rw [beq_eq_false_iff_ne]; omega
          have hb2 : ((x : Int) != (y : Int)) = true := by rw [bne_iff_ne]; omega
          have hb3 : (x == y) = false := by rw [beq_eq_false_iff_ne]; exact he
          have hb4 : (x != y) = true := by rw [bne_iff_ne]; exact he
          have HD := Lib.hid (mis_other HM.out HX.out HY.out he)
          clear he
          go_wp2
          go_quiet (fail)
          go_wp2
          go_roundw
          case rel => exact ⟨k + 1, m + 1, _, by omega, by omega, by go_num, by go_num, rfl, HD.out⟩
          case measure => simp [intOf]; omega
      · have hkb2 : k = b := by omega
        exact absurd hla (by have := HAB.out; omega)
    · have hka2 : k = a := by omega
      subst hka2
      go_wp2_with fail
      refine (C _).mono ?_
      rintro e w5 ⟨rfl, hb⟩
      have hbd : Below w3.heap.size w3 w5 := (below_drewN (Below.refl _ _) _).trans (hb.mono (Nat.le_refl _))
      have Y1 := Lib.hid (X1.out.next hbd)
      have Y2 := Lib.hid (X2.out.next hbd)
      have HBL5 := Lib.hid (HBL.out.trans (hbd.mono HBL.out.size))
      clear hb hbd
      obtain ⟨c0, c1, c2, c3, c4, c5, c6, c7, c8, c9, c10, c11, c12, c13, c14⟩ := Y1.out.cells
      obtain ⟨d0, d1, d2, d3, d4, d5, d6, d7, d8, d9, d10, d11, d12, d13, d14⟩ := Y2.out.cells
      have heq := read_eq r s
      rw [HRS.out] at heq
      have hm0 : ((m : Int) == 0) = true := by rw [beq_iff_eq]; have := HM.out.2.2 (by rw [HPQ.out]); omega
      have hm1 : (m == 0) = true := by rw [beq_iff_eq]; exact HM.out.2.2 (by rw [HPQ.out])
      clear hmk
      have k3 : ((k : Int) == (b : Int)) = true := by rw [beq_iff_eq]; have := HAB.out; omega
      have k4 : (k == b) = true := by rw [beq_iff_eq]; exact HAB.out
      have k5 : ((k : Int) != (b : Int)) = false := by rw [HAB.out]; simp
      go_wp2
      go_ret
      exact ⟨rfl, HBL5.out⟩
end Go.Proofs.Ytpeccmcojocgkaa
