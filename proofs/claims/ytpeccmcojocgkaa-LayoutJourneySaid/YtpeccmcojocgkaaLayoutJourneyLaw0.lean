/-
  Law LayoutJourney walked: what is not put. Conditions: the numbers fit an int.
-/
import Derived.Test.YtpeccmcojocgkaaLayOK
import Derived.Test.YtpeccmcojocgkaaLayPPut
namespace Go.Proofs.Ytpeccmcojocgkaa
set_option linter.unusedVariables false
open Go.ChangeShapes Go.WideShapes Go.ChangeAt Go.RowKit

theorem in_jour {r : Rg} {a b : Int} (h : InR r) (ha : In64 a) (hb : In64 b) : InR (⟨r.t, r.key, a, b, r.ver⟩ : Rg) := by
  intro x hx
  unfold InR rgL at h
  unfold rgL at hx
  simp only [List.mem_cons, List.not_mem_nil, or_false] at hx
  rcases hx with rfl | rfl | rfl | rfl | rfl | rfl | rfl | rfl | rfl | rfl | rfl | rfl | rfl | rfl | rfl
  all_goals first | exact ha | exact hb | exact h _ (by simp)
theorem rbox_jour {w : World} {X : Nat} {r : Rg} (h : RBox w X r) (a b : Int) : RBox ((w.setCell ⟨X, 12, none⟩ (.int .i64 a)).setCell ⟨X, 13, none⟩ (.int .i64 b)) X (⟨r.t, r.key, a, b, r.ver⟩ : Rg) :=
  heap_setCell_same _ X 13 _ _ _ (heap_setCell_same w X 12 _ _ _ h)
/-- A row of bytes is no block of ints: a store into the one leaves the other. -/
theorem bs_apart13 {w : World} {B X o : Nat} {s : List Nat} {A : Option Addr} {c : Nat} {r : Rg} {v : Value} (h : Bs w B s A c) (hX : RBox w X r) : Bs (w.setCell ⟨X, o, none⟩ v) B s A c := by
  refine ⟨fun k u hu => ?_, h.nil, h.len, h.cap, h.lt⟩
  obtain ⟨ad, e, hlt, hc⟩ := h.rd k u hu
  refine ⟨ad, e, hlt, ?_⟩
  by_cases hb : X = (ad.add k).block
  · exfalso
    obtain ⟨x, hx⟩ : ∃ x : Nat, u = .int .u8 x := by
      simp only [U8, List.getElem?_map, Option.map_eq_some_iff] at hu
      obtain ⟨x, _, rfl⟩ := hu
      exact ⟨x, rfl⟩
    subst hx
    unfold World.cell? at hc
    rw [← hb, hX] at hc
    simp only at hc
    simp at hc
    have hm := List.mem_of_getElem? hc.2
    simp at hm
  · exact (World.cell?_setCell_far _ _ _ _ hb).trans hc
set_option maxRecDepth 100000 in
set_option maxHeartbeats 1600000 in
theorem ljo_1 (C : LaidOK) (r : Rg) (hin : InR r) (a b : Int) (hja : In64 a) (hjb : In64 b) (E F : Int) (p q : List Nat) (hE : lputX r = (E, p)) (hF : lputX (⟨r.t, r.key, a, b, r.ver⟩ : Rg) = (F, q)) (w : World)  (e0 : E ≠ 0) : Calls Try.prog 7 #[.agg #[.int .i64 r.t.ser, .int .i64 r.t.kind, .int .i64 r.t.frm, .int .i64 r.t.till, .int .i64 r.t.cls, .int .i64 r.t.card, .int .i64 r.t.seat, .int .i64 r.t.day, .int .i64 r.t.days, .int .i64 r.t.uses, .int .i64 r.t.epoch, .int .i64 r.key, .int .i64 r.left, .int .i64 r.inn, .int .i64 r.ver], .agg #[.int .i64 a, .int .i64 b]] w fun e w' => e = .returned (.bool true) ∧ Below w.heap.size w w' := by
  have HBL := Lib.hid (Below.refl w.heap.size w)
  have HE := Lib.hid hE
  have HF := Lib.hid hF
  have HI := Lib.hid hin
  have HI2 := Lib.hid (in_jour hin hja hjb)
  clear hE hF hin hja hjb
  have y1 : (E == 0) = false := by rw [beq_eq_false_iff_ne]; exact e0
  have y2 : (E != 0) = true := by rw [bne_iff_ne]; exact e0
  go_enter Try.func7, Try.ntmps7
  go_wp2_with fail
  obtain ⟨w1, hw⟩ : ∃ w1, w1 = (w.alloc (.cells #[.int .i64 r.t.ser, .int .i64 r.t.kind, .int .i64 r.t.frm, .int .i64 r.t.till, .int .i64 r.t.cls, .int .i64 r.t.card, .int .i64 r.t.seat, .int .i64 r.t.day, .int .i64 r.t.days, .int .i64 r.t.uses, .int .i64 r.t.epoch, .int .i64 r.key, .int .i64 r.left, .int .i64 r.inn, .int .i64 r.ver] 27)).alloc (.cells #[.int .i64 a, .int .i64 b] 25) := ⟨_, rfl⟩
  rw [← hw]
  have X1 : Hid (RBox w1 w.heap.size r) := Lib.hid (by rw [hw]; exact (RBox.new w r).alloc _)
  have X2 : Hid (JBox w1 (w.heap.size + 1) a b) := Lib.hid (by rw [hw, show w.heap.size + 1 = (w.alloc (.cells #[.int .i64 r.t.ser, .int .i64 r.t.kind, .int .i64 r.t.frm, .int .i64 r.t.till, .int .i64 r.t.cls, .int .i64 r.t.card, .int .i64 r.t.seat, .int .i64 r.t.day, .int .i64 r.t.days, .int .i64 r.t.uses, .int .i64 r.t.epoch, .int .i64 r.key, .int .i64 r.left, .int .i64 r.inn, .int .i64 r.ver] 27)).heap.size by simp]; exact JBox.new _ a b)
  replace HBL : Hid (Below w.heap.size w w1) := Lib.hid (by rw [hw]; exact ((Below.refl _ _).alloc (Nat.le_refl _) _).alloc (by simp) _)
  clear hw
  refine (lput_any r HI.out E p HE.out w1).mono ?_
  rintro e w2 ⟨AP1, cP1, rfl, hs, hb⟩
  replace X1 := Lib.hid (X1.out.next hb)
  replace X2 := Lib.hid (X2.out.next hb)
  replace HBL := Lib.hid (HBL.out.trans (hb.mono HBL.out.size))
  have P1 := Lib.hid hs
  clear hb hs
  obtain ⟨c0, c1, c2, c3, c4, c5, c6, c7, c8, c9, c10, c11, c12, c13, c14⟩ := X1.out.cells
  obtain ⟨d0, d1⟩ := X2.out.cells
  have f12 := X1.out.frozen 12
  have f13 := X1.out.frozen 13
  go_wp2_with fail
  obtain ⟨w3, hw⟩ : ∃ w3, w3 = (w2.setCell ⟨w.heap.size, 12, none⟩ (.int .i64 a)).setCell ⟨w.heap.size, 13, none⟩ (.int .i64 b) := ⟨_, rfl⟩
  rw [← hw]
  clear c0 c1 c2 c3 c4 c5 c6 c7 c8 c9 c10 c11 c12 c13 c14 d0 d1 f12 f13
  have X1' : Hid (RBox w3 w.heap.size (⟨r.t, r.key, a, b, r.ver⟩ : Rg)) := Lib.hid (by rw [hw]; exact rbox_jour X1.out a b)
  have X2' : Hid (JBox w3 (w.heap.size + 1) a b) := Lib.hid (by rw [hw]; exact (heap_setCell_other _ _ _ _ (by simp)).trans ((heap_setCell_other _ _ _ _ (by simp)).trans X2.out))
  have P1' : Hid (Bs w3 w3.heap.size p AP1 cP1) := Lib.hid (by rw [hw]; have := bs_apart13 (o := 13) (v := .int .i64 b) (bs_apart13 (o := 12) (v := .int .i64 a) P1.out X1.out) (show RBox (w2.setCell ⟨w.heap.size, 12, none⟩ (.int .i64 a)) w.heap.size ⟨r.t, r.key, a, r.inn, r.ver⟩ from heap_setCell_same w2 _ 12 _ _ _ X1.out); simpa using this)
  replace HBL : Hid (Below w.heap.size w w3) := Lib.hid (by rw [hw]; exact (HBL.out.setCell (p := ⟨w.heap.size, 12, none⟩) (Nat.le_refl _) _).setCell (p := ⟨w.heap.size, 13, none⟩) (Nat.le_refl _) _)
  clear hw X1 X2 P1
  refine (lput_any (⟨r.t, r.key, a, b, r.ver⟩ : Rg) HI2.out F q HF.out w3).mono ?_
  rintro e w4 ⟨AP2, cP2, rfl, hs, hb⟩
  replace X1' := Lib.hid (X1'.out.next hb)
  replace X2' := Lib.hid (X2'.out.next hb)
  replace P1' := Lib.hid (P1'.out.next hb)
  replace HBL := Lib.hid (HBL.out.trans (hb.mono HBL.out.size))
  have P2 := Lib.hid hs
  clear hb hs
  go_wp2_with fail
  refine (C w4).mono ?_
  rintro e w5 ⟨rfl, hb⟩
  replace X1' := Lib.hid (X1'.out.next hb)
  replace X2' := Lib.hid (X2'.out.next hb)
  replace P1' := Lib.hid (P1'.out.next hb)
  replace P2 := Lib.hid (P2.out.next hb)
  replace HBL := Lib.hid (HBL.out.trans (hb.mono HBL.out.size))
  clear hb
  go_wp2
  go_ret
  exact ⟨rfl, HBL.out⟩
set_option maxRecDepth 100000 in
set_option maxHeartbeats 1600000 in
theorem ljo_2 (C : LaidOK) (r : Rg) (hin : InR r) (a b : Int) (hja : In64 a) (hjb : In64 b) (E F : Int) (p q : List Nat) (hE : lputX r = (E, p)) (hF : lputX (⟨r.t, r.key, a, b, r.ver⟩ : Rg) = (F, q)) (w : World)  (e0 : E = 0) (f0 : F ≠ 0) : Calls Try.prog 7 #[.agg #[.int .i64 r.t.ser, .int .i64 r.t.kind, .int .i64 r.t.frm, .int .i64 r.t.till, .int .i64 r.t.cls, .int .i64 r.t.card, .int .i64 r.t.seat, .int .i64 r.t.day, .int .i64 r.t.days, .int .i64 r.t.uses, .int .i64 r.t.epoch, .int .i64 r.key, .int .i64 r.left, .int .i64 r.inn, .int .i64 r.ver], .agg #[.int .i64 a, .int .i64 b]] w fun e w' => e = .returned (.bool true) ∧ Below w.heap.size w w' := by
  have HBL := Lib.hid (Below.refl w.heap.size w)
  have HE := Lib.hid hE
  have HF := Lib.hid hF
  have HI := Lib.hid hin
  have HI2 := Lib.hid (in_jour hin hja hjb)
  clear hE hF hin hja hjb
  subst e0
  have y1 : (F == 0) = false := by rw [beq_eq_false_iff_ne]; exact f0
  have y2 : (F != 0) = true := by rw [bne_iff_ne]; exact f0
  go_enter Try.func7, Try.ntmps7
  go_wp2_with fail
  obtain ⟨w1, hw⟩ : ∃ w1, w1 = (w.alloc (.cells #[.int .i64 r.t.ser, .int .i64 r.t.kind, .int .i64 r.t.frm, .int .i64 r.t.till, .int .i64 r.t.cls, .int .i64 r.t.card, .int .i64 r.t.seat, .int .i64 r.t.day, .int .i64 r.t.days, .int .i64 r.t.uses, .int .i64 r.t.epoch, .int .i64 r.key, .int .i64 r.left, .int .i64 r.inn, .int .i64 r.ver] 27)).alloc (.cells #[.int .i64 a, .int .i64 b] 25) := ⟨_, rfl⟩
  rw [← hw]
  have X1 : Hid (RBox w1 w.heap.size r) := Lib.hid (by rw [hw]; exact (RBox.new w r).alloc _)
  have X2 : Hid (JBox w1 (w.heap.size + 1) a b) := Lib.hid (by rw [hw, show w.heap.size + 1 = (w.alloc (.cells #[.int .i64 r.t.ser, .int .i64 r.t.kind, .int .i64 r.t.frm, .int .i64 r.t.till, .int .i64 r.t.cls, .int .i64 r.t.card, .int .i64 r.t.seat, .int .i64 r.t.day, .int .i64 r.t.days, .int .i64 r.t.uses, .int .i64 r.t.epoch, .int .i64 r.key, .int .i64 r.left, .int .i64 r.inn, .int .i64 r.ver] 27)).heap.size by simp]; exact JBox.new _ a b)
  replace HBL : Hid (Below w.heap.size w w1) := Lib.hid (by rw [hw]; exact ((Below.refl _ _).alloc (Nat.le_refl _) _).alloc (by simp) _)
  clear hw
  refine (lput_any r HI.out 0 p HE.out w1).mono ?_
  rintro e w2 ⟨AP1, cP1, rfl, hs, hb⟩
  replace X1 := Lib.hid (X1.out.next hb)
  replace X2 := Lib.hid (X2.out.next hb)
  replace HBL := Lib.hid (HBL.out.trans (hb.mono HBL.out.size))
  have P1 := Lib.hid hs
  clear hb hs
  obtain ⟨c0, c1, c2, c3, c4, c5, c6, c7, c8, c9, c10, c11, c12, c13, c14⟩ := X1.out.cells
  obtain ⟨d0, d1⟩ := X2.out.cells
  have f12 := X1.out.frozen 12
  have f13 := X1.out.frozen 13
  go_wp2_with fail
  obtain ⟨w3, hw⟩ : ∃ w3, w3 = (w2.setCell ⟨w.heap.size, 12, none⟩ (.int .i64 a)).setCell ⟨w.heap.size, 13, none⟩ (.int .i64 b) := ⟨_, rfl⟩
  rw [← hw]
  clear c0 c1 c2 c3 c4 c5 c6 c7 c8 c9 c10 c11 c12 c13 c14 d0 d1 f12 f13
  have X1' : Hid (RBox w3 w.heap.size (⟨r.t, r.key, a, b, r.ver⟩ : Rg)) := Lib.hid (by rw [hw]; exact rbox_jour X1.out a b)
  have X2' : Hid (JBox w3 (w.heap.size + 1) a b) := Lib.hid (by rw [hw]; exact (heap_setCell_other _ _ _ _ (by simp)).trans ((heap_setCell_other _ _ _ _ (by simp)).trans X2.out))
  have P1' : Hid (Bs w3 w3.heap.size p AP1 cP1) := Lib.hid (by rw [hw]; have := bs_apart13 (o := 13) (v := .int .i64 b) (bs_apart13 (o := 12) (v := .int .i64 a) P1.out X1.out) (show RBox (w2.setCell ⟨w.heap.size, 12, none⟩ (.int .i64 a)) w.heap.size ⟨r.t, r.key, a, r.inn, r.ver⟩ from heap_setCell_same w2 _ 12 _ _ _ X1.out); simpa using this)
  replace HBL : Hid (Below w.heap.size w w3) := Lib.hid (by rw [hw]; exact (HBL.out.setCell (p := ⟨w.heap.size, 12, none⟩) (Nat.le_refl _) _).setCell (p := ⟨w.heap.size, 13, none⟩) (Nat.le_refl _) _)
  clear hw X1 X2 P1
  refine (lput_any (⟨r.t, r.key, a, b, r.ver⟩ : Rg) HI2.out F q HF.out w3).mono ?_
  rintro e w4 ⟨AP2, cP2, rfl, hs, hb⟩
  replace X1' := Lib.hid (X1'.out.next hb)
  replace X2' := Lib.hid (X2'.out.next hb)
  replace P1' := Lib.hid (P1'.out.next hb)
  replace HBL := Lib.hid (HBL.out.trans (hb.mono HBL.out.size))
  have P2 := Lib.hid hs
  clear hb hs
  go_wp2_with fail
  refine (C w4).mono ?_
  rintro e w5 ⟨rfl, hb⟩
  replace X1' := Lib.hid (X1'.out.next hb)
  replace X2' := Lib.hid (X2'.out.next hb)
  replace P1' := Lib.hid (P1'.out.next hb)
  replace P2 := Lib.hid (P2.out.next hb)
  replace HBL := Lib.hid (HBL.out.trans (hb.mono HBL.out.size))
  clear hb
  go_wp2
  go_ret
  exact ⟨rfl, HBL.out⟩
end Go.Proofs.Ytpeccmcojocgkaa
