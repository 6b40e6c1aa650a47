/-
  Contract for the laws' constant check of layer 13. Conditions: none.
-/
import Derived.Test.YtpeccmcojocgkaaLayC
import Derived.Test.YtpeccmcojocgkaaLayPPut
import Derived.Test.YtpeccmcojocgkaaLayPGet
import Derived.Deep.RegionHeld3
namespace Go.Proofs.Ytpeccmcojocgkaa
set_option linter.unusedVariables false
open Go.ChangeShapes Go.WideShapes Go.ChangeAt Go.RowKit

/-- A row of bytes is no block of ints: a store into the one leaves the other. -/
theorem bs_apart {w : World} {B X o : Nat} {s : List Nat} {A : Option Addr} {c : Nat} {r : Rg} {v : Value} (h : Bs w B s A c) (hX : RBox w X r) : Bs (w.setCell ⟨X, o, none⟩ v) B s A c := by
  refine ⟨fun k u hu => ?_, h.nil, h.len, h.cap, h.lt⟩
  obtain ⟨ad, e, hlt, hc⟩ := h.rd k u hu
  refine ⟨ad, e, hlt, ?_⟩
  by_cases hb : X = (ad.add k).block
  · exfalso
    obtain ⟨x, hx⟩ : ∃ x : Nat, u = .int .u8 x := by
      simp only [U8, List.getElem?_map, Option.map_eq_some_iff] at hu
      obtain ⟨x, _, rfl⟩ := hu
      exact ⟨x, rfl⟩
    subst hx
    unfold World.cell? at hc
    rw [← hb, hX] at hc
    simp only at hc
    simp at hc
    have hm := List.mem_of_getElem? hc.2
    simp at hm
  · exact (World.cell?_setCell_far _ _ _ _ hb).trans hc
set_option maxRecDepth 100000 in
set_option maxHeartbeats 3200000 in
theorem laid_gen (q0 : Rg) (d : List Nat) (hp : ∀ w : World, Calls Try.prog 25 #[] w fun e w' => e = .returned (.agg #[.int .i64 q0.t.ser, .int .i64 q0.t.kind, .int .i64 q0.t.frm, .int .i64 q0.t.till, .int .i64 q0.t.cls, .int .i64 q0.t.card, .int .i64 q0.t.seat, .int .i64 q0.t.day, .int .i64 q0.t.days, .int .i64 q0.t.uses, .int .i64 q0.t.epoch, .int .i64 q0.key, .int .i64 q0.left, .int .i64 q0.inn, .int .i64 q0.ver]) ∧ Below w.heap.size w w') (hP0 : lputX q0 = (0, d)) (hG0 : lgetX d = (0, q0)) (hP1 : lputX (⟨⟨q0.t.ser, q0.t.kind, q0.t.frm, q0.t.till, q0.t.cls, q0.t.card, 1, q0.t.day, q0.t.days, q0.t.uses, q0.t.epoch⟩, q0.key, q0.left, q0.inn, q0.ver⟩ : Rg) = (18, [])) (hP2 : lputX (⟨⟨q0.t.ser, q0.t.kind, q0.t.frm, q0.t.till, q0.t.cls, q0.t.card, 1, q0.t.day, q0.t.days, q0.t.uses, q0.t.epoch⟩, q0.key, 11, q0.inn, q0.ver⟩ : Rg) = (1, [])) (hi0 : InR q0) (hi1 : InR (⟨⟨q0.t.ser, q0.t.kind, q0.t.frm, q0.t.till, q0.t.cls, q0.t.card, 1, q0.t.day, q0.t.days, q0.t.uses, q0.t.epoch⟩, q0.key, q0.left, q0.inn, q0.ver⟩ : Rg)) (hi2 : InR (⟨⟨q0.t.ser, q0.t.kind, q0.t.frm, q0.t.till, q0.t.cls, q0.t.card, 1, q0.t.day, q0.t.days, q0.t.uses, q0.t.epoch⟩, q0.key, 11, q0.inn, q0.ver⟩ : Rg))
    (hS1 : suitB q0.t.uses 10 40 = true) (hS2 : suitB q0.t.uses 11 q0.inn = false) (hG1 : lgetX [5, 1] = (8, zeroR)) (hG2 : lgetX [1, 1] = (14, zeroR)) (hW1 : widE 3 = 0) (l3 : List Int) (hW2 : widL 3 = l3) (hl3 : 12 = l3.length) (hlit : (#[.int .u8 4, .int .u8 0, .int .u8 0, .int .u8 0, .int .u8 0, .int .u8 0, .int .u8 4, .int .u8 2, .int .u8 2, .int .u8 1, .int .u8 0, .int .u8 0, .int .u8 1, .int .u8 0, .int .u8 0, .int .u8 0, .int .u8 3, .int .u8 0, .int .u8 2, .int .u8 0, .int .u8 3, .int .u8 2, .int .u8 0, .int .u8 1, .int .u8 0, .int .u8 0, .int .u8 9, .int .u8 0, .int .u8 4, .int .u8 0, .int .u8 5] : Array Value).toList = U8 d) (hdl : 31 = d.length) (hd9 : ∀ x ∈ d, x < 256) (w : World) : Calls Try.prog 12 #[] w fun e w' => e = .returned (.bool true) ∧ Below w.heap.size w w' := by
  have IP := Lib.hid hp
  have I0 := Lib.hid hP0
  have I1 := Lib.hid hG0
  have I2 := Lib.hid hP1
  have I3 := Lib.hid hP2
  have J0 := Lib.hid hi0
  have J1 := Lib.hid hi1
  have J2 := Lib.hid hi2
  have K1 := Lib.hid hS1
  have K2 := Lib.hid hS2
  have K3 := Lib.hid hG1
  have K4 := Lib.hid hG2
  have K5 := Lib.hid hW1
  have K6 := Lib.hid hW2
  have K7 := Lib.hid hl3
  have K8 := Lib.hid hlit
  have K9 := Lib.hid hdl
  have K10 := Lib.hid hd9
  clear hp hP0 hG0 hP1 hP2 hi0 hi1 hi2 hS1 hS2 hG1 hG2 hW1 hW2 hl3 hlit hdl hd9
  have HBL := Lib.hid (Below.refl w.heap.size w)
  go_enter Try.func12, Try.ntmps12
  go_wp2_with fail
  refine (IP.out w).mono ?_
  rintro e w1 ⟨rfl, hb⟩
  replace HBL := Lib.hid (HBL.out.trans (hb.mono HBL.out.size))
  clear hb
  have HB0 := HBL
  go_wp2_with fail
  obtain ⟨w2, hw⟩ : ∃ w2, w2 = w1.alloc (.cells #[.int .i64 q0.t.ser, .int .i64 q0.t.kind, .int .i64 q0.t.frm, .int .i64 q0.t.till, .int .i64 q0.t.cls, .int .i64 q0.t.card, .int .i64 q0.t.seat, .int .i64 q0.t.day, .int .i64 q0.t.days, .int .i64 q0.t.uses, .int .i64 q0.t.epoch, .int .i64 q0.key, .int .i64 q0.left, .int .i64 q0.inn, .int .i64 q0.ver] 27) := ⟨_, rfl⟩
  rw [← hw]
  have HX1 : Hid (RBox w2 w1.heap.size q0) := Lib.hid (by rw [hw]; exact RBox.new w1 q0)
  replace HBL : Hid (Below w.heap.size w w2) := Lib.hid (by rw [hw]; exact HBL.out.trans ((below_lit w1 _ _).mono HBL.out.size))
  clear hw
  obtain ⟨B1, hB1⟩ : ∃ B, B = w1.heap.size := ⟨_, rfl⟩
  rw [← hB1] at HX1 ⊢
  have HBW : Hid (w.heap.size ≤ B1) := Lib.hid (by rw [hB1]; exact HB0.out.size)
  clear hB1
  refine (lput_any q0 J0.out 0 d I0.out w2).mono ?_
  rintro e w3 ⟨AL, cL, rfl, hs, hb⟩
  have HL := Lib.hid hs
  replace HX1 := Lib.hid (HX1.out.next hb)
  replace HBL := Lib.hid (HBL.out.trans (hb.mono HBL.out.size))
  clear hs hb
  go_wp2_with fail
  refine (lget_any d _ rfl 0 q0 I1.out AL cL w3 HL.out).mono ?_
  rintro e w4 ⟨rfl, hb⟩
  replace HL := Lib.hid (HL.out.next hb)
  replace HX1 := Lib.hid (HX1.out.next hb)
  replace HBL := Lib.hid (HBL.out.trans (hb.mono HBL.out.size))
  clear hb
  have hx := HX1.out.alloc (.cells #[.int .i64 q0.t.ser, .int .i64 q0.t.kind, .int .i64 q0.t.frm, .int .i64 q0.t.till, .int .i64 q0.t.cls, .int .i64 q0.t.card, .int .i64 q0.t.seat, .int .i64 q0.t.day, .int .i64 q0.t.days, .int .i64 q0.t.uses, .int .i64 q0.t.epoch, .int .i64 q0.key, .int .i64 q0.left, .int .i64 q0.inn, .int .i64 q0.ver] 27)
  obtain ⟨c0, c1, c2, c3, c4, c5, c6, c7, c8, c9, c10, c11, c12, c13, c14⟩ := hx.cells
  have hf := hx.frozen 6
  clear hx
  go_wp2_with fail
  obtain ⟨B4, hB4⟩ : ∃ B, B = w4.heap.size := ⟨_, rfl⟩
  have hlt1 : B1 < B4 := by rw [hB4]; exact HX1.out.lt
  obtain ⟨w5, hw⟩ : ∃ w5, w5 = (w4.alloc (.cells #[.int .i64 q0.t.ser, .int .i64 q0.t.kind, .int .i64 q0.t.frm, .int .i64 q0.t.till, .int .i64 q0.t.cls, .int .i64 q0.t.card, .int .i64 q0.t.seat, .int .i64 q0.t.day, .int .i64 q0.t.days, .int .i64 q0.t.uses, .int .i64 q0.t.epoch, .int .i64 q0.key, .int .i64 q0.left, .int .i64 q0.inn, .int .i64 q0.ver] 27)).setCell ⟨B1, 6, none⟩ (.int .i64 1) := ⟨_, rfl⟩
  rw [← hw, ← hB4]
  have hX1a := HX1.out.alloc (.cells #[.int .i64 q0.t.ser, .int .i64 q0.t.kind, .int .i64 q0.t.frm, .int .i64 q0.t.till, .int .i64 q0.t.cls, .int .i64 q0.t.card, .int .i64 q0.t.seat, .int .i64 q0.t.day, .int .i64 q0.t.days, .int .i64 q0.t.uses, .int .i64 q0.t.epoch, .int .i64 q0.key, .int .i64 q0.left, .int .i64 q0.inn, .int .i64 q0.ver] 27)
  have hX5 : RBox w5 B1 (⟨⟨q0.t.ser, q0.t.kind, q0.t.frm, q0.t.till, q0.t.cls, q0.t.card, 1, q0.t.day, q0.t.days, q0.t.uses, q0.t.epoch⟩, q0.key, q0.left, q0.inn, q0.ver⟩ : Rg) := by rw [hw]; exact heap_setCell_same _ B1 6 _ _ _ hX1a
  have hX4 : RBox w5 B4 q0 := by rw [hw, hB4]; exact (heap_setCell_other _ _ _ _ (by simp; omega)).trans (RBox.new w4 q0)
  have hL5 : Bs w5 w5.heap.size d AL cL := by rw [hw]; have := bs_apart (o := 6) (v := .int .i64 1) (HL.out.next (below_lit w4 #[.int .i64 q0.t.ser, .int .i64 q0.t.kind, .int .i64 q0.t.frm, .int .i64 q0.t.till, .int .i64 q0.t.cls, .int .i64 q0.t.card, .int .i64 q0.t.seat, .int .i64 q0.t.day, .int .i64 q0.t.days, .int .i64 q0.t.uses, .int .i64 q0.t.epoch, .int .i64 q0.key, .int .i64 q0.left, .int .i64 q0.inn, .int .i64 q0.ver] 27)) hX1a; simpa using this
  have hB5 : Below w.heap.size w w5 := by rw [hw]; exact (HBL.out.trans ((below_lit w4 _ _).mono HBL.out.size)).setCell (p := ⟨B1, 6, none⟩) HBW.out _
  clear hX1a
  replace HX1 := Lib.hid hX5
  have HX4 := Lib.hid hX4
  replace HL := Lib.hid hL5
  replace HBL := Lib.hid hB5
  clear hX5 hX4 hL5 hB5 hw hB4 c0 c1 c2 c3 c4 c5 c6 c7 c8 c9 c10 c11 c12 c13 c14 hf
  refine (lput_any (⟨⟨q0.t.ser, q0.t.kind, q0.t.frm, q0.t.till, q0.t.cls, q0.t.card, 1, q0.t.day, q0.t.days, q0.t.uses, q0.t.epoch⟩, q0.key, q0.left, q0.inn, q0.ver⟩ : Rg) J1.out 18 [] I2.out w5).mono ?_
  rintro e w6 ⟨AG, cG, rfl, -, hb⟩
  replace HX1 := Lib.hid (HX1.out.next hb)
  replace HX4 := Lib.hid (HX4.out.next hb)
  replace HL := Lib.hid (HL.out.next hb)
  replace HBL := Lib.hid (HBL.out.trans (hb.mono HBL.out.size))
  clear hb
  obtain ⟨c0, c1, c2, c3, c4, c5, c6, c7, c8, c9, c10, c11, c12, c13, c14⟩ := HX1.out.cells
  have hf := HX1.out.frozen 12
  go_wp2_with fail
  obtain ⟨w7, hw⟩ : ∃ w7, w7 = w6.setCell ⟨B1, 12, none⟩ (.int .i64 11) := ⟨_, rfl⟩
  rw [← hw]
  have hX7 : RBox w7 B1 (⟨⟨q0.t.ser, q0.t.kind, q0.t.frm, q0.t.till, q0.t.cls, q0.t.card, 1, q0.t.day, q0.t.days, q0.t.uses, q0.t.epoch⟩, q0.key, 11, q0.inn, q0.ver⟩ : Rg) := by rw [hw]; exact heap_setCell_same _ B1 12 _ _ _ HX1.out
  have hX4 : RBox w7 B4 q0 := by rw [hw]; exact (heap_setCell_other _ _ _ _ (by simp; omega)).trans HX4.out
  have hL7 : Bs w7 w7.heap.size d AL cL := by rw [hw]; have := bs_apart (o := 12) (v := .int .i64 11) HL.out HX1.out; simpa using this
  have hB7 : Below w.heap.size w w7 := by rw [hw]; exact HBL.out.setCell (p := ⟨B1, 12, none⟩) HBW.out _
  replace HX1 := Lib.hid hX7
  replace HX4 := Lib.hid hX4
  replace HL := Lib.hid hL7
  replace HBL := Lib.hid hB7
  clear hX7 hX4 hL7 hB7 hw c0 c1 c2 c3 c4 c5 c6 c7 c8 c9 c10 c11 c12 c13 c14 hf
  refine (lput_any (⟨⟨q0.t.ser, q0.t.kind, q0.t.frm, q0.t.till, q0.t.cls, q0.t.card, 1, q0.t.day, q0.t.days, q0.t.uses, q0.t.epoch⟩, q0.key, 11, q0.inn, q0.ver⟩ : Rg) J2.out 1 [] I3.out w7).mono ?_
  rintro e w8 ⟨AH, cH, rfl, -, hb⟩
  replace HX1 := Lib.hid (HX1.out.next hb)
  replace HX4 := Lib.hid (HX4.out.next hb)
  replace HL := Lib.hid (HL.out.next hb)
  replace HBL := Lib.hid (HBL.out.trans (hb.mono HBL.out.size))
  clear hb
  go_wp2_with fail
  refine (lget_any [5, 1] 2 rfl 8 zeroR K3.out _ 2 _ (bs_lit w8 _ [5, 1] 2 rfl rfl (by omega) (by decide))).mono ?_
  rintro e w9 ⟨rfl, hb⟩
  have hb8 : Below w8.heap.size w8 w9 := below_after _ _ hb
  replace HX1 := Lib.hid (HX1.out.next hb8)
  replace HX4 := Lib.hid (HX4.out.next hb8)
  replace HL := Lib.hid (HL.out.next hb8)
  replace HBL := Lib.hid (HBL.out.trans (hb8.mono HBL.out.size))
  clear hb hb8
  have hx : Bs ((w9.alloc (.cells #[.int .i64 zeroR.t.ser, .int .i64 zeroR.t.kind, .int .i64 zeroR.t.frm, .int .i64 zeroR.t.till, .int .i64 zeroR.t.cls, .int .i64 zeroR.t.card, .int .i64 zeroR.t.seat, .int .i64 zeroR.t.day, .int .i64 zeroR.t.days, .int .i64 zeroR.t.uses, .int .i64 zeroR.t.epoch, .int .i64 zeroR.key, .int .i64 zeroR.left, .int .i64 zeroR.inn, .int .i64 zeroR.ver] 27)).alloc (.cells #[.int .u8 1, .int .u8 1] 5)) ((w9.alloc (.cells #[.int .i64 zeroR.t.ser, .int .i64 zeroR.t.kind, .int .i64 zeroR.t.frm, .int .i64 zeroR.t.till, .int .i64 zeroR.t.cls, .int .i64 zeroR.t.card, .int .i64 zeroR.t.seat, .int .i64 zeroR.t.day, .int .i64 zeroR.t.days, .int .i64 zeroR.t.uses, .int .i64 zeroR.t.epoch, .int .i64 zeroR.key, .int .i64 zeroR.left, .int .i64 zeroR.inn, .int .i64 zeroR.ver] 27)).alloc (.cells #[.int .u8 1, .int .u8 1] 5)).heap.size [1, 1] (some ⟨w9.heap.size + 1, 0, none⟩) 2 := by
    have := bs_lit (w9.alloc (.cells #[.int .i64 zeroR.t.ser, .int .i64 zeroR.t.kind, .int .i64 zeroR.t.frm, .int .i64 zeroR.t.till, .int .i64 zeroR.t.cls, .int .i64 zeroR.t.card, .int .i64 zeroR.t.seat, .int .i64 zeroR.t.day, .int .i64 zeroR.t.days, .int .i64 zeroR.t.uses, .int .i64 zeroR.t.epoch, .int .i64 zeroR.key, .int .i64 zeroR.left, .int .i64 zeroR.inn, .int .i64 zeroR.ver] 27)) #[.int .u8 1, .int .u8 1] [1, 1] 2 rfl rfl (by omega) (by decide)
    rwa [show (w9.alloc (.cells #[.int .i64 zeroR.t.ser, .int .i64 zeroR.t.kind, .int .i64 zeroR.t.frm, .int .i64 zeroR.t.till, .int .i64 zeroR.t.cls, .int .i64 zeroR.t.card, .int .i64 zeroR.t.seat, .int .i64 zeroR.t.day, .int .i64 zeroR.t.days, .int .i64 zeroR.t.uses, .int .i64 zeroR.t.epoch, .int .i64 zeroR.key, .int .i64 zeroR.left, .int .i64 zeroR.inn, .int .i64 zeroR.ver] 27)).heap.size = w9.heap.size + 1 by simp] at this
  have HX := Lib.hid hx
  clear hx
  go_wp2_with fail
  refine (lget_any [1, 1] 2 rfl 14 zeroR K4.out _ 2 _ HX.out).mono ?_
  rintro e w10 ⟨rfl, hb⟩
  have hb9 : Below w9.heap.size w9 w10 := below_after _ _ (below_after _ _ hb)
  replace HX1 := Lib.hid (HX1.out.next hb9)
  replace HX4 := Lib.hid (HX4.out.next hb9)
  replace HL := Lib.hid (HL.out.next hb9)
  replace HBL := Lib.hid (HBL.out.trans (hb9.mono HBL.out.size))
  clear hb hb9 HX
  go_wp2_with fail
  refine (pwidths_any 3 0 l3 12 K7.out K5.out K6.out _).mono ?_
  rintro e w11 ⟨AW, cW, rfl, -, hb⟩
  have hb10 : Below w10.heap.size w10 w11 := below_after _ _ hb
  replace HX1 := Lib.hid (HX1.out.next hb10)
  replace HX4 := Lib.hid (HX4.out.next hb10)
  replace HL := Lib.hid (HL.out.next hb10)
  replace HBL := Lib.hid (HBL.out.trans (hb10.mono HBL.out.size))
  clear hb hb10
  go_wp2_with fail
  have heq := read_eq q0 q0
  rw [rgB_self] at heq
  refine wp_region_held_drew (S := fun w' => RBox w' B4 q0 ∧ RBox w' B1 (⟨⟨q0.t.ser, q0.t.kind, q0.t.frm, q0.t.till, q0.t.cls, q0.t.card, 1, q0.t.day, q0.t.days, q0.t.uses, q0.t.epoch⟩, q0.key, 11, q0.inn, q0.ver⟩ : Rg)) (by as_aux_lemma => kernel_rfl) (show RBox w11.drew B4 q0 ∧ RBox w11.drew B1 (⟨⟨q0.t.ser, q0.t.kind, q0.t.frm, q0.t.till, q0.t.cls, q0.t.card, 1, q0.t.day, q0.t.days, q0.t.uses, q0.t.epoch⟩, q0.key, 11, q0.inn, q0.ver⟩ : Rg) from ⟨HX4.out, HX1.out⟩) (fun hHeld => ?_)
  refine wpAnyH_take (i := 0) (oi := ⟨some 55, _, _, _, _, _⟩) (v := ?_) rfl (by as_aux_lemma => kernel_rfl) (by as_aux_lemma => kernel_rfl) (by as_aux_lemma => kernel_rfl) (fun _ _ _ h => h) (Or.inl ⟨by rfl, ?_⟩) hHeld ?_
  rotate_left
  · intro w hSw
    go_simp
    first | done | with_reducible rfl
  try simp only [Act.put, List.setIfInBounds_toArray, List.set_cons_zero, List.set_cons_succ]
  refine wpAnyH_take (i := 1) (oi := ⟨some 56, _, _, _, _, _⟩) (v := ?_) rfl (by as_aux_lemma => kernel_rfl) (by as_aux_lemma => kernel_rfl) (by as_aux_lemma => kernel_rfl) (fun _ _ _ h => h) (Or.inl ⟨by rfl, ?_⟩) hHeld ?_
  rotate_left
  · intro w hSw
    go_simp
    first | done | with_reducible rfl
  try simp only [Act.put, List.setIfInBounds_toArray, List.set_cons_zero, List.set_cons_succ]
  refine wpAnyH_take (i := 2) (oi := ⟨some 57, _, _, _, _, _⟩) (v := ?_) rfl (by as_aux_lemma => kernel_rfl) (by as_aux_lemma => kernel_rfl) (by as_aux_lemma => kernel_rfl) (fun _ _ _ h => h) (Or.inl ⟨by rfl, ?_⟩) hHeld ?_
  rotate_left
  · intro w hSw
    go_simp
    first | done | with_reducible rfl
  try simp only [Act.put, List.setIfInBounds_toArray, List.set_cons_zero, List.set_cons_succ]
  refine wpAnyH_take (i := 3) (oi := ⟨some 58, _, _, _, _, _⟩) (v := ?_) rfl (by as_aux_lemma => kernel_rfl) (by as_aux_lemma => kernel_rfl) (by as_aux_lemma => kernel_rfl) (fun _ _ _ h => h) (Or.inl ⟨by rfl, ?_⟩) hHeld ?_
  rotate_left
  · intro w hSw
    go_simp
    first | done | with_reducible rfl
  try simp only [Act.put, List.setIfInBounds_toArray, List.set_cons_zero, List.set_cons_succ]
  refine wpAnyH_ready (rs := [4]) (by as_aux_lemma => kernel_rfl) (by simp) ?_
  refine AllReadyH.cons (o := ⟨some 59, _, _, _, _, _⟩) rfl (fun K hK => ?_) AllReadyH.nil
  go_simp
  have HBs := Lib.hid ((bs_lit w11 #[.int .u8 4, .int .u8 0, .int .u8 0, .int .u8 0, .int .u8 0, .int .u8 0, .int .u8 4, .int .u8 2, .int .u8 2, .int .u8 1, .int .u8 0, .int .u8 0, .int .u8 1, .int .u8 0, .int .u8 0, .int .u8 0, .int .u8 3, .int .u8 0, .int .u8 2, .int .u8 0, .int .u8 3, .int .u8 2, .int .u8 0, .int .u8 1, .int .u8 0, .int .u8 0, .int .u8 9, .int .u8 0, .int .u8 4, .int .u8 0, .int .u8 5] d 31 K8.out K9.out (by omega) K10.out).next (below_drewN (Below.refl _ _) 1))
  have hb : Below w11.heap.size w11 (w11.alloc (.cells #[.int .u8 4, .int .u8 0, .int .u8 0, .int .u8 0, .int .u8 0, .int .u8 0, .int .u8 4, .int .u8 2, .int .u8 2, .int .u8 1, .int .u8 0, .int .u8 0, .int .u8 1, .int .u8 0, .int .u8 0, .int .u8 0, .int .u8 3, .int .u8 0, .int .u8 2, .int .u8 0, .int .u8 3, .int .u8 2, .int .u8 0, .int .u8 1, .int .u8 0, .int .u8 0, .int .u8 9, .int .u8 0, .int .u8 4, .int .u8 0, .int .u8 5] 5)).drew := below_drewN (below_lit w11 _ _) 1
  replace HX1 := Lib.hid (HX1.out.next hb)
  replace HX4 := Lib.hid (HX4.out.next hb)
  replace HL := Lib.hid (HL.out.next hb)
  replace HBL := Lib.hid (HBL.out.trans (hb.mono HBL.out.size))
  clear hb
  refine hK.out _ _ ⟨HX4.out, HX1.out⟩ (fun hHeld => ?_)
  clear hK K
  try simp only [Act.put, List.setIfInBounds_toArray, List.set_cons_zero, List.set_cons_succ]
  refine wpAnyH_ready (rs := [5]) (by as_aux_lemma => kernel_rfl) (by simp) ?_
  refine AllReadyH.cons (o := ⟨some 60, .call _, _, _, _, _⟩) rfl (fun K hK => ?_) AllReadyH.nil
  go_simp
  go_at_call 13
  refine (same_true d d.length 31 rfl K9.out AL _ cL 31 _ HL.out HBs.out).mono ?_
  rintro e v ⟨rfl, hb⟩
  go_wp2_with fail
  replace HX1 := Lib.hid (HX1.out.next hb)
  replace HX4 := Lib.hid (HX4.out.next hb)
  replace HL := Lib.hid (HL.out.next hb)
  replace HBL := Lib.hid (HBL.out.trans (hb.mono HBL.out.size))
  clear hb
  refine hK.out _ _ ⟨HX4.out, HX1.out⟩ (fun hHeld => ?_)
  clear hK K
  try simp only [Act.put, List.setIfInBounds_toArray, List.set_cons_zero, List.set_cons_succ]
  refine wpAnyH_take (i := 6) (oi := ⟨some 61, _, _, _, _, _⟩) (v := ?_) rfl (by as_aux_lemma => kernel_rfl) (by as_aux_lemma => kernel_rfl) (by as_aux_lemma => kernel_rfl) (fun _ _ _ h => h) (Or.inl ⟨by rfl, ?_⟩) hHeld ?_
  rotate_left
  · intro w hSw
    go_simp
    first | done | with_reducible rfl
  try simp only [Act.put, List.setIfInBounds_toArray, List.set_cons_zero, List.set_cons_succ]
  refine wpAnyH_take (i := 7) (oi := ⟨some 62, _, _, _, _, _⟩) (v := ?_) rfl (by as_aux_lemma => kernel_rfl) (by as_aux_lemma => kernel_rfl) (by as_aux_lemma => kernel_rfl) (fun _ _ _ h => h) (Or.inl ⟨by rfl, ?_⟩) hHeld ?_
  rotate_left
  · intro w hSw
    go_simp
    first | done | with_reducible rfl
  try simp only [Act.put, List.setIfInBounds_toArray, List.set_cons_zero, List.set_cons_succ]
  refine wpAnyH_take (i := 8) (oi := ⟨some 63, _, _, _, _, _⟩) (v := ?_) rfl (by as_aux_lemma => kernel_rfl) (by as_aux_lemma => kernel_rfl) (by as_aux_lemma => kernel_rfl) (fun _ _ _ h => h) (Or.inl ⟨by rfl, ?_⟩) hHeld ?_
  rotate_left
  · intro w hSw
    go_simp
    first | done | with_reducible rfl
  try simp only [Act.put, List.setIfInBounds_toArray, List.set_cons_zero, List.set_cons_succ]
  refine wpAnyH_take (i := 9) (oi := ⟨some 64, _, _, _, _, _⟩) (v := ?_) rfl (by as_aux_lemma => kernel_rfl) (by as_aux_lemma => kernel_rfl) (by as_aux_lemma => kernel_rfl) (fun _ _ _ h => h) (Or.inl ⟨by rfl, ?_⟩) hHeld ?_
  rotate_left
  · intro w hSw
    go_simp
    first | done | with_reducible rfl
  try simp only [Act.put, List.setIfInBounds_toArray, List.set_cons_zero, List.set_cons_succ]
  refine wpAnyH_take (i := 10) (oi := ⟨some 65, _, _, _, _, _⟩) (v := ?_) rfl (by as_aux_lemma => kernel_rfl) (by as_aux_lemma => kernel_rfl) (by as_aux_lemma => kernel_rfl) (fun _ _ _ h => h) (Or.inl ⟨by rfl, ?_⟩) hHeld ?_
  rotate_left
  · intro w hSw
    go_simp
    first | done | with_reducible rfl
  try simp only [Act.put, List.setIfInBounds_toArray, List.set_cons_zero, List.set_cons_succ]
  refine wpAnyH_take (i := 11) (oi := ⟨some 66, _, _, _, _, _⟩) (v := ?_) rfl (by as_aux_lemma => kernel_rfl) (by as_aux_lemma => kernel_rfl) (by as_aux_lemma => kernel_rfl) (fun _ _ _ h => h) (Or.inl ⟨by rfl, ?_⟩) hHeld ?_
  rotate_left
  · intro w hSw
    go_simp
    first | done | with_reducible rfl
  try simp only [Act.put, List.setIfInBounds_toArray, List.set_cons_zero, List.set_cons_succ]
  refine wpAnyH_take (i := 12) (oi := ⟨some 67, _, _, _, _, _⟩) (v := ?_) rfl (by as_aux_lemma => kernel_rfl) (by as_aux_lemma => kernel_rfl) (by as_aux_lemma => kernel_rfl) (fun _ _ _ h => h) (Or.inl ⟨by rfl, ?_⟩) hHeld ?_
  rotate_left
  · intro w hSw
    go_simp
    first | done | with_reducible rfl
  try simp only [Act.put, List.setIfInBounds_toArray, List.set_cons_zero, List.set_cons_succ]
  refine wpAnyH_take (i := 13) (oi := ⟨some 68, _, _, _, _, _⟩) (v := ?_) rfl (by as_aux_lemma => kernel_rfl) (by as_aux_lemma => kernel_rfl) (by as_aux_lemma => kernel_rfl) (fun _ _ _ h => h) (Or.inl ⟨by rfl, ?_⟩) hHeld ?_
  rotate_left
  · intro w hSw
    obtain ⟨hS1, hS2⟩ := hSw
    obtain ⟨c0, c1, c2, c3, c4, c5, c6, c7, c8, c9, c10, c11, c12, c13, c14⟩ := hS1.cells
    obtain ⟨e0, e1, e2, e3, e4, e5, e6, e7, e8, e9, e10, e11, e12, e13, e14⟩ := hS2.cells
    go_simp
    first | done | with_reducible rfl
  try simp only [Act.put, List.setIfInBounds_toArray, List.set_cons_zero, List.set_cons_succ]
  refine wpAnyH_ready (rs := [14]) (by as_aux_lemma => kernel_rfl) (by simp) ?_
  refine AllReadyH.cons (o := ⟨some 69, .call _, _, _, _, _⟩) rfl (fun K hK => ?_) AllReadyH.nil
  go_simp
  go_at_call 25
  refine (IP.out _).mono ?_
  rintro e v ⟨rfl, hb⟩
  go_wp2_with fail
  replace HX1 := Lib.hid (HX1.out.next hb)
  replace HX4 := Lib.hid (HX4.out.next hb)
  replace HL := Lib.hid (HL.out.next hb)
  replace HBL := Lib.hid (HBL.out.trans (hb.mono HBL.out.size))
  clear hb
  refine hK.out _ _ ⟨HX4.out, HX1.out⟩ (fun hHeld => ?_)
  clear hK K
  try simp only [Act.put, List.setIfInBounds_toArray, List.set_cons_zero, List.set_cons_succ]
  refine wpAnyH_take (i := 15) (oi := ⟨some 70, _, _, _, _, _⟩) (v := .bool true) rfl (by as_aux_lemma => kernel_rfl) (by as_aux_lemma => kernel_rfl) (by as_aux_lemma => kernel_rfl) (fun _ _ _ h => h) (Or.inl ⟨by rfl, ?_⟩) hHeld ?_
  · intro w hSw
    go_simp
    first | done | omega | (simp [heq]; done) | (simp; omega)
  try simp only [Act.put, List.setIfInBounds_toArray, List.set_cons_zero, List.set_cons_succ]
  refine wpAnyH_take (i := 16) (oi := ⟨some 71, _, _, _, _, _⟩) (v := ?_) rfl (by as_aux_lemma => kernel_rfl) (by as_aux_lemma => kernel_rfl) (by as_aux_lemma => kernel_rfl) (fun _ _ _ h => h) (Or.inl ⟨by rfl, ?_⟩) hHeld ?_
  rotate_left
  · intro w hSw
    go_simp
    first | done | with_reducible rfl
  try simp only [Act.put, List.setIfInBounds_toArray, List.set_cons_zero, List.set_cons_succ]
  refine wpAnyH_take (i := 17) (oi := ⟨some 72, _, _, _, _, _⟩) (v := ?_) rfl (by as_aux_lemma => kernel_rfl) (by as_aux_lemma => kernel_rfl) (by as_aux_lemma => kernel_rfl) (fun _ _ _ h => h) (Or.inl ⟨by rfl, ?_⟩) hHeld ?_
  rotate_left
  · intro w hSw
    go_simp
    first | done | with_reducible rfl
  try simp only [Act.put, List.setIfInBounds_toArray, List.set_cons_zero, List.set_cons_succ]
  refine wpAnyH_take (i := 18) (oi := ⟨some 73, _, _, _, _, _⟩) (v := ?_) rfl (by as_aux_lemma => kernel_rfl) (by as_aux_lemma => kernel_rfl) (by as_aux_lemma => kernel_rfl) (fun _ _ _ h => h) (Or.inl ⟨by rfl, ?_⟩) hHeld ?_
  rotate_left
  · intro w hSw
    go_simp
    first | done | with_reducible rfl
  try simp only [Act.put, List.setIfInBounds_toArray, List.set_cons_zero, List.set_cons_succ]
  refine wpAnyH_take (i := 19) (oi := ⟨some 74, _, _, _, _, _⟩) (v := ?_) rfl (by as_aux_lemma => kernel_rfl) (by as_aux_lemma => kernel_rfl) (by as_aux_lemma => kernel_rfl) (fun _ _ _ h => h) (Or.inl ⟨by rfl, ?_⟩) hHeld ?_
  rotate_left
  · intro w hSw
    go_simp
    first | done | with_reducible rfl
  try simp only [Act.put, List.setIfInBounds_toArray, List.set_cons_zero, List.set_cons_succ]
  refine wpAnyH_take (i := 20) (oi := ⟨some 75, _, _, _, _, _⟩) (v := ?_) rfl (by as_aux_lemma => kernel_rfl) (by as_aux_lemma => kernel_rfl) (by as_aux_lemma => kernel_rfl) (fun _ _ _ h => h) (Or.inl ⟨by rfl, ?_⟩) hHeld ?_
  rotate_left
  · intro w hSw
    go_simp
    first | done | with_reducible rfl
  try simp only [Act.put, List.setIfInBounds_toArray, List.set_cons_zero, List.set_cons_succ]
  refine wpAnyH_take (i := 21) (oi := ⟨some 76, _, _, _, _, _⟩) (v := ?_) rfl (by as_aux_lemma => kernel_rfl) (by as_aux_lemma => kernel_rfl) (by as_aux_lemma => kernel_rfl) (fun _ _ _ h => h) (Or.inl ⟨by rfl, ?_⟩) hHeld ?_
  rotate_left
  · intro w hSw
    go_simp
    first | done | with_reducible rfl
  try simp only [Act.put, List.setIfInBounds_toArray, List.set_cons_zero, List.set_cons_succ]
  refine wpAnyH_take (i := 22) (oi := ⟨some 77, _, _, _, _, _⟩) (v := ?_) rfl (by as_aux_lemma => kernel_rfl) (by as_aux_lemma => kernel_rfl) (by as_aux_lemma => kernel_rfl) (fun _ _ _ h => h) (Or.inl ⟨by rfl, ?_⟩) hHeld ?_
  rotate_left
  · intro w hSw
    go_simp
    first | done | with_reducible rfl
  try simp only [Act.put, List.setIfInBounds_toArray, List.set_cons_zero, List.set_cons_succ]
  refine wpAnyH_take (i := 23) (oi := ⟨some 78, _, _, _, _, _⟩) (v := ?_) rfl (by as_aux_lemma => kernel_rfl) (by as_aux_lemma => kernel_rfl) (by as_aux_lemma => kernel_rfl) (fun _ _ _ h => h) (Or.inl ⟨by rfl, ?_⟩) hHeld ?_
  rotate_left
  · intro w hSw
    go_simp
    first | done | with_reducible rfl
  try simp only [Act.put, List.setIfInBounds_toArray, List.set_cons_zero, List.set_cons_succ]
  refine wpAnyH_take (i := 24) (oi := ⟨some 79, _, _, _, _, _⟩) (v := ?_) rfl (by as_aux_lemma => kernel_rfl) (by as_aux_lemma => kernel_rfl) (by as_aux_lemma => kernel_rfl) (fun _ _ _ h => h) (Or.inl ⟨by rfl, ?_⟩) hHeld ?_
  rotate_left
  · intro w hSw
    go_simp
    first | done | with_reducible rfl
  try simp only [Act.put, List.setIfInBounds_toArray, List.set_cons_zero, List.set_cons_succ]
  refine wpAnyH_take (i := 25) (oi := ⟨some 80, _, _, _, _, _⟩) (v := ?_) rfl (by as_aux_lemma => kernel_rfl) (by as_aux_lemma => kernel_rfl) (by as_aux_lemma => kernel_rfl) (fun _ _ _ h => h) (Or.inl ⟨by rfl, ?_⟩) hHeld ?_
  rotate_left
  · intro w hSw
    go_simp
    first | done | with_reducible rfl
  try simp only [Act.put, List.setIfInBounds_toArray, List.set_cons_zero, List.set_cons_succ]
  refine wpAnyH_take (i := 26) (oi := ⟨some 81, _, _, _, _, _⟩) (v := ?_) rfl (by as_aux_lemma => kernel_rfl) (by as_aux_lemma => kernel_rfl) (by as_aux_lemma => kernel_rfl) (fun _ _ _ h => h) (Or.inl ⟨by rfl, ?_⟩) hHeld ?_
  rotate_left
  · intro w hSw
    go_simp
    first | done | with_reducible rfl
  try simp only [Act.put, List.setIfInBounds_toArray, List.set_cons_zero, List.set_cons_succ]
  refine wpAnyH_take (i := 27) (oi := ⟨some 82, _, _, _, _, _⟩) (v := ?_) rfl (by as_aux_lemma => kernel_rfl) (by as_aux_lemma => kernel_rfl) (by as_aux_lemma => kernel_rfl) (fun _ _ _ h => h) (Or.inl ⟨by rfl, ?_⟩) hHeld ?_
  rotate_left
  · intro w hSw
    go_simp
    first | done | with_reducible rfl
  try simp only [Act.put, List.setIfInBounds_toArray, List.set_cons_zero, List.set_cons_succ]
  refine wpAnyH_take (i := 28) (oi := ⟨some 83, _, _, _, _, _⟩) (v := ?_) rfl (by as_aux_lemma => kernel_rfl) (by as_aux_lemma => kernel_rfl) (by as_aux_lemma => kernel_rfl) (fun _ _ _ h => h) (Or.inl ⟨by rfl, ?_⟩) hHeld ?_
  rotate_left
  · intro w hSw
    go_simp
    first | done | with_reducible rfl
  try simp only [Act.put, List.setIfInBounds_toArray, List.set_cons_zero, List.set_cons_succ]
  refine wpAnyH_take (i := 29) (oi := ⟨some 84, _, _, _, _, _⟩) (v := ?_) rfl (by as_aux_lemma => kernel_rfl) (by as_aux_lemma => kernel_rfl) (by as_aux_lemma => kernel_rfl) (fun _ _ _ h => h) (Or.inl ⟨by rfl, ?_⟩) hHeld ?_
  rotate_left
  · intro w hSw
    go_simp
    first | done | with_reducible rfl
  try simp only [Act.put, List.setIfInBounds_toArray, List.set_cons_zero, List.set_cons_succ]
  refine wpAnyH_take (i := 30) (oi := ⟨some 85, _, _, _, _, _⟩) (v := ?_) rfl (by as_aux_lemma => kernel_rfl) (by as_aux_lemma => kernel_rfl) (by as_aux_lemma => kernel_rfl) (fun _ _ _ h => h) (Or.inl ⟨by rfl, ?_⟩) hHeld ?_
  rotate_left
  · intro w hSw
    go_simp
    first | done | with_reducible rfl
  try simp only [Act.put, List.setIfInBounds_toArray, List.set_cons_zero, List.set_cons_succ]
  refine wpAnyH_take (i := 31) (oi := ⟨some 86, _, _, _, _, _⟩) (v := ?_) rfl (by as_aux_lemma => kernel_rfl) (by as_aux_lemma => kernel_rfl) (by as_aux_lemma => kernel_rfl) (fun _ _ _ h => h) (Or.inl ⟨by rfl, ?_⟩) hHeld ?_
  rotate_left
  · intro w hSw
    go_simp
    first | done | with_reducible rfl
  try simp only [Act.put, List.setIfInBounds_toArray, List.set_cons_zero, List.set_cons_succ]
  refine wpAnyH_take (i := 32) (oi := ⟨some 87, _, _, _, _, _⟩) (v := ?_) rfl (by as_aux_lemma => kernel_rfl) (by as_aux_lemma => kernel_rfl) (by as_aux_lemma => kernel_rfl) (fun _ _ _ h => h) (Or.inl ⟨by rfl, ?_⟩) hHeld ?_
  rotate_left
  · intro w hSw
    go_simp
    first | done | with_reducible rfl
  try simp only [Act.put, List.setIfInBounds_toArray, List.set_cons_zero, List.set_cons_succ]
  refine wpAnyH_take (i := 33) (oi := ⟨some 88, _, _, _, _, _⟩) (v := ?_) rfl (by as_aux_lemma => kernel_rfl) (by as_aux_lemma => kernel_rfl) (by as_aux_lemma => kernel_rfl) (fun _ _ _ h => h) (Or.inl ⟨by rfl, ?_⟩) hHeld ?_
  rotate_left
  · intro w hSw
    go_simp
    first | done | with_reducible rfl
  try simp only [Act.put, List.setIfInBounds_toArray, List.set_cons_zero, List.set_cons_succ]
  refine wpAnyH_take (i := 34) (oi := ⟨some 89, _, _, _, _, _⟩) (v := ?_) rfl (by as_aux_lemma => kernel_rfl) (by as_aux_lemma => kernel_rfl) (by as_aux_lemma => kernel_rfl) (fun _ _ _ h => h) (Or.inl ⟨by rfl, ?_⟩) hHeld ?_
  rotate_left
  · intro w hSw
    go_simp
    first | done | with_reducible rfl
  try simp only [Act.put, List.setIfInBounds_toArray, List.set_cons_zero, List.set_cons_succ]
  refine wpAnyH_take (i := 35) (oi := ⟨some 90, _, _, _, _, _⟩) (v := ?_) rfl (by as_aux_lemma => kernel_rfl) (by as_aux_lemma => kernel_rfl) (by as_aux_lemma => kernel_rfl) (fun _ _ _ h => h) (Or.inl ⟨by rfl, ?_⟩) hHeld ?_
  rotate_left
  · intro w hSw
    go_simp
    first | done | with_reducible rfl
  try simp only [Act.put, List.setIfInBounds_toArray, List.set_cons_zero, List.set_cons_succ]
  refine wpAnyH_take (i := 36) (oi := ⟨some 91, _, _, _, _, _⟩) (v := ?_) rfl (by as_aux_lemma => kernel_rfl) (by as_aux_lemma => kernel_rfl) (by as_aux_lemma => kernel_rfl) (fun _ _ _ h => h) (Or.inl ⟨by rfl, ?_⟩) hHeld ?_
  rotate_left
  · intro w hSw
    go_simp
    first | done | with_reducible rfl
  try simp only [Act.put, List.setIfInBounds_toArray, List.set_cons_zero, List.set_cons_succ]
  refine wpAnyH_take (i := 37) (oi := ⟨some 92, _, _, _, _, _⟩) (v := ?_) rfl (by as_aux_lemma => kernel_rfl) (by as_aux_lemma => kernel_rfl) (by as_aux_lemma => kernel_rfl) (fun _ _ _ h => h) (Or.inl ⟨by rfl, ?_⟩) hHeld ?_
  rotate_left
  · intro w hSw
    go_simp
    first | done | with_reducible rfl
  try simp only [Act.put, List.setIfInBounds_toArray, List.set_cons_zero, List.set_cons_succ]
  refine wpAnyH_take (i := 38) (oi := ⟨some 93, _, _, _, _, _⟩) (v := ?_) rfl (by as_aux_lemma => kernel_rfl) (by as_aux_lemma => kernel_rfl) (by as_aux_lemma => kernel_rfl) (fun _ _ _ h => h) (Or.inl ⟨by rfl, ?_⟩) hHeld ?_
  rotate_left
  · intro w hSw
    go_simp
    first | done | with_reducible rfl
  try simp only [Act.put, List.setIfInBounds_toArray, List.set_cons_zero, List.set_cons_succ]
  refine wpAnyH_take (i := 39) (oi := ⟨some 94, _, _, _, _, _⟩) (v := ?_) rfl (by as_aux_lemma => kernel_rfl) (by as_aux_lemma => kernel_rfl) (by as_aux_lemma => kernel_rfl) (fun _ _ _ h => h) (Or.inl ⟨by rfl, ?_⟩) hHeld ?_
  rotate_left
  · intro w hSw
    go_simp
    first | done | with_reducible rfl
  try simp only [Act.put, List.setIfInBounds_toArray, List.set_cons_zero, List.set_cons_succ]
  refine wpAnyH_take (i := 40) (oi := ⟨some 95, _, _, _, _, _⟩) (v := ?_) rfl (by as_aux_lemma => kernel_rfl) (by as_aux_lemma => kernel_rfl) (by as_aux_lemma => kernel_rfl) (fun _ _ _ h => h) (Or.inl ⟨by rfl, ?_⟩) hHeld ?_
  rotate_left
  · intro w hSw
    go_simp
    first | done | with_reducible rfl
  try simp only [Act.put, List.setIfInBounds_toArray, List.set_cons_zero, List.set_cons_succ]
  refine wpAnyH_take (i := 41) (oi := ⟨some 96, _, _, _, _, _⟩) (v := ?_) rfl (by as_aux_lemma => kernel_rfl) (by as_aux_lemma => kernel_rfl) (by as_aux_lemma => kernel_rfl) (fun _ _ _ h => h) (Or.inl ⟨by rfl, ?_⟩) hHeld ?_
  rotate_left
  · intro w hSw
    go_simp
    first | done | with_reducible rfl
  try simp only [Act.put, List.setIfInBounds_toArray, List.set_cons_zero, List.set_cons_succ]
  refine wpAnyH_take (i := 42) (oi := ⟨some 97, _, _, _, _, _⟩) (v := ?_) rfl (by as_aux_lemma => kernel_rfl) (by as_aux_lemma => kernel_rfl) (by as_aux_lemma => kernel_rfl) (fun _ _ _ h => h) (Or.inl ⟨by rfl, ?_⟩) hHeld ?_
  rotate_left
  · intro w hSw
    go_simp
    first | done | with_reducible rfl
  try simp only [Act.put, List.setIfInBounds_toArray, List.set_cons_zero, List.set_cons_succ]
  refine wpAnyH_take (i := 43) (oi := ⟨some 98, _, _, _, _, _⟩) (v := ?_) rfl (by as_aux_lemma => kernel_rfl) (by as_aux_lemma => kernel_rfl) (by as_aux_lemma => kernel_rfl) (fun _ _ _ h => h) (Or.inl ⟨by rfl, ?_⟩) hHeld ?_
  rotate_left
  · intro w hSw
    go_simp
    first | done | with_reducible rfl
  try simp only [Act.put, List.setIfInBounds_toArray, List.set_cons_zero, List.set_cons_succ]
  refine wpAnyH_take (i := 44) (oi := ⟨some 99, _, _, _, _, _⟩) (v := ?_) rfl (by as_aux_lemma => kernel_rfl) (by as_aux_lemma => kernel_rfl) (by as_aux_lemma => kernel_rfl) (fun _ _ _ h => h) (Or.inl ⟨by rfl, ?_⟩) hHeld ?_
  rotate_left
  · intro w hSw
    go_simp
    first | done | with_reducible rfl
  try simp only [Act.put, List.setIfInBounds_toArray, List.set_cons_zero, List.set_cons_succ]
  refine wpAnyH_take (i := 45) (oi := ⟨some 100, _, _, _, _, _⟩) (v := ?_) rfl (by as_aux_lemma => kernel_rfl) (by as_aux_lemma => kernel_rfl) (by as_aux_lemma => kernel_rfl) (fun _ _ _ h => h) (Or.inl ⟨by rfl, ?_⟩) hHeld ?_
  rotate_left
  · intro w hSw
    obtain ⟨hS1, hS2⟩ := hSw
    obtain ⟨c0, c1, c2, c3, c4, c5, c6, c7, c8, c9, c10, c11, c12, c13, c14⟩ := hS1.cells
    obtain ⟨e0, e1, e2, e3, e4, e5, e6, e7, e8, e9, e10, e11, e12, e13, e14⟩ := hS2.cells
    go_simp
    first | done | with_reducible rfl
  try simp only [Act.put, List.setIfInBounds_toArray, List.set_cons_zero, List.set_cons_succ]
  refine wpAnyH_take (i := 46) (oi := ⟨some 101, _, _, _, _, _⟩) (v := ?_) rfl (by as_aux_lemma => kernel_rfl) (by as_aux_lemma => kernel_rfl) (by as_aux_lemma => kernel_rfl) (fun _ _ _ h => h) (Or.inl ⟨by rfl, ?_⟩) hHeld ?_
  rotate_left
  · intro w hSw
    go_simp
    first | done | with_reducible rfl
  try simp only [Act.put, List.setIfInBounds_toArray, List.set_cons_zero, List.set_cons_succ]
  refine wpAnyH_ready (rs := [47]) (by as_aux_lemma => kernel_rfl) (by simp) ?_
  refine AllReadyH.cons (o := ⟨some 102, .call _, _, _, _, _⟩) rfl (fun K hK => ?_) AllReadyH.nil
  go_simp
  go_at_call 15
  refine (psuits_any (⟨q0.t.ser, q0.t.kind, q0.t.frm, q0.t.till, q0.t.cls, q0.t.card, 1, q0.t.day, q0.t.days, q0.t.uses, q0.t.epoch⟩ : Tk) 10 40 true K1.out _).mono ?_
  rintro e v ⟨rfl, hb⟩
  go_wp2_with fail
  replace HX1 := Lib.hid (HX1.out.next hb)
  replace HX4 := Lib.hid (HX4.out.next hb)
  replace HL := Lib.hid (HL.out.next hb)
  replace HBL := Lib.hid (HBL.out.trans (hb.mono HBL.out.size))
  clear hb
  refine hK.out _ _ ⟨HX4.out, HX1.out⟩ (fun hHeld => ?_)
  clear hK K
  try simp only [Act.put, List.setIfInBounds_toArray, List.set_cons_zero, List.set_cons_succ]
  refine wpAnyH_take (i := 48) (oi := ⟨some 103, _, _, _, _, _⟩) (v := ?_) rfl (by as_aux_lemma => kernel_rfl) (by as_aux_lemma => kernel_rfl) (by as_aux_lemma => kernel_rfl) (fun _ _ _ h => h) (Or.inl ⟨by rfl, ?_⟩) hHeld ?_
  rotate_left
  · intro w hSw
    go_simp
    first | done | with_reducible rfl
  try simp only [Act.put, List.setIfInBounds_toArray, List.set_cons_zero, List.set_cons_succ]
  refine wpAnyH_take (i := 49) (oi := ⟨some 104, _, _, _, _, _⟩) (v := ?_) rfl (by as_aux_lemma => kernel_rfl) (by as_aux_lemma => kernel_rfl) (by as_aux_lemma => kernel_rfl) (fun _ _ _ h => h) (Or.inl ⟨by rfl, ?_⟩) hHeld ?_
  rotate_left
  · intro w hSw
    go_simp
    first | done | with_reducible rfl
  try simp only [Act.put, List.setIfInBounds_toArray, List.set_cons_zero, List.set_cons_succ]
  refine wpAnyH_take (i := 50) (oi := ⟨some 105, _, _, _, _, _⟩) (v := ?_) rfl (by as_aux_lemma => kernel_rfl) (by as_aux_lemma => kernel_rfl) (by as_aux_lemma => kernel_rfl) (fun _ _ _ h => h) (Or.inl ⟨by rfl, ?_⟩) hHeld ?_
  rotate_left
  · intro w hSw
    go_simp
    first | done | with_reducible rfl
  try simp only [Act.put, List.setIfInBounds_toArray, List.set_cons_zero, List.set_cons_succ]
  refine wpAnyH_take (i := 51) (oi := ⟨some 106, _, _, _, _, _⟩) (v := ?_) rfl (by as_aux_lemma => kernel_rfl) (by as_aux_lemma => kernel_rfl) (by as_aux_lemma => kernel_rfl) (fun _ _ _ h => h) (Or.inl ⟨by rfl, ?_⟩) hHeld ?_
  rotate_left
  · intro w hSw
    obtain ⟨hS1, hS2⟩ := hSw
    obtain ⟨c0, c1, c2, c3, c4, c5, c6, c7, c8, c9, c10, c11, c12, c13, c14⟩ := hS1.cells
    obtain ⟨e0, e1, e2, e3, e4, e5, e6, e7, e8, e9, e10, e11, e12, e13, e14⟩ := hS2.cells
    go_simp
    first | done | with_reducible rfl
  try simp only [Act.put, List.setIfInBounds_toArray, List.set_cons_zero, List.set_cons_succ]
  refine wpAnyH_take (i := 52) (oi := ⟨some 107, _, _, _, _, _⟩) (v := ?_) rfl (by as_aux_lemma => kernel_rfl) (by as_aux_lemma => kernel_rfl) (by as_aux_lemma => kernel_rfl) (fun _ _ _ h => h) (Or.inl ⟨by rfl, ?_⟩) hHeld ?_
  rotate_left
  · intro w hSw
    go_simp
    first | done | with_reducible rfl
  try simp only [Act.put, List.setIfInBounds_toArray, List.set_cons_zero, List.set_cons_succ]
  refine wpAnyH_take (i := 53) (oi := ⟨some 108, _, _, _, _, _⟩) (v := ?_) rfl (by as_aux_lemma => kernel_rfl) (by as_aux_lemma => kernel_rfl) (by as_aux_lemma => kernel_rfl) (fun _ _ _ h => h) (Or.inl ⟨by rfl, ?_⟩) hHeld ?_
  rotate_left
  · intro w hSw
    obtain ⟨hS1, hS2⟩ := hSw
    obtain ⟨c0, c1, c2, c3, c4, c5, c6, c7, c8, c9, c10, c11, c12, c13, c14⟩ := hS1.cells
    obtain ⟨e0, e1, e2, e3, e4, e5, e6, e7, e8, e9, e10, e11, e12, e13, e14⟩ := hS2.cells
    go_simp
    first | done | with_reducible rfl
  try simp only [Act.put, List.setIfInBounds_toArray, List.set_cons_zero, List.set_cons_succ]
  refine wpAnyH_ready (rs := [54]) (by as_aux_lemma => kernel_rfl) (by simp) ?_
  refine AllReadyH.cons (o := ⟨some 109, .call _, _, _, _, _⟩) rfl (fun K hK => ?_) AllReadyH.nil
  go_simp
  go_at_call 15
  refine (psuits_any (⟨q0.t.ser, q0.t.kind, q0.t.frm, q0.t.till, q0.t.cls, q0.t.card, 1, q0.t.day, q0.t.days, q0.t.uses, q0.t.epoch⟩ : Tk) 11 q0.inn false K2.out _).mono ?_
  rintro e v ⟨rfl, hb⟩
  go_wp2_with fail
  replace HX1 := Lib.hid (HX1.out.next hb)
  replace HX4 := Lib.hid (HX4.out.next hb)
  replace HL := Lib.hid (HL.out.next hb)
  replace HBL := Lib.hid (HBL.out.trans (hb.mono HBL.out.size))
  clear hb
  refine hK.out _ _ ⟨HX4.out, HX1.out⟩ (fun hHeld => ?_)
  clear hK K
  try simp only [Act.put, List.setIfInBounds_toArray, List.set_cons_zero, List.set_cons_succ]
  refine wpAnyH_take (i := 55) (oi := ⟨some 110, _, _, _, _, _⟩) (v := ?_) rfl (by as_aux_lemma => kernel_rfl) (by as_aux_lemma => kernel_rfl) (by as_aux_lemma => kernel_rfl) (fun _ _ _ h => h) (Or.inl ⟨by rfl, ?_⟩) hHeld ?_
  rotate_left
  · intro w hSw
    go_simp
    first | done | with_reducible rfl
  try simp only [Act.put, List.setIfInBounds_toArray, List.set_cons_zero, List.set_cons_succ]
  refine wpAnyH_take (i := 56) (oi := ⟨some 111, _, _, _, _, _⟩) (v := ?_) rfl (by as_aux_lemma => kernel_rfl) (by as_aux_lemma => kernel_rfl) (by as_aux_lemma => kernel_rfl) (fun _ _ _ h => h) (Or.inl ⟨by rfl, ?_⟩) hHeld ?_
  rotate_left
  · intro w hSw
    go_simp
    first | done | with_reducible rfl
  try simp only [Act.put, List.setIfInBounds_toArray, List.set_cons_zero, List.set_cons_succ]
  refine wpAnyH_take (i := 57) (oi := ⟨some 0, _, _, _, _, _⟩) (v := ?_) rfl (by as_aux_lemma => kernel_rfl) (by as_aux_lemma => kernel_rfl) (by as_aux_lemma => kernel_rfl) (fun _ _ _ h => h) (Or.inl ⟨by rfl, ?_⟩) hHeld ?_
  rotate_left
  · intro w hSw
    go_simp
    first | done | with_reducible rfl
  try simp only [Act.put, List.setIfInBounds_toArray, List.set_cons_zero]
  refine wpAnyH_done (by as_aux_lemma => kernel_rfl) ?_ _
  go_wp2
  go_ret
  exact ⟨rfl, HBL.out⟩
theorem laid_any (w : World) : Calls Try.prog 12 #[] w fun e w' => e = .returned (.bool true) ∧ Below w.heap.size w w' :=
  laid_gen p0 d0 plain_any laid_c.1 laid_c.2.1 laid_c.2.2.1 laid_c.2.2.2.1 p0_in p1_in p2_in laid_c.2.2.2.2.2.2.1 laid_c.2.2.2.2.2.2.2.1 laid_c.2.2.2.2.1 laid_c.2.2.2.2.2.1 laid_c.2.2.2.2.2.2.2.2.1 _ laid_c.2.2.2.2.2.2.2.2.2 rfl rfl rfl (by decide) w
end Go.Proofs.Ytpeccmcojocgkaa
