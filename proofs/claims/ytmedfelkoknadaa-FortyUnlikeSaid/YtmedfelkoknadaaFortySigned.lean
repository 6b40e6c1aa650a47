/-
  The laws' constant check of layer 16. Conditions: none.
-/
import Derived.Test.YtmedfelkoknadaaFortyPPut
import Derived.Test.YtmedfelkoknadaaFortyPGet
import Derived.Test.YtmedfelkoknadaaSameBs
import Derived.Lib.SlBytesConst
namespace Go.Proofs.Ytmedfelkoknadaa
set_option linter.unusedVariables false
open Go.ChangeShapes Go.WideShapes Go.ChangeAt Go.RowKit

theorem signed_c0 : putF [72, 101, 108, 108, 111, 33, 33] = [37, 54, 57, 32, 86, 68, 57, 50, 69, 88, 48] := by kernel_rfl
theorem signed_c1 : getX [81, 69, 68, 56, 87, 69, 88, 48] = (0, [105, 101, 116, 102, 33]) := by kernel_rfl
theorem signed_c2 : getX [81, 69, 68, 56] = (14, []) := by kernel_rfl
theorem signed_c3 : getX [81, 69, 100, 56, 87, 69, 88, 48] = (7, []) := by kernel_rfl
theorem signed_c4 : getX [58, 58, 58, 58] = (14, []) := by kernel_rfl
theorem signed_c5 : getX [58, 58, 58] = (23, []) := by kernel_rfl
theorem signed_c6 : getX [58, 58] = (23, []) := by kernel_rfl
theorem bs_mark (w : World) (cs : Array Value) (fr : Nat × Nat) (s : List Nat) (n : Nat) (h : cs.toList = U8 s) (hn : n = s.length) (h1 : n ≤ 1000) (h2 : ∀ x ∈ s, x < 256) : Bs (w.alloc (.cells cs 5 fr)) (w.alloc (.cells cs 5 fr)).heap.size s (some ⟨w.heap.size, 0, none⟩) n := by
  refine ⟨fun k u hu => ⟨_, rfl, by simp, ?_⟩, by simp, by omega, by omega, h2⟩
  rw [at_add, cell_of_row (w.alloc (.cells cs 5 fr)) w.heap.size k cs _ fr (heap_alloc_new w _)]
  rw [← h] at hu
  simpa using hu
set_option maxRecDepth 100000 in
set_option maxHeartbeats 1600000 in
theorem signed_any (w : World) : Calls Try.prog 8 #[] w fun e w' => e = .returned (.bool true) ∧ Below w.heap.size w w' := by
  have HBL := Lib.hid (Below.refl w.heap.size w)
  have hcv := fun (w : World) (C : Array Value) (n c : Nat) => Lib.run_convert_bytes_const (P := Try.prog) w 22 5 C n c Try.underlying22 Try.underlying5
  go_enter Try.func8, Try.ntmps8
  go_wp2_with fail
  obtain ⟨w1, hw⟩ : ∃ w1, w1 = w.alloc (.cells #[.int .u8 72, .int .u8 101, .int .u8 108, .int .u8 108, .int .u8 111, .int .u8 33, .int .u8 33] 5 (7, 8)) := ⟨_, rfl⟩
  rw [← hw]
  have hx : Bs w1 w1.heap.size [72, 101, 108, 108, 111, 33, 33] (some ⟨w.heap.size, 0, none⟩) 7 := by rw [hw]; exact bs_mark w _ _ [72, 101, 108, 108, 111, 33, 33] 7 rfl rfl (by omega) (by decide)
  have hb : Below w.heap.size w w1 := by rw [hw]; exact (Below.refl _ _).alloc (Nat.le_refl _) _
  replace HBL := Lib.hid (HBL.out.trans (hb.mono HBL.out.size))
  have L1 := Lib.hid hx
  clear hx hb hw
  refine (pput_forty [72, 101, 108, 108, 111, 33, 33] 7 rfl (by omega) _ signed_c0 _ 7 w1 L1.out).mono ?_
  rintro e w2 ⟨AP1, cP1, rfl, hs, hb⟩
  replace L1 := Lib.hid (L1.out.next hb)
  replace HBL := Lib.hid (HBL.out.trans (hb.mono HBL.out.size))
  have P1 := Lib.hid hs
  clear hb hs
  go_wp2_with fail
  obtain ⟨w3, hw⟩ : ∃ w3, w3 = w2.alloc (.cells #[.int .u8 81, .int .u8 69, .int .u8 68, .int .u8 56, .int .u8 87, .int .u8 69, .int .u8 88, .int .u8 48] 5 (8, 9)) := ⟨_, rfl⟩
  rw [← hw]
  have hx : Bs w3 w3.heap.size [81, 69, 68, 56, 87, 69, 88, 48] (some ⟨w2.heap.size, 0, none⟩) 8 := by rw [hw]; exact bs_mark w2 _ _ [81, 69, 68, 56, 87, 69, 88, 48] 8 rfl rfl (by omega) (by decide)
  have hb : Below w2.heap.size w2 w3 := by rw [hw]; exact (Below.refl _ _).alloc (Nat.le_refl _) _
  replace L1 := Lib.hid (L1.out.next hb)
  replace P1 := Lib.hid (P1.out.next hb)
  replace HBL := Lib.hid (HBL.out.trans (hb.mono HBL.out.size))
  have M0 := Lib.hid hx
  clear hx hb hw
  refine (pget_forty [81, 69, 68, 56, 87, 69, 88, 48] 8 rfl (by omega) _ _ signed_c1 _ 8 w3 M0.out).mono ?_
  rintro e w4 ⟨AG0, cG0, rfl, hs, hb⟩
  replace L1 := Lib.hid (L1.out.next hb)
  replace P1 := Lib.hid (P1.out.next hb)
  replace M0 := Lib.hid (M0.out.next hb)
  replace HBL := Lib.hid (HBL.out.trans (hb.mono HBL.out.size))
  have G0 := Lib.hid hs
  clear hb hs
  go_wp2_with fail
  obtain ⟨w5, hw⟩ : ∃ w5, w5 = w4.alloc (.cells #[.int .u8 81, .int .u8 69, .int .u8 68, .int .u8 56] 5 (4, 5)) := ⟨_, rfl⟩
  rw [← hw]
  have hx : Bs w5 w5.heap.size [81, 69, 68, 56] (some ⟨w4.heap.size, 0, none⟩) 4 := by rw [hw]; exact bs_mark w4 _ _ [81, 69, 68, 56] 4 rfl rfl (by omega) (by decide)
  have hb : Below w4.heap.size w4 w5 := by rw [hw]; exact (Below.refl _ _).alloc (Nat.le_refl _) _
  replace L1 := Lib.hid (L1.out.next hb)
  replace P1 := Lib.hid (P1.out.next hb)
  replace M0 := Lib.hid (M0.out.next hb)
  replace G0 := Lib.hid (G0.out.next hb)
  replace HBL := Lib.hid (HBL.out.trans (hb.mono HBL.out.size))
  have M1 := Lib.hid hx
  clear hx hb hw
  refine (pget_forty [81, 69, 68, 56] 4 rfl (by omega) _ _ signed_c2 _ 4 w5 M1.out).mono ?_
  rintro e w6 ⟨AG1, cG1, rfl, hs, hb⟩
  replace L1 := Lib.hid (L1.out.next hb)
  replace P1 := Lib.hid (P1.out.next hb)
  replace M0 := Lib.hid (M0.out.next hb)
  replace G0 := Lib.hid (G0.out.next hb)
  replace M1 := Lib.hid (M1.out.next hb)
  replace HBL := Lib.hid (HBL.out.trans (hb.mono HBL.out.size))
  have G1 := Lib.hid hs
  clear hb hs
  go_wp2_with fail
  obtain ⟨w7, hw⟩ : ∃ w7, w7 = w6.alloc (.cells #[.int .u8 81, .int .u8 69, .int .u8 100, .int .u8 56, .int .u8 87, .int .u8 69, .int .u8 88, .int .u8 48] 5 (8, 9)) := ⟨_, rfl⟩
  rw [← hw]
  have hx : Bs w7 w7.heap.size [81, 69, 100, 56, 87, 69, 88, 48] (some ⟨w6.heap.size, 0, none⟩) 8 := by rw [hw]; exact bs_mark w6 _ _ [81, 69, 100, 56, 87, 69, 88, 48] 8 rfl rfl (by omega) (by decide)
  have hb : Below w6.heap.size w6 w7 := by rw [hw]; exact (Below.refl _ _).alloc (Nat.le_refl _) _
  replace L1 := Lib.hid (L1.out.next hb)
  replace P1 := Lib.hid (P1.out.next hb)
  replace M0 := Lib.hid (M0.out.next hb)
  replace G0 := Lib.hid (G0.out.next hb)
  replace M1 := Lib.hid (M1.out.next hb)
  replace G1 := Lib.hid (G1.out.next hb)
  replace HBL := Lib.hid (HBL.out.trans (hb.mono HBL.out.size))
  have M2 := Lib.hid hx
  clear hx hb hw
  refine (pget_forty [81, 69, 100, 56, 87, 69, 88, 48] 8 rfl (by omega) _ _ signed_c3 _ 8 w7 M2.out).mono ?_
  rintro e w8 ⟨AG2, cG2, rfl, hs, hb⟩
  replace L1 := Lib.hid (L1.out.next hb)
  replace P1 := Lib.hid (P1.out.next hb)
  replace M0 := Lib.hid (M0.out.next hb)
  replace G0 := Lib.hid (G0.out.next hb)
  replace M1 := Lib.hid (M1.out.next hb)
  replace G1 := Lib.hid (G1.out.next hb)
  replace M2 := Lib.hid (M2.out.next hb)
  replace HBL := Lib.hid (HBL.out.trans (hb.mono HBL.out.size))
  have G2 := Lib.hid hs
  clear hb hs
  go_wp2_with fail
  obtain ⟨w9, hw⟩ : ∃ w9, w9 = w8.alloc (.cells #[.int .u8 58, .int .u8 58, .int .u8 58, .int .u8 58] 5 (4, 5)) := ⟨_, rfl⟩
  rw [← hw]
  have hx : Bs w9 w9.heap.size [58, 58, 58, 58] (some ⟨w8.heap.size, 0, none⟩) 4 := by rw [hw]; exact bs_mark w8 _ _ [58, 58, 58, 58] 4 rfl rfl (by omega) (by decide)
  have hb : Below w8.heap.size w8 w9 := by rw [hw]; exact (Below.refl _ _).alloc (Nat.le_refl _) _
  replace L1 := Lib.hid (L1.out.next hb)
  replace P1 := Lib.hid (P1.out.next hb)
  replace M0 := Lib.hid (M0.out.next hb)
  replace G0 := Lib.hid (G0.out.next hb)
  replace M1 := Lib.hid (M1.out.next hb)
  replace G1 := Lib.hid (G1.out.next hb)
  replace M2 := Lib.hid (M2.out.next hb)
  replace G2 := Lib.hid (G2.out.next hb)
  replace HBL := Lib.hid (HBL.out.trans (hb.mono HBL.out.size))
  have M3 := Lib.hid hx
  clear hx hb hw
  refine (pget_forty [58, 58, 58, 58] 4 rfl (by omega) _ _ signed_c4 _ 4 w9 M3.out).mono ?_
  rintro e w10 ⟨AG3, cG3, rfl, hs, hb⟩
  replace L1 := Lib.hid (L1.out.next hb)
  replace P1 := Lib.hid (P1.out.next hb)
  replace M0 := Lib.hid (M0.out.next hb)
  replace G0 := Lib.hid (G0.out.next hb)
  replace M1 := Lib.hid (M1.out.next hb)
  replace G1 := Lib.hid (G1.out.next hb)
  replace M2 := Lib.hid (M2.out.next hb)
  replace G2 := Lib.hid (G2.out.next hb)
  replace M3 := Lib.hid (M3.out.next hb)
  replace HBL := Lib.hid (HBL.out.trans (hb.mono HBL.out.size))
  have G3 := Lib.hid hs
  clear hb hs
  go_wp2_with fail
  obtain ⟨w11, hw⟩ : ∃ w11, w11 = w10.alloc (.cells #[.int .u8 58, .int .u8 58, .int .u8 58] 5 (3, 4)) := ⟨_, rfl⟩
  rw [← hw]
  have hx : Bs w11 w11.heap.size [58, 58, 58] (some ⟨w10.heap.size, 0, none⟩) 3 := by rw [hw]; exact bs_mark w10 _ _ [58, 58, 58] 3 rfl rfl (by omega) (by decide)
  have hb : Below w10.heap.size w10 w11 := by rw [hw]; exact (Below.refl _ _).alloc (Nat.le_refl _) _
  replace L1 := Lib.hid (L1.out.next hb)
  replace P1 := Lib.hid (P1.out.next hb)
  replace M0 := Lib.hid (M0.out.next hb)
  replace G0 := Lib.hid (G0.out.next hb)
  replace M1 := Lib.hid (M1.out.next hb)
  replace G1 := Lib.hid (G1.out.next hb)
  replace M2 := Lib.hid (M2.out.next hb)
  replace G2 := Lib.hid (G2.out.next hb)
  replace M3 := Lib.hid (M3.out.next hb)
  replace G3 := Lib.hid (G3.out.next hb)
  replace HBL := Lib.hid (HBL.out.trans (hb.mono HBL.out.size))
  have M4 := Lib.hid hx
  clear hx hb hw
  refine (pget_forty [58, 58, 58] 3 rfl (by omega) _ _ signed_c5 _ 3 w11 M4.out).mono ?_
  rintro e w12 ⟨AG4, cG4, rfl, hs, hb⟩
  replace L1 := Lib.hid (L1.out.next hb)
  replace P1 := Lib.hid (P1.out.next hb)
  replace M0 := Lib.hid (M0.out.next hb)
  replace G0 := Lib.hid (G0.out.next hb)
  replace M1 := Lib.hid (M1.out.next hb)
  replace G1 := Lib.hid (G1.out.next hb)
  replace M2 := Lib.hid (M2.out.next hb)
  replace G2 := Lib.hid (G2.out.next hb)
  replace M3 := Lib.hid (M3.out.next hb)
  replace G3 := Lib.hid (G3.out.next hb)
  replace M4 := Lib.hid (M4.out.next hb)
  replace HBL := Lib.hid (HBL.out.trans (hb.mono HBL.out.size))
  have G4 := Lib.hid hs
  clear hb hs
  go_wp2_with fail
  obtain ⟨w13, hw⟩ : ∃ w13, w13 = w12.alloc (.cells #[.int .u8 58, .int .u8 58] 5 (2, 3)) := ⟨_, rfl⟩
  rw [← hw]
  have hx : Bs w13 w13.heap.size [58, 58] (some ⟨w12.heap.size, 0, none⟩) 2 := by rw [hw]; exact bs_mark w12 _ _ [58, 58] 2 rfl rfl (by omega) (by decide)
  have hb : Below w12.heap.size w12 w13 := by rw [hw]; exact (Below.refl _ _).alloc (Nat.le_refl _) _
  replace L1 := Lib.hid (L1.out.next hb)
  replace P1 := Lib.hid (P1.out.next hb)
  replace M0 := Lib.hid (M0.out.next hb)
  replace G0 := Lib.hid (G0.out.next hb)
  replace M1 := Lib.hid (M1.out.next hb)
  replace G1 := Lib.hid (G1.out.next hb)
  replace M2 := Lib.hid (M2.out.next hb)
  replace G2 := Lib.hid (G2.out.next hb)
  replace M3 := Lib.hid (M3.out.next hb)
  replace G3 := Lib.hid (G3.out.next hb)
  replace M4 := Lib.hid (M4.out.next hb)
  replace G4 := Lib.hid (G4.out.next hb)
  replace HBL := Lib.hid (HBL.out.trans (hb.mono HBL.out.size))
  have M5 := Lib.hid hx
  clear hx hb hw
  refine (pget_forty [58, 58] 2 rfl (by omega) _ _ signed_c6 _ 2 w13 M5.out).mono ?_
  rintro e w14 ⟨AG5, cG5, rfl, hs, hb⟩
  replace L1 := Lib.hid (L1.out.next hb)
  replace P1 := Lib.hid (P1.out.next hb)
  replace M0 := Lib.hid (M0.out.next hb)
  replace G0 := Lib.hid (G0.out.next hb)
  replace M1 := Lib.hid (M1.out.next hb)
  replace G1 := Lib.hid (G1.out.next hb)
  replace M2 := Lib.hid (M2.out.next hb)
  replace G2 := Lib.hid (G2.out.next hb)
  replace M3 := Lib.hid (M3.out.next hb)
  replace G3 := Lib.hid (G3.out.next hb)
  replace M4 := Lib.hid (M4.out.next hb)
  replace G4 := Lib.hid (G4.out.next hb)
  replace M5 := Lib.hid (M5.out.next hb)
  replace HBL := Lib.hid (HBL.out.trans (hb.mono HBL.out.size))
  have G5 := Lib.hid hs
  clear hb hs
  go_wp2_with fail
  obtain ⟨w15, hw⟩ : ∃ w15, w15 = w14.alloc (.cells #[.int .u8 37, .int .u8 54, .int .u8 57, .int .u8 32, .int .u8 86, .int .u8 68, .int .u8 57, .int .u8 50, .int .u8 69, .int .u8 88, .int .u8 48] 5 (11, 12)) := ⟨_, rfl⟩
  rw [← hw]
  have hx : Bs w15 w15.heap.size [37, 54, 57, 32, 86, 68, 57, 50, 69, 88, 48] (some ⟨w14.heap.size, 0, none⟩) 11 := by rw [hw]; exact bs_mark w14 _ _ [37, 54, 57, 32, 86, 68, 57, 50, 69, 88, 48] 11 rfl rfl (by omega) (by decide)
  have hb : Below w14.heap.size w14 w15 := by rw [hw]; exact (Below.refl _ _).alloc (Nat.le_refl _) _
  replace L1 := Lib.hid (L1.out.next hb)
  replace P1 := Lib.hid (P1.out.next hb)
  replace M0 := Lib.hid (M0.out.next hb)
  replace G0 := Lib.hid (G0.out.next hb)
  replace M1 := Lib.hid (M1.out.next hb)
  replace G1 := Lib.hid (G1.out.next hb)
  replace M2 := Lib.hid (M2.out.next hb)
  replace G2 := Lib.hid (G2.out.next hb)
  replace M3 := Lib.hid (M3.out.next hb)
  replace G3 := Lib.hid (G3.out.next hb)
  replace M4 := Lib.hid (M4.out.next hb)
  replace G4 := Lib.hid (G4.out.next hb)
  replace M5 := Lib.hid (M5.out.next hb)
  replace G5 := Lib.hid (G5.out.next hb)
  replace HBL := Lib.hid (HBL.out.trans (hb.mono HBL.out.size))
  have L2 := Lib.hid hx
  clear hx hb hw
  refine (same_true [37, 54, 57, 32, 86, 68, 57, 50, 69, 88, 48] 11 11 rfl rfl AP1 _ cP1 11 w15 P1.out L2.out).mono ?_
  rintro e w16 ⟨rfl, hb⟩
  replace L1 := Lib.hid (L1.out.next hb)
  replace P1 := Lib.hid (P1.out.next hb)
  replace M0 := Lib.hid (M0.out.next hb)
  replace G0 := Lib.hid (G0.out.next hb)
  replace M1 := Lib.hid (M1.out.next hb)
  replace G1 := Lib.hid (G1.out.next hb)
  replace M2 := Lib.hid (M2.out.next hb)
  replace G2 := Lib.hid (G2.out.next hb)
  replace M3 := Lib.hid (M3.out.next hb)
  replace G3 := Lib.hid (G3.out.next hb)
  replace M4 := Lib.hid (M4.out.next hb)
  replace G4 := Lib.hid (G4.out.next hb)
  replace M5 := Lib.hid (M5.out.next hb)
  replace G5 := Lib.hid (G5.out.next hb)
  replace L2 := Lib.hid (L2.out.next hb)
  replace HBL := Lib.hid (HBL.out.trans (hb.mono HBL.out.size))
  clear hb
  go_wp2_with fail
  obtain ⟨w17, hw⟩ : ∃ w17, w17 = w16.alloc (.cells #[.int .u8 105, .int .u8 101, .int .u8 116, .int .u8 102, .int .u8 33] 5 (5, 6)) := ⟨_, rfl⟩
  rw [← hw]
  have hx : Bs w17 w17.heap.size [105, 101, 116, 102, 33] (some ⟨w16.heap.size, 0, none⟩) 5 := by rw [hw]; exact bs_mark w16 _ _ [105, 101, 116, 102, 33] 5 rfl rfl (by omega) (by decide)
  have hb : Below w16.heap.size w16 w17 := by rw [hw]; exact (Below.refl _ _).alloc (Nat.le_refl _) _
  replace L1 := Lib.hid (L1.out.next hb)
  replace P1 := Lib.hid (P1.out.next hb)
  replace M0 := Lib.hid (M0.out.next hb)
  replace G0 := Lib.hid (G0.out.next hb)
  replace M1 := Lib.hid (M1.out.next hb)
  replace G1 := Lib.hid (G1.out.next hb)
  replace M2 := Lib.hid (M2.out.next hb)
  replace G2 := Lib.hid (G2.out.next hb)
  replace M3 := Lib.hid (M3.out.next hb)
  replace G3 := Lib.hid (G3.out.next hb)
  replace M4 := Lib.hid (M4.out.next hb)
  replace G4 := Lib.hid (G4.out.next hb)
  replace M5 := Lib.hid (M5.out.next hb)
  replace G5 := Lib.hid (G5.out.next hb)
  replace L2 := Lib.hid (L2.out.next hb)
  replace HBL := Lib.hid (HBL.out.trans (hb.mono HBL.out.size))
  have L3 := Lib.hid hx
  clear hx hb hw
  refine (same_true [105, 101, 116, 102, 33] 5 5 rfl rfl AG0 _ cG0 5 w17 G0.out L3.out).mono ?_
  rintro e w18 ⟨rfl, hb⟩
  replace L1 := Lib.hid (L1.out.next hb)
  replace P1 := Lib.hid (P1.out.next hb)
  replace M0 := Lib.hid (M0.out.next hb)
  replace G0 := Lib.hid (G0.out.next hb)
  replace M1 := Lib.hid (M1.out.next hb)
  replace G1 := Lib.hid (G1.out.next hb)
  replace M2 := Lib.hid (M2.out.next hb)
  replace G2 := Lib.hid (G2.out.next hb)
  replace M3 := Lib.hid (M3.out.next hb)
  replace G3 := Lib.hid (G3.out.next hb)
  replace M4 := Lib.hid (M4.out.next hb)
  replace G4 := Lib.hid (G4.out.next hb)
  replace M5 := Lib.hid (M5.out.next hb)
  replace G5 := Lib.hid (G5.out.next hb)
  replace L2 := Lib.hid (L2.out.next hb)
  replace L3 := Lib.hid (L3.out.next hb)
  replace HBL := Lib.hid (HBL.out.trans (hb.mono HBL.out.size))
  clear hb
  go_wp2
  go_ret
  exact ⟨rfl, HBL.out⟩
end Go.Proofs.Ytmedfelkoknadaa
