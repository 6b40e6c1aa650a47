/-
  Contract for the reference's Get: the fields. Conditions: the slice reads as bytes.
-/
import Derived.Test.YtpniolinndlepaaGreatDoorLayRefGet0
import Derived.RegionTactic
import Derived.BigRegion
import Derived.Deep.RegionHeld3
namespace Go.Proofs.YtpniolinndlepaaGreatDoor
set_option linter.unusedVariables false
open Go.ChangeShapes Go.WideShapes Go.ChangeAt Go.RowKit

set_option maxRecDepth 100000 in
set_option maxHeartbeats 1600000 in
theorem rlget_3 (x : Nat) (q : List Nat) (n : Nat) (hn : n = (x :: q).length) (E : Int) (r : Rg) (hE : lgetX (x :: q) = (E, r)) (A : Option Addr) (c : Nat) (w : World) (hA : Bs w w.heap.size (x :: q) A c) (hx : ¬ 9 < x) (hw : 1 ≤ (x : Int) ∧ (x : Int) ≤ 4) (hk4 : (x : Int) ≠ 4) (v0 v1 v2 v3 v4 v5 v6 v7 v8 v9 v10 v11 : Int) (hs : splitX (x :: q) (widL x) = (0, [v0, v1, v2, v3, v4, v5, v6, v7, v8, v9, v10, v11])) (h0 : v0 = x) (u : Int) (hu : v0.tmod 3 = u) : Calls Tryz.prog 39 #[.slice A n c] w fun e w' => e = .returned (.tuple #[.agg #[.int .i64 r.t.ser, .int .i64 r.t.kind, .int .i64 r.t.frm, .int .i64 r.t.till, .int .i64 r.t.cls, .int .i64 r.t.card, .int .i64 r.t.seat, .int .i64 r.t.day, .int .i64 r.t.days, .int .i64 r.t.uses, .int .i64 r.t.epoch, .int .i64 r.key, .int .i64 r.left, .int .i64 r.inn, .int .i64 r.ver], .int .i64 E]) ∧ Below w.heap.size w w' := by
  have ht : toldR x [v0, v1, v2, v3, v4, v5, v6, v7, v8, v9, v10, v11] = (⟨(⟨v1, v0, v7, v8, v2, v3, 0, v4, v5, u, v6⟩ : Tk), v11, v9, v10, 0⟩ : Rg) := by rw [toldR, if_neg hk4, ← h0, hu]; rfl
  have hr : (if rightR (⟨(⟨v1, v0, v7, v8, v2, v3, 0, v4, v5, u, v6⟩ : Tk), v11, v9, v10, 0⟩ : Rg) = true then (0, (⟨(⟨v1, v0, v7, v8, v2, v3, 0, v4, v5, u, v6⟩ : Tk), v11, v9, v10, 0⟩ : Rg)) else (9, zeroR)) = (E, r) := by have := hE; rw [lgetX, if_neg hx, widE, if_pos hw, if_neg (by decide), lgetN, hs, if_neg (by simp)] at this; simp only at this; rw [ht] at this; exact this
  have HE := Lib.hid hr
  have HS := Lib.hid hs
  obtain ⟨m, hm⟩ : ∃ m, m = (widL x).length := ⟨_, rfl⟩
  have HWE := Lib.hid (show widE x = 0 by rw [widE, if_pos hw])
  have HWN := Lib.hid hm
  have hx9 : x ≤ 9 := by omega
  have q4 : (v0 == 4) = false := by rw [beq_eq_false_iff_ne, h0]; exact hk4
  have hwr : IntKind.i64.wrap u = u := IntWalk.i64_in _ (by rw [← hu, h0]; rcases (show (x : Int) = 1 ∨ (x : Int) = 2 ∨ (x : Int) = 3 ∨ (x : Int) = 4 by omega) with h | h | h | h <;> rw [h] <;> decide)
  clear hE hx hw hs hm hk4 h0 ht hr
  have hn63 : n ≤ 9223372036854775807 := by have := hA.len; have := hA.cap; omega
  have hn1 : 1 ≤ n := by rw [hn]; simp
  have hnz : ((n : Int) == 0) = false := by rw [beq_eq_false_iff_ne]; omega
  obtain ⟨ad, rfl, hb0, hc0⟩ := (hA.next (below_lit w #[.int .i64 0, .int .i64 0, .int .i64 0, .int .i64 0, .int .i64 0, .int .i64 0, .int .i64 0, .int .i64 0, .int .i64 0, .int .i64 0, .int .i64 0, .int .i64 0, .int .i64 0, .int .i64 0, .int .i64 0] 28)).rd 0 _ (U8_at (x :: q) 0 (by simp))
  have hc1 := hc0
  rw [add_zero'] at hc1
  simp only [List.getElem_cons_zero] at hc0 hc1
  have hx255 : x < 256 := hA.lt x (by simp)
  have HN := Lib.hid hn
  have HA := Lib.hid hA
  clear hn hA
  go_enter Tryz.func39, Tryz.ntmps39
  go_wp2_with (first | (go_at_call 71; refine (rwidths_any x _ (widL x) _ HWN.out HWE.out rfl _).mono ?_; rintro e w2 ⟨AW, cW, rfl, hz, hb⟩; have HZ := Lib.hid hz; have HR := Lib.hid ((RBox.new w zeroR).next hb); have HB2 := Lib.hid (below_after _ _ hb); have HA2 := Lib.hid (HA.out.next (below_after _ _ hb)); clear hz hb) | (go_at_call 80; refine (rsplit_any (x :: q) (widL x) n m HN.out HWN.out _ _ HS.out (some ad) AW c cW _ HA2.out HZ.out).mono ?_; rintro e w3 ⟨AS, cS, rfl, hz, hb⟩; have HV := Lib.hid hz; have HR3 := Lib.hid (HR.out.next hb); have HB3 := Lib.hid (HB2.out.trans (hb.mono HB2.out.size)); clear hz hb))
  obtain ⟨av, rfl, hav, a0⟩ := HV.out.at (k := 0) (x := v0) rfl
  rw [add_zero'] at a0
  obtain ⟨_, ee, _, aa⟩ := HV.out.at (k := 1) (x := v1) rfl
  cases ee
  have a1 : w3.cell? ⟨av.block, av.off + 1, none⟩ = some (.int .i64 v1) := aa
  clear aa
  obtain ⟨_, ee, _, aa⟩ := HV.out.at (k := 2) (x := v2) rfl
  cases ee
  have a2 : w3.cell? ⟨av.block, av.off + 2, none⟩ = some (.int .i64 v2) := aa
  clear aa
  obtain ⟨_, ee, _, aa⟩ := HV.out.at (k := 3) (x := v3) rfl
  cases ee
  have a3 : w3.cell? ⟨av.block, av.off + 3, none⟩ = some (.int .i64 v3) := aa
  clear aa
  obtain ⟨_, ee, _, aa⟩ := HV.out.at (k := 4) (x := v4) rfl
  cases ee
  have a4 : w3.cell? ⟨av.block, av.off + 4, none⟩ = some (.int .i64 v4) := aa
  clear aa
  obtain ⟨_, ee, _, aa⟩ := HV.out.at (k := 5) (x := v5) rfl
  cases ee
  have a5 : w3.cell? ⟨av.block, av.off + 5, none⟩ = some (.int .i64 v5) := aa
  clear aa
  obtain ⟨_, ee, _, aa⟩ := HV.out.at (k := 6) (x := v6) rfl
  cases ee
  have a6 : w3.cell? ⟨av.block, av.off + 6, none⟩ = some (.int .i64 v6) := aa
  clear aa
  obtain ⟨_, ee, _, aa⟩ := HV.out.at (k := 7) (x := v7) rfl
  cases ee
  have a7 : w3.cell? ⟨av.block, av.off + 7, none⟩ = some (.int .i64 v7) := aa
  clear aa
  obtain ⟨_, ee, _, aa⟩ := HV.out.at (k := 8) (x := v8) rfl
  cases ee
  have a8 : w3.cell? ⟨av.block, av.off + 8, none⟩ = some (.int .i64 v8) := aa
  clear aa
  go_region_held3 (fun w' => w'.cell? av = some (.int .i64 v0) ∧ w'.cell? ⟨av.block, av.off + 1, none⟩ = some (.int .i64 v1) ∧ w'.cell? ⟨av.block, av.off + 2, none⟩ = some (.int .i64 v2) ∧ w'.cell? ⟨av.block, av.off + 3, none⟩ = some (.int .i64 v3) ∧ w'.cell? ⟨av.block, av.off + 4, none⟩ = some (.int .i64 v4) ∧ w'.cell? ⟨av.block, av.off + 5, none⟩ = some (.int .i64 v5) ∧ w'.cell? ⟨av.block, av.off + 6, none⟩ = some (.int .i64 v6) ∧ w'.cell? ⟨av.block, av.off + 7, none⟩ = some (.int .i64 v7) ∧ w'.cell? ⟨av.block, av.off + 8, none⟩ = some (.int .i64 v8)) (first | exact ⟨a0, a1, a2, a3, a4, a5, a6, a7, a8⟩ | go_keep) (fail)
  rename_i hS3
  clear hS3 a0 a1 a2 a3 a4 a5 a6 a7 a8
  have HW34 : Hid (Below w3.heap.size w3 ((w3.alloc (.cells #[.int .i64 v1, .int .i64 v0, .int .i64 v7, .int .i64 v8, .int .i64 v2, .int .i64 v3, .int .i64 0, .int .i64 v4, .int .i64 v5, .int .i64 0, .int .i64 v6] 24)).drew)) := Lib.hid (below_drewN ((Below.refl _ _).alloc (Nat.le_refl _) _) 1)
  have HT4 : Hid (TBox ((w3.alloc (.cells #[.int .i64 v1, .int .i64 v0, .int .i64 v7, .int .i64 v8, .int .i64 v2, .int .i64 v3, .int .i64 0, .int .i64 v4, .int .i64 v5, .int .i64 0, .int .i64 v6] 24)).drew) w3.heap.size (⟨v1, v0, v7, v8, v2, v3, 0, v4, v5, 0, v6⟩ : Tk)) := Lib.hid (TBox.new w3 (⟨v1, v0, v7, v8, v2, v3, 0, v4, v5, 0, v6⟩ : Tk))
  obtain ⟨w4, hw4⟩ : ∃ w4, w4 = (w3.alloc (.cells #[.int .i64 v1, .int .i64 v0, .int .i64 v7, .int .i64 v8, .int .i64 v2, .int .i64 v3, .int .i64 0, .int .i64 v4, .int .i64 v5, .int .i64 0, .int .i64 v6] 24)).drew := ⟨_, rfl⟩
  rw [← hw4] at HW34 HT4 ⊢
  have HR4 := Lib.hid (HR3.out.next HW34.out)
  have HB4 := Lib.hid (HB3.out.trans (HW34.out.mono HB3.out.size))
  have HV4 := Lib.hid (HV.out.next HW34.out)
  have hRY : w.heap.size < w3.heap.size := HR3.out.lt
  obtain ⟨Y, hY⟩ : ∃ Y, Y = w3.heap.size := ⟨_, rfl⟩
  rw [← hY] at HT4 hav hRY ⊢
  clear hw4 hY HW34
  obtain ⟨c0, c1, c2, c3, c4, c5, c6, c7, c8, c9, c10⟩ := HT4.out.cells
  have hfz := HT4.out.frozen 9
  obtain ⟨_, ee, _, aa⟩ := HV4.out.at (k := 9) (x := v9) rfl
  cases ee
  have a9 : w4.cell? ⟨av.block, av.off + 9, none⟩ = some (.int .i64 v9) := aa
  clear aa
  obtain ⟨_, ee, _, aa⟩ := HV4.out.at (k := 10) (x := v10) rfl
  cases ee
  have a10 : w4.cell? ⟨av.block, av.off + 10, none⟩ = some (.int .i64 v10) := aa
  clear aa
  obtain ⟨_, ee, _, aa⟩ := HV4.out.at (k := 11) (x := v11) rfl
  cases ee
  have a11 : w4.cell? ⟨av.block, av.off + 11, none⟩ = some (.int .i64 v11) := aa
  clear aa
  go_wp2
  obtain ⟨w5, hw5⟩ : ∃ w5, w5 = w4.setCell ⟨Y, 9, none⟩ (.int .i64 u) := ⟨_, rfl⟩
  rw [← hw5]
  have HT5 : Hid (TBox w5 Y (⟨v1, v0, v7, v8, v2, v3, 0, v4, v5, u, v6⟩ : Tk)) := Lib.hid (by rw [hw5]; exact heap_setCell_same w4 Y 9 _ _ _ HT4.out)
  have HR5 : Hid (RBox w5 w.heap.size zeroR) := Lib.hid (by rw [hw5]; exact (heap_setCell_other w4 _ _ _ (by simp; omega)).trans HR4.out)
  have HB5 : Hid (Below w.heap.size w w5) := Lib.hid (by rw [hw5]; exact HB4.out.setCell (p := ⟨Y, 9, none⟩) (Nat.le_of_lt hRY) _)
  have b9 : w5.cell? ⟨av.block, av.off + 9, none⟩ = some (.int .i64 v9) := by rw [hw5, World.cell?_setCell_far _ _ _ _ (by show Y ≠ av.block; omega)]; exact a9
  have b10 : w5.cell? ⟨av.block, av.off + 10, none⟩ = some (.int .i64 v10) := by rw [hw5, World.cell?_setCell_far _ _ _ _ (by show Y ≠ av.block; omega)]; exact a10
  have b11 : w5.cell? ⟨av.block, av.off + 11, none⟩ = some (.int .i64 v11) := by rw [hw5, World.cell?_setCell_far _ _ _ _ (by show Y ≠ av.block; omega)]; exact a11
  clear hw5 hfz c0 c1 c2 c3 c4 c5 c6 c7 c8 c9 c10 a9 a10 a11
  obtain ⟨c0, c1, c2, c3, c4, c5, c6, c7, c8, c9, c10⟩ := HT5.out.cells
  have k1 : IntKind.i64.wrap ((9 : Int) + 1) = 10 := IntWalk.i64_in _ (by omega)
  have k2 : IntKind.i64.wrap ((9 : Int) + 2) = 11 := IntWalk.i64_in _ (by omega)
  have k3 : IntKind.i64.wrap (10 : Int) = 10 := IntWalk.i64_in _ (by omega)
  have k4 : IntKind.i64.wrap (11 : Int) = 11 := IntWalk.i64_in _ (by omega)
  go_region_held3 (fun w' => w'.cell? ⟨Y, 0, none⟩ = some (.int .i64 v1) ∧ w'.cell? ⟨Y, 1, none⟩ = some (.int .i64 v0) ∧ w'.cell? ⟨Y, 2, none⟩ = some (.int .i64 v7) ∧ w'.cell? ⟨Y, 3, none⟩ = some (.int .i64 v8) ∧ w'.cell? ⟨Y, 4, none⟩ = some (.int .i64 v2) ∧ w'.cell? ⟨Y, 5, none⟩ = some (.int .i64 v3) ∧ w'.cell? ⟨Y, 6, none⟩ = some (.int .i64 0) ∧ w'.cell? ⟨Y, 7, none⟩ = some (.int .i64 v4) ∧ w'.cell? ⟨Y, 8, none⟩ = some (.int .i64 v5) ∧ w'.cell? ⟨Y, 9, none⟩ = some (.int .i64 u) ∧ w'.cell? ⟨Y, 10, none⟩ = some (.int .i64 v6) ∧ w'.cell? ⟨av.block, av.off + 9, none⟩ = some (.int .i64 v9) ∧ w'.cell? ⟨av.block, av.off + 10, none⟩ = some (.int .i64 v10) ∧ w'.cell? ⟨av.block, av.off + 11, none⟩ = some (.int .i64 v11)) (first | exact ⟨c0, c1, c2, c3, c4, c5, c6, c7, c8, c9, c10, b9, b10, b11⟩ | go_keep) (fail)
  rename_i hS5
  clear hS5 c0 c1 c2 c3 c4 c5 c6 c7 c8 c9 c10 b9 b10 b11
  have HW56 : Hid (Below w5.heap.size w5 ((w5.alloc (.cells #[.int .i64 v1, .int .i64 v0, .int .i64 v7, .int .i64 v8, .int .i64 v2, .int .i64 v3, .int .i64 0, .int .i64 v4, .int .i64 v5, .int .i64 u, .int .i64 v6, .int .i64 v11, .int .i64 v9, .int .i64 v10, .int .i64 0] 28)).drew)) := Lib.hid (below_drewN ((Below.refl _ _).alloc (Nat.le_refl _) _) 1)
  have HZ6 : Hid (RBox ((w5.alloc (.cells #[.int .i64 v1, .int .i64 v0, .int .i64 v7, .int .i64 v8, .int .i64 v2, .int .i64 v3, .int .i64 0, .int .i64 v4, .int .i64 v5, .int .i64 u, .int .i64 v6, .int .i64 v11, .int .i64 v9, .int .i64 v10, .int .i64 0] 28)).drew) w5.heap.size (⟨(⟨v1, v0, v7, v8, v2, v3, 0, v4, v5, u, v6⟩ : Tk), v11, v9, v10, 0⟩ : Rg)) := Lib.hid (RBox.new w5 (⟨(⟨v1, v0, v7, v8, v2, v3, 0, v4, v5, u, v6⟩ : Tk), v11, v9, v10, 0⟩ : Rg))
  obtain ⟨w6, hw6⟩ : ∃ w6, w6 = (w5.alloc (.cells #[.int .i64 v1, .int .i64 v0, .int .i64 v7, .int .i64 v8, .int .i64 v2, .int .i64 v3, .int .i64 0, .int .i64 v4, .int .i64 v5, .int .i64 u, .int .i64 v6, .int .i64 v11, .int .i64 v9, .int .i64 v10, .int .i64 0] 28)).drew := ⟨_, rfl⟩
  rw [← hw6] at HW56 HZ6 ⊢
  have HR6 := Lib.hid (HR5.out.next HW56.out)
  have HT6 := Lib.hid (HT5.out.next HW56.out)
  have HB6 := Lib.hid (HB5.out.trans (HW56.out.mono HB5.out.size))
  obtain ⟨Z, hZ⟩ : ∃ Z, Z = w5.heap.size := ⟨_, rfl⟩
  rw [← hZ] at HZ6 ⊢
  clear hw6 hZ HW56
  obtain ⟨c0, c1, c2, c3, c4, c5, c6, c7, c8, c9, c10⟩ := HT6.out.cells
  by_cases h1 : okT (⟨v1, v0, v7, v8, v2, v3, 0, v4, v5, u, v6⟩ : Tk) = true
  rotate_left
  · have hrr : ¬ (rightR (⟨(⟨v1, v0, v7, v8, v2, v3, 0, v4, v5, u, v6⟩ : Tk), v11, v9, v10, 0⟩ : Rg) = true) := fun h => h1 ((rightR_iff _).1 h).1
    obtain ⟨rfl, rfl⟩ : E = 9 ∧ r = zeroR := by have := HE.out; rw [if_neg hrr] at this; exact ⟨(Prod.mk.inj this).1.symm, (Prod.mk.inj this).2.symm⟩
    clear HE hrr
    have H1 : Hid (okT (⟨v1, v0, v7, v8, v2, v3, 0, v4, v5, u, v6⟩ : Tk) = false) := Lib.hid (by simpa using h1)
    clear h1
    go_wp2_with (first | (go_at_call 69; refine (refis9_any (⟨v1, v0, v7, v8, v2, v3, 0, v4, v5, u, v6⟩ : Tk) _ H1.out _).mono ?_; rintro e w7 ⟨rfl, hb⟩; have HR7 := Lib.hid (HR6.out.next hb); have HZ7 := Lib.hid (HZ6.out.next hb); have HT7 := Lib.hid (HT6.out.next hb); have HB7 := Lib.hid (HB6.out.trans (hb.mono HB6.out.size)); clear hb; clear c0 c1 c2 c3 c4 c5 c6 c7 c8 c9 c10; obtain ⟨d0, d1, d2, d3, d4, d5, d6, d7, d8, d9, d10⟩ := HT7.out.cells; obtain ⟨e0, e1, e2, e3, e4, e5, e6, e7, e8, e9, e10, e11, e12, e13, e14⟩ := HZ7.out.cells) | ((with_reducible refine at_store 2 ?_); refine wpList_store_named (o := ⟨none, .store 28 (.tmp 2) (.tmp 108), _, _, _, _⟩) rfl 28 (.tmp 2) (.tmp 108) rfl w.heap.size #[.int .i64 0, .int .i64 0, .int .i64 0, .int .i64 0, .int .i64 0, .int .i64 0, .int .i64 0, .int .i64 0, .int .i64 0, .int .i64 0, .int .i64 0, .int .i64 0, .int .i64 0, .int .i64 0, .int .i64 0] rfl rfl 28 #[.int .i64 0, .int .i64 0, .int .i64 0, .int .i64 0, .int .i64 0, .int .i64 0, .int .i64 0, .int .i64 0, .int .i64 0, .int .i64 0, .int .i64 0, .int .i64 0, .int .i64 0, .int .i64 0, .int .i64 0] HR7.out infoRd rfl (rg_one _ _ _ _ _ _ _ _ _ _ _ _ _ _ _) ?_))
    intro w9 hw9
    go_wp2
    refine bodyPost_ret (results_row_tmp' Tryz.results39 _ w9 w.heap.size 28 #[.int .i64 0, .int .i64 0, .int .i64 0, .int .i64 0, .int .i64 0, .int .i64 0, .int .i64 0, .int .i64 0, .int .i64 0, .int .i64 0, .int .i64 0, .int .i64 0, .int .i64 0, .int .i64 0, .int .i64 0] (0, 0) _ rfl (by rw [hw9.out]; exact setRow_heap _ _ _ _ _ _ HR7.out) Tryz.underlying28 rfl infoRd) rfl ⟨rfl, ?_⟩
    rw [hw9.out]
    exact below_setRow HB7.out (Nat.le_refl _) _
  have H1 := Lib.hid h1
  by_cases h2 : suitB (u) v9 v10 = true
  rotate_left
  · have hrr : ¬ (rightR (⟨(⟨v1, v0, v7, v8, v2, v3, 0, v4, v5, u, v6⟩ : Tk), v11, v9, v10, 0⟩ : Rg) = true) := fun h => h2 ((rightR_iff _).1 h).2
    obtain ⟨rfl, rfl⟩ : E = 9 ∧ r = zeroR := by have := HE.out; rw [if_neg hrr] at this; exact ⟨(Prod.mk.inj this).1.symm, (Prod.mk.inj this).2.symm⟩
    clear HE hrr
    have H2 : Hid (suitB (u) v9 v10 = false) := Lib.hid (by simpa using h2)
    clear h1 h2
    go_wp2_with (first | (go_at_call 69; refine (refis9_any (⟨v1, v0, v7, v8, v2, v3, 0, v4, v5, u, v6⟩ : Tk) _ H1.out _).mono ?_; rintro e w7 ⟨rfl, hb⟩; have HR7 := Lib.hid (HR6.out.next hb); have HZ7 := Lib.hid (HZ6.out.next hb); have HT7 := Lib.hid (HT6.out.next hb); have HB7 := Lib.hid (HB6.out.trans (hb.mono HB6.out.size)); clear hb; clear c0 c1 c2 c3 c4 c5 c6 c7 c8 c9 c10; obtain ⟨d0, d1, d2, d3, d4, d5, d6, d7, d8, d9, d10⟩ := HT7.out.cells; obtain ⟨e0, e1, e2, e3, e4, e5, e6, e7, e8, e9, e10, e11, e12, e13, e14⟩ := HZ7.out.cells) | (go_at_call 70; refine (rsuits_any (⟨v1, v0, v7, v8, v2, v3, 0, v4, v5, u, v6⟩ : Tk) v9 v10 _ H2.out _).mono ?_; rintro e w8 ⟨rfl, hb⟩; have HR8 := Lib.hid (HR7.out.next hb); have HZ8 := Lib.hid (HZ7.out.next hb); have HB8 := Lib.hid (HB7.out.trans (hb.mono HB7.out.size)); clear hb; clear d0 d1 d2 d3 d4 d5 d6 d7 d8 d9 d10 e0 e1 e2 e3 e4 e5 e6 e7 e8 e9 e10 e11 e12 e13 e14; obtain ⟨f0, f1, f2, f3, f4, f5, f6, f7, f8, f9, f10, f11, f12, f13, f14⟩ := HZ8.out.cells) | ((with_reducible refine at_store 2 ?_); refine wpList_store_named (o := ⟨none, .store 28 (.tmp 2) (.tmp 108), _, _, _, _⟩) rfl 28 (.tmp 2) (.tmp 108) rfl w.heap.size #[.int .i64 0, .int .i64 0, .int .i64 0, .int .i64 0, .int .i64 0, .int .i64 0, .int .i64 0, .int .i64 0, .int .i64 0, .int .i64 0, .int .i64 0, .int .i64 0, .int .i64 0, .int .i64 0, .int .i64 0] rfl rfl 28 #[.int .i64 0, .int .i64 0, .int .i64 0, .int .i64 0, .int .i64 0, .int .i64 0, .int .i64 0, .int .i64 0, .int .i64 0, .int .i64 0, .int .i64 0, .int .i64 0, .int .i64 0, .int .i64 0, .int .i64 0] HR8.out infoRd rfl (rg_one _ _ _ _ _ _ _ _ _ _ _ _ _ _ _) ?_))
    intro w9 hw9
    go_wp2
    refine bodyPost_ret (results_row_tmp' Tryz.results39 _ w9 w.heap.size 28 #[.int .i64 0, .int .i64 0, .int .i64 0, .int .i64 0, .int .i64 0, .int .i64 0, .int .i64 0, .int .i64 0, .int .i64 0, .int .i64 0, .int .i64 0, .int .i64 0, .int .i64 0, .int .i64 0, .int .i64 0] (0, 0) _ rfl (by rw [hw9.out]; exact setRow_heap _ _ _ _ _ _ HR8.out) Tryz.underlying28 rfl infoRd) rfl ⟨rfl, ?_⟩
    rw [hw9.out]
    exact below_setRow HB8.out (Nat.le_refl _) _
  · have hrr : rightR (⟨(⟨v1, v0, v7, v8, v2, v3, 0, v4, v5, u, v6⟩ : Tk), v11, v9, v10, 0⟩ : Rg) = true := (rightR_iff _).2 ⟨h1, h2⟩
    obtain ⟨rfl, rfl⟩ : E = 0 ∧ r = (⟨(⟨v1, v0, v7, v8, v2, v3, 0, v4, v5, u, v6⟩ : Tk), v11, v9, v10, 0⟩ : Rg) := by have := HE.out; rw [if_pos hrr] at this; exact ⟨(Prod.mk.inj this).1.symm, (Prod.mk.inj this).2.symm⟩
    clear HE hrr
    have H2 := Lib.hid h2
    clear h1 h2
    go_wp2_with (first | (go_at_call 69; refine (refis9_any (⟨v1, v0, v7, v8, v2, v3, 0, v4, v5, u, v6⟩ : Tk) _ H1.out _).mono ?_; rintro e w7 ⟨rfl, hb⟩; have HR7 := Lib.hid (HR6.out.next hb); have HZ7 := Lib.hid (HZ6.out.next hb); have HT7 := Lib.hid (HT6.out.next hb); have HB7 := Lib.hid (HB6.out.trans (hb.mono HB6.out.size)); clear hb; clear c0 c1 c2 c3 c4 c5 c6 c7 c8 c9 c10; obtain ⟨d0, d1, d2, d3, d4, d5, d6, d7, d8, d9, d10⟩ := HT7.out.cells; obtain ⟨e0, e1, e2, e3, e4, e5, e6, e7, e8, e9, e10, e11, e12, e13, e14⟩ := HZ7.out.cells) | (go_at_call 70; refine (rsuits_any (⟨v1, v0, v7, v8, v2, v3, 0, v4, v5, u, v6⟩ : Tk) v9 v10 _ H2.out _).mono ?_; rintro e w8 ⟨rfl, hb⟩; have HR8 := Lib.hid (HR7.out.next hb); have HZ8 := Lib.hid (HZ7.out.next hb); have HB8 := Lib.hid (HB7.out.trans (hb.mono HB7.out.size)); clear hb; clear d0 d1 d2 d3 d4 d5 d6 d7 d8 d9 d10 e0 e1 e2 e3 e4 e5 e6 e7 e8 e9 e10 e11 e12 e13 e14; obtain ⟨f0, f1, f2, f3, f4, f5, f6, f7, f8, f9, f10, f11, f12, f13, f14⟩ := HZ8.out.cells) | ((with_reducible refine at_store 2 ?_); refine wpList_store_named (o := ⟨none, .store 28 (.tmp 2) (.tmp 109), _, _, _, _⟩) rfl 28 (.tmp 2) (.tmp 109) rfl w.heap.size #[.int .i64 v1, .int .i64 v0, .int .i64 v7, .int .i64 v8, .int .i64 v2, .int .i64 v3, .int .i64 0, .int .i64 v4, .int .i64 v5, .int .i64 u, .int .i64 v6, .int .i64 v11, .int .i64 v9, .int .i64 v10, .int .i64 0] rfl rfl 28 #[.int .i64 0, .int .i64 0, .int .i64 0, .int .i64 0, .int .i64 0, .int .i64 0, .int .i64 0, .int .i64 0, .int .i64 0, .int .i64 0, .int .i64 0, .int .i64 0, .int .i64 0, .int .i64 0, .int .i64 0] HR8.out infoRd rfl (rg_one _ _ _ _ _ _ _ _ _ _ _ _ _ _ _) ?_))
    intro w9 hw9
    go_wp2
    refine bodyPost_ret (results_row_tmp' Tryz.results39 _ w9 w.heap.size 28 #[.int .i64 v1, .int .i64 v0, .int .i64 v7, .int .i64 v8, .int .i64 v2, .int .i64 v3, .int .i64 0, .int .i64 v4, .int .i64 v5, .int .i64 u, .int .i64 v6, .int .i64 v11, .int .i64 v9, .int .i64 v10, .int .i64 0] (0, 0) _ rfl (by rw [hw9.out]; exact setRow_heap _ _ _ _ _ _ HR8.out) Tryz.underlying28 rfl infoRd) rfl ⟨rfl, ?_⟩
    rw [hw9.out]
    exact below_setRow HB8.out (Nat.le_refl _) _
end Go.Proofs.YtpniolinndlepaaGreatDoor
