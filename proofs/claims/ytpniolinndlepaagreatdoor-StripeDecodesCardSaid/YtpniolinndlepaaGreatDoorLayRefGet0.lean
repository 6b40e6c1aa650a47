/-
  Contract for the reference's Get: what is refused ahead of the fields. Conditions: the slice reads as bytes.
-/
import Derived.Test.YtpniolinndlepaaGreatDoorLayRefA
import Derived.Test.YtpniolinndlepaaGreatDoorLayB
import Derived.Test.YtpniolinndlepaaGreatDoorBcdRefAll
import Derived.OwnWalk
import Derived.RegionTactic
import Derived.BigRegion
namespace Go.Proofs.YtpniolinndlepaaGreatDoor
set_option linter.unusedVariables false
open Go.ChangeShapes Go.WideShapes Go.ChangeAt Go.RowKit

set_option maxRecDepth 100000 in
set_option maxHeartbeats 1600000 in
theorem rlget_p0 (l : List Nat) (n : Nat) (hn : n = l.length) (E : Int) (r : Rg) (hE : lgetX l = (E, r)) (A : Option Addr) (c : Nat) (w : World) (hA : Bs w w.heap.size l A c) (h : l = []) : Calls Tryz.prog 39 #[.slice A n c] w fun e w' => e = .returned (.tuple #[.agg #[.int .i64 r.t.ser, .int .i64 r.t.kind, .int .i64 r.t.frm, .int .i64 r.t.till, .int .i64 r.t.cls, .int .i64 r.t.card, .int .i64 r.t.seat, .int .i64 r.t.day, .int .i64 r.t.days, .int .i64 r.t.uses, .int .i64 r.t.epoch, .int .i64 r.key, .int .i64 r.left, .int .i64 r.inn, .int .i64 r.ver], .int .i64 E]) ∧ Below w.heap.size w w' := by
  subst h
  obtain ⟨rfl, rfl⟩ : E = 14 ∧ r = zeroR := by have := hE; exact ⟨(Prod.mk.inj this).1.symm, (Prod.mk.inj this).2.symm⟩
  obtain rfl : n = 0 := hn
  clear hE
  go_enter Tryz.func39, Tryz.ntmps39
  go_wp2
  exact bodyPost_ret (results_row_tmp' Tryz.results39 _ _ w.heap.size 28 #[.int .i64 0, .int .i64 0, .int .i64 0, .int .i64 0, .int .i64 0, .int .i64 0, .int .i64 0, .int .i64 0, .int .i64 0, .int .i64 0, .int .i64 0, .int .i64 0, .int .i64 0, .int .i64 0, .int .i64 0] (0, 0) _ rfl (heap_alloc_new w _) Tryz.underlying28 rfl infoRd) rfl ⟨rfl, below_lit w _ _⟩
set_option maxRecDepth 100000 in
set_option maxHeartbeats 1600000 in
theorem rlget_p1 (x : Nat) (q : List Nat) (n : Nat) (hn : n = (x :: q).length) (E : Int) (r : Rg) (hE : lgetX (x :: q) = (E, r)) (A : Option Addr) (c : Nat) (w : World) (hA : Bs w w.heap.size (x :: q) A c) (hx : 9 < x) : Calls Tryz.prog 39 #[.slice A n c] w fun e w' => e = .returned (.tuple #[.agg #[.int .i64 r.t.ser, .int .i64 r.t.kind, .int .i64 r.t.frm, .int .i64 r.t.till, .int .i64 r.t.cls, .int .i64 r.t.card, .int .i64 r.t.seat, .int .i64 r.t.day, .int .i64 r.t.days, .int .i64 r.t.uses, .int .i64 r.t.epoch, .int .i64 r.key, .int .i64 r.left, .int .i64 r.inn, .int .i64 r.ver], .int .i64 E]) ∧ Below w.heap.size w w' := by
  obtain ⟨rfl, rfl⟩ : E = 7 ∧ r = zeroR := by have := hE; rw [lgetX, if_pos hx] at this; exact ⟨(Prod.mk.inj this).1.symm, (Prod.mk.inj this).2.symm⟩
  clear hE
  have hn63 : n ≤ 9223372036854775807 := by have := hA.len; have := hA.cap; omega
  have hn1 : 1 ≤ n := by rw [hn]; simp
  have hnz : ((n : Int) == 0) = false := by rw [beq_eq_false_iff_ne]; omega
  obtain ⟨ad, rfl, hb0, hc0⟩ := (hA.next (below_lit w #[.int .i64 0, .int .i64 0, .int .i64 0, .int .i64 0, .int .i64 0, .int .i64 0, .int .i64 0, .int .i64 0, .int .i64 0, .int .i64 0, .int .i64 0, .int .i64 0, .int .i64 0, .int .i64 0, .int .i64 0] 28)).rd 0 _ (U8_at (x :: q) 0 (by simp))
  have hc1 := hc0
  rw [add_zero'] at hc1
  simp only [List.getElem_cons_zero] at hc0 hc1
  have hx255 : x < 256 := hA.lt x (by simp)
  have HN := Lib.hid hn
  have HA := Lib.hid hA
  clear hn hA
  go_enter Tryz.func39, Tryz.ntmps39
  go_wp2
  exact bodyPost_ret (results_row_tmp' Tryz.results39 _ _ w.heap.size 28 #[.int .i64 0, .int .i64 0, .int .i64 0, .int .i64 0, .int .i64 0, .int .i64 0, .int .i64 0, .int .i64 0, .int .i64 0, .int .i64 0, .int .i64 0, .int .i64 0, .int .i64 0, .int .i64 0, .int .i64 0] (0, 0) _ rfl (heap_alloc_new w _) Tryz.underlying28 rfl infoRd) rfl ⟨rfl, below_lit w _ _⟩
set_option maxRecDepth 100000 in
set_option maxHeartbeats 1600000 in
theorem rlget_p2 (x : Nat) (q : List Nat) (n : Nat) (hn : n = (x :: q).length) (E : Int) (r : Rg) (hE : lgetX (x :: q) = (E, r)) (A : Option Addr) (c : Nat) (w : World) (hA : Bs w w.heap.size (x :: q) A c) (hx : ¬ 9 < x) (hw : ¬ (1 ≤ (x : Int) ∧ (x : Int) ≤ 4)) : Calls Tryz.prog 39 #[.slice A n c] w fun e w' => e = .returned (.tuple #[.agg #[.int .i64 r.t.ser, .int .i64 r.t.kind, .int .i64 r.t.frm, .int .i64 r.t.till, .int .i64 r.t.cls, .int .i64 r.t.card, .int .i64 r.t.seat, .int .i64 r.t.day, .int .i64 r.t.days, .int .i64 r.t.uses, .int .i64 r.t.epoch, .int .i64 r.key, .int .i64 r.left, .int .i64 r.inn, .int .i64 r.ver], .int .i64 E]) ∧ Below w.heap.size w w' := by
  obtain ⟨rfl, rfl⟩ : E = 8 ∧ r = zeroR := by have := hE; rw [lgetX, if_neg hx, widE, if_neg hw, if_pos (by decide)] at this; exact ⟨(Prod.mk.inj this).1.symm, (Prod.mk.inj this).2.symm⟩
  have HWE := Lib.hid (show widE x = 8 by rw [widE, if_neg hw])
  have HWL := Lib.hid (show widL x = [] by rw [widL, if_neg hw])
  have HWN := Lib.hid (show 0 = ([] : List Int).length from rfl)
  have hx9 : x ≤ 9 := by omega
  clear hE hx hw
  have hn63 : n ≤ 9223372036854775807 := by have := hA.len; have := hA.cap; omega
  have hn1 : 1 ≤ n := by rw [hn]; simp
  have hnz : ((n : Int) == 0) = false := by rw [beq_eq_false_iff_ne]; omega
  obtain ⟨ad, rfl, hb0, hc0⟩ := (hA.next (below_lit w #[.int .i64 0, .int .i64 0, .int .i64 0, .int .i64 0, .int .i64 0, .int .i64 0, .int .i64 0, .int .i64 0, .int .i64 0, .int .i64 0, .int .i64 0, .int .i64 0, .int .i64 0, .int .i64 0, .int .i64 0] 28)).rd 0 _ (U8_at (x :: q) 0 (by simp))
  have hc1 := hc0
  rw [add_zero'] at hc1
  simp only [List.getElem_cons_zero] at hc0 hc1
  have hx255 : x < 256 := hA.lt x (by simp)
  have HN := Lib.hid hn
  have HA := Lib.hid hA
  clear hn hA
  go_enter Tryz.func39, Tryz.ntmps39
  go_wp2_with (first | (go_at_call 71; refine (rwidths_any x _ [] _ HWN.out HWE.out HWL.out _).mono ?_; rintro e w2 ⟨AW, cW, rfl, hz, hb⟩; have HZ := Lib.hid hz; have HR := Lib.hid ((RBox.new w zeroR).next hb); have HB2 := Lib.hid (below_after _ _ hb); have HA2 := Lib.hid (HA.out.next (below_after _ _ hb)); clear hz hb) | ((with_reducible refine at_store 2 ?_); refine wpList_store_named (o := ⟨none, .store 28 (.tmp 2) (.tmp 30), _, _, _, _⟩) rfl 28 (.tmp 2) (.tmp 30) rfl w.heap.size #[.int .i64 0, .int .i64 0, .int .i64 0, .int .i64 0, .int .i64 0, .int .i64 0, .int .i64 0, .int .i64 0, .int .i64 0, .int .i64 0, .int .i64 0, .int .i64 0, .int .i64 0, .int .i64 0, .int .i64 0] rfl rfl 28 #[.int .i64 0, .int .i64 0, .int .i64 0, .int .i64 0, .int .i64 0, .int .i64 0, .int .i64 0, .int .i64 0, .int .i64 0, .int .i64 0, .int .i64 0, .int .i64 0, .int .i64 0, .int .i64 0, .int .i64 0] HR.out infoRd rfl (rg_one _ _ _ _ _ _ _ _ _ _ _ _ _ _ _) ?_))
  intro w9 hw9
  go_wp2
  refine bodyPost_ret (results_row_tmp' Tryz.results39 _ w9 w.heap.size 28 #[.int .i64 0, .int .i64 0, .int .i64 0, .int .i64 0, .int .i64 0, .int .i64 0, .int .i64 0, .int .i64 0, .int .i64 0, .int .i64 0, .int .i64 0, .int .i64 0, .int .i64 0, .int .i64 0, .int .i64 0] (0, 0) _ rfl (by rw [hw9.out]; exact setRow_heap _ _ _ _ _ _ HR.out) Tryz.underlying28 rfl infoRd) rfl ⟨rfl, ?_⟩
  rw [hw9.out]
  exact below_setRow HB2.out (Nat.le_refl _) _
set_option maxRecDepth 100000 in
set_option maxHeartbeats 1600000 in
theorem rlget_p3 (x : Nat) (q : List Nat) (n : Nat) (hn : n = (x :: q).length) (E : Int) (r : Rg) (hE : lgetX (x :: q) = (E, r)) (A : Option Addr) (c : Nat) (w : World) (hA : Bs w w.heap.size (x :: q) A c) (hx : ¬ 9 < x) (hw : 1 ≤ (x : Int) ∧ (x : Int) ≤ 4) (s : Int) (hs : (splitX (x :: q) (widL x)).1 = s) (hs0 : s ≠ 0) : Calls Tryz.prog 39 #[.slice A n c] w fun e w' => e = .returned (.tuple #[.agg #[.int .i64 r.t.ser, .int .i64 r.t.kind, .int .i64 r.t.frm, .int .i64 r.t.till, .int .i64 r.t.cls, .int .i64 r.t.card, .int .i64 r.t.seat, .int .i64 r.t.day, .int .i64 r.t.days, .int .i64 r.t.uses, .int .i64 r.t.epoch, .int .i64 r.key, .int .i64 r.left, .int .i64 r.inn, .int .i64 r.ver], .int .i64 E]) ∧ Below w.heap.size w w' := by
  obtain ⟨rfl, rfl⟩ : E = s ∧ r = zeroR := by have := hE; rw [lgetX, if_neg hx, widE, if_pos hw, if_neg (by decide), lgetN, if_pos (by rw [hs]; exact hs0)] at this; exact ⟨(Prod.mk.inj this).1.symm.trans hs, (Prod.mk.inj this).2.symm⟩
  have hn2 := split_not (l := x :: q) (ws := widL x) (by rw [hs]; exact hs0)
  have HS := Lib.hid (show splitX (x :: q) (widL x) = (E, []) by rw [← hs, ← hn2])
  have hne : (E != 0) = true := by rw [bne_iff_ne]; exact hs0
  obtain ⟨m, hm⟩ : ∃ m, m = (widL x).length := ⟨_, rfl⟩
  have HWE := Lib.hid (show widE x = 0 by rw [widE, if_pos hw])
  have HWN := Lib.hid hm
  have hx9 : x ≤ 9 := by omega
  clear hE hx hw hs hn2 hs0 hm
  have hn63 : n ≤ 9223372036854775807 := by have := hA.len; have := hA.cap; omega
  have hn1 : 1 ≤ n := by rw [hn]; simp
  have hnz : ((n : Int) == 0) = false := by rw [beq_eq_false_iff_ne]; omega
  obtain ⟨ad, rfl, hb0, hc0⟩ := (hA.next (below_lit w #[.int .i64 0, .int .i64 0, .int .i64 0, .int .i64 0, .int .i64 0, .int .i64 0, .int .i64 0, .int .i64 0, .int .i64 0, .int .i64 0, .int .i64 0, .int .i64 0, .int .i64 0, .int .i64 0, .int .i64 0] 28)).rd 0 _ (U8_at (x :: q) 0 (by simp))
  have hc1 := hc0
  rw [add_zero'] at hc1
  simp only [List.getElem_cons_zero] at hc0 hc1
  have hx255 : x < 256 := hA.lt x (by simp)
  have HN := Lib.hid hn
  have HA := Lib.hid hA
  clear hn hA
  go_enter Tryz.func39, Tryz.ntmps39
  go_wp2_with (first | (go_at_call 71; refine (rwidths_any x _ (widL x) _ HWN.out HWE.out rfl _).mono ?_; rintro e w2 ⟨AW, cW, rfl, hz, hb⟩; have HZ := Lib.hid hz; have HR := Lib.hid ((RBox.new w zeroR).next hb); have HB2 := Lib.hid (below_after _ _ hb); have HA2 := Lib.hid (HA.out.next (below_after _ _ hb)); clear hz hb) | (go_at_call 80; refine (rsplit_any (x :: q) (widL x) n m HN.out HWN.out _ _ HS.out (some ad) AW c cW _ HA2.out HZ.out).mono ?_; rintro e w3 ⟨AS, cS, rfl, hz, hb⟩; have HV := Lib.hid hz; have HR3 := Lib.hid (HR.out.next hb); have HB3 := Lib.hid (HB2.out.trans (hb.mono HB2.out.size)); clear hz hb) | ((with_reducible refine at_store 2 ?_); refine wpList_store_named (o := ⟨none, .store 28 (.tmp 2) (.tmp 40), _, _, _, _⟩) rfl 28 (.tmp 2) (.tmp 40) rfl w.heap.size #[.int .i64 0, .int .i64 0, .int .i64 0, .int .i64 0, .int .i64 0, .int .i64 0, .int .i64 0, .int .i64 0, .int .i64 0, .int .i64 0, .int .i64 0, .int .i64 0, .int .i64 0, .int .i64 0, .int .i64 0] rfl rfl 28 #[.int .i64 0, .int .i64 0, .int .i64 0, .int .i64 0, .int .i64 0, .int .i64 0, .int .i64 0, .int .i64 0, .int .i64 0, .int .i64 0, .int .i64 0, .int .i64 0, .int .i64 0, .int .i64 0, .int .i64 0] HR3.out infoRd rfl (rg_one _ _ _ _ _ _ _ _ _ _ _ _ _ _ _) ?_))
  intro w9 hw9
  go_wp2
  refine bodyPost_ret (results_row_tmp' Tryz.results39 _ w9 w.heap.size 28 #[.int .i64 0, .int .i64 0, .int .i64 0, .int .i64 0, .int .i64 0, .int .i64 0, .int .i64 0, .int .i64 0, .int .i64 0, .int .i64 0, .int .i64 0, .int .i64 0, .int .i64 0, .int .i64 0, .int .i64 0] (0, 0) _ rfl (by rw [hw9.out]; exact setRow_heap _ _ _ _ _ _ HR3.out) Tryz.underlying28 rfl infoRd) rfl ⟨rfl, ?_⟩
  rw [hw9.out]
  exact below_setRow HB3.out (Nat.le_refl _) _
end Go.Proofs.YtpniolinndlepaaGreatDoor
