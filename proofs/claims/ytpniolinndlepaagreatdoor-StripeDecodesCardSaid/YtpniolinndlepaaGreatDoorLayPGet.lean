/-
  Contract for the landed Get of layout. Conditions: the slice reads as bytes.
-/
import Derived.Test.YtpniolinndlepaaGreatDoorLayB
import Derived.Test.YtpniolinndlepaaGreatDoorLayA
import Derived.Test.YtpniolinndlepaaGreatDoorTicketPIs
import Derived.Test.YtpniolinndlepaaGreatDoorBcdB
import Derived.OwnWalk
namespace Go.Proofs.YtpniolinndlepaaGreatDoor
set_option linter.unusedVariables false
open Go.ChangeShapes Go.WideShapes Go.ChangeAt Go.RowKit

set_option maxRecDepth 100000 in
set_option maxHeartbeats 1600000 in
theorem lget_p0 (l : List Nat) (n : Nat) (hn : n = l.length) (E : Int) (r : Rg) (hE : lgetX l = (E, r)) (A : Option Addr) (c : Nat) (w : World) (hA : Bs w w.heap.size l A c) (h : l = []) : Calls Tryz.prog 76 #[.slice A n c] w fun e w' => e = .returned (.tuple #[.agg #[.int .i64 r.t.ser, .int .i64 r.t.kind, .int .i64 r.t.frm, .int .i64 r.t.till, .int .i64 r.t.cls, .int .i64 r.t.card, .int .i64 r.t.seat, .int .i64 r.t.day, .int .i64 r.t.days, .int .i64 r.t.uses, .int .i64 r.t.epoch, .int .i64 r.key, .int .i64 r.left, .int .i64 r.inn, .int .i64 r.ver], .int .i64 E]) ∧ Below w.heap.size w w' := by
  subst h
  obtain ⟨rfl, rfl⟩ : E = 14 ∧ r = zeroR := by have := hE; exact ⟨(Prod.mk.inj this).1.symm, (Prod.mk.inj this).2.symm⟩
  obtain rfl : n = 0 := hn
  clear hE
  go_enter Tryz.func76, Tryz.ntmps76
  go_wp2_with (go_at_call 105; refine (pkindof_none c A _).mono ?_; rintro e w1 ⟨rfl, rfl⟩)
  exact bodyPost_ret (results_row_tmp' Tryz.results76 _ _ w.heap.size 28 #[.int .i64 0, .int .i64 0, .int .i64 0, .int .i64 0, .int .i64 0, .int .i64 0, .int .i64 0, .int .i64 0, .int .i64 0, .int .i64 0, .int .i64 0, .int .i64 0, .int .i64 0, .int .i64 0, .int .i64 0] (0, 0) _ rfl (heap_alloc_new w _) Tryz.underlying28 rfl infoRd) rfl ⟨rfl, below_lit w _ _⟩
set_option maxRecDepth 100000 in
set_option maxHeartbeats 1600000 in
theorem lget_p1 (x : Nat) (q : List Nat) (n : Nat) (hn : n = (x :: q).length) (E : Int) (r : Rg) (hE : lgetX (x :: q) = (E, r)) (A : Option Addr) (c : Nat) (w : World) (hA : Bs w w.heap.size (x :: q) A c) (hx : 9 < x) : Calls Tryz.prog 76 #[.slice A n c] w fun e w' => e = .returned (.tuple #[.agg #[.int .i64 r.t.ser, .int .i64 r.t.kind, .int .i64 r.t.frm, .int .i64 r.t.till, .int .i64 r.t.cls, .int .i64 r.t.card, .int .i64 r.t.seat, .int .i64 r.t.day, .int .i64 r.t.days, .int .i64 r.t.uses, .int .i64 r.t.epoch, .int .i64 r.key, .int .i64 r.left, .int .i64 r.inn, .int .i64 r.ver], .int .i64 E]) ∧ Below w.heap.size w w' := by
  obtain ⟨rfl, rfl⟩ : E = 7 ∧ r = zeroR := by have := hE; rw [lgetX, if_pos hx] at this; exact ⟨(Prod.mk.inj this).1.symm, (Prod.mk.inj this).2.symm⟩
  have HG := Lib.hid (show bgetX [x] = (7, 0) by rw [getX_one, if_pos hx])
  clear hE hx
  have HN := Lib.hid hn
  have HA := Lib.hid hA
  clear hn hA
  go_enter Tryz.func76, Tryz.ntmps76
  go_wp2_with (go_at_call 105; refine (pkindof_some x q n HN.out _ _ HG.out A c _ (HA.out.next (below_lit w _ _))).mono ?_; rintro e w1 ⟨rfl, rfl⟩)
  exact bodyPost_ret (results_row_tmp' Tryz.results76 _ _ w.heap.size 28 #[.int .i64 0, .int .i64 0, .int .i64 0, .int .i64 0, .int .i64 0, .int .i64 0, .int .i64 0, .int .i64 0, .int .i64 0, .int .i64 0, .int .i64 0, .int .i64 0, .int .i64 0, .int .i64 0, .int .i64 0] (0, 0) _ rfl (heap_alloc_new w _) Tryz.underlying28 rfl infoRd) rfl ⟨rfl, below_lit w _ _⟩
set_option maxRecDepth 100000 in
set_option maxHeartbeats 1600000 in
theorem lget_p2 (x : Nat) (q : List Nat) (n : Nat) (hn : n = (x :: q).length) (E : Int) (r : Rg) (hE : lgetX (x :: q) = (E, r)) (A : Option Addr) (c : Nat) (w : World) (hA : Bs w w.heap.size (x :: q) A c) (hx : ¬ 9 < x) (hw : ¬ (1 ≤ (x : Int) ∧ (x : Int) ≤ 4)) : Calls Tryz.prog 76 #[.slice A n c] w fun e w' => e = .returned (.tuple #[.agg #[.int .i64 r.t.ser, .int .i64 r.t.kind, .int .i64 r.t.frm, .int .i64 r.t.till, .int .i64 r.t.cls, .int .i64 r.t.card, .int .i64 r.t.seat, .int .i64 r.t.day, .int .i64 r.t.days, .int .i64 r.t.uses, .int .i64 r.t.epoch, .int .i64 r.key, .int .i64 r.left, .int .i64 r.inn, .int .i64 r.ver], .int .i64 E]) ∧ Below w.heap.size w w' := by
  obtain ⟨rfl, rfl⟩ : E = 8 ∧ r = zeroR := by have := hE; rw [lgetX, if_neg hx, widE, if_neg hw, if_pos (by decide)] at this; exact ⟨(Prod.mk.inj this).1.symm, (Prod.mk.inj this).2.symm⟩
  have HG := Lib.hid (show bgetX [x] = (0, x) by rw [getX_one, if_neg hx])
  have HWE := Lib.hid (show widE x = 8 by rw [widE, if_neg hw])
  have HWL := Lib.hid (show widL x = [] by rw [widL, if_neg hw])
  have HWN := Lib.hid (show 0 = ([] : List Int).length from rfl)
  clear hE hx hw
  have HN := Lib.hid hn
  have HA := Lib.hid hA
  clear hn hA
  go_enter Tryz.func76, Tryz.ntmps76
  go_wp2_with (first | (go_at_call 105; refine (pkindof_some x q n HN.out _ _ HG.out A c _ (HA.out.next (below_lit w _ _))).mono ?_; rintro e w1 ⟨rfl, rfl⟩) | (go_at_call 106; refine (pwidths_any x _ _ _ HWN.out HWE.out HWL.out _).mono ?_; rintro e w2 ⟨AW, cW, rfl, hz, hb⟩; have HZ := Lib.hid hz; have HR := Lib.hid ((RBox.new w zeroR).next hb); have HB2 := Lib.hid (below_after _ _ hb); have HA2 := Lib.hid (HA.out.next (below_after _ _ hb)); clear hz hb) | ((with_reducible refine at_store 2 ?_); refine wpList_store_named (o := ⟨none, .store 28 (.tmp 2) (.tmp 25), _, _, _, _⟩) rfl 28 (.tmp 2) (.tmp 25) rfl w.heap.size #[.int .i64 0, .int .i64 0, .int .i64 0, .int .i64 0, .int .i64 0, .int .i64 0, .int .i64 0, .int .i64 0, .int .i64 0, .int .i64 0, .int .i64 0, .int .i64 0, .int .i64 0, .int .i64 0, .int .i64 0] rfl rfl 28 #[.int .i64 0, .int .i64 0, .int .i64 0, .int .i64 0, .int .i64 0, .int .i64 0, .int .i64 0, .int .i64 0, .int .i64 0, .int .i64 0, .int .i64 0, .int .i64 0, .int .i64 0, .int .i64 0, .int .i64 0] HR.out infoRd rfl (rg_one _ _ _ _ _ _ _ _ _ _ _ _ _ _ _) ?_))
  intro w9 hw9
  go_wp2
  refine bodyPost_ret (results_row_tmp' Tryz.results76 _ w9 w.heap.size 28 #[.int .i64 0, .int .i64 0, .int .i64 0, .int .i64 0, .int .i64 0, .int .i64 0, .int .i64 0, .int .i64 0, .int .i64 0, .int .i64 0, .int .i64 0, .int .i64 0, .int .i64 0, .int .i64 0, .int .i64 0] (0, 0) _ rfl (by rw [hw9.out]; exact setRow_heap _ _ _ _ _ _ HR.out) Tryz.underlying28 rfl infoRd) rfl ⟨rfl, ?_⟩
  rw [hw9.out]
  exact below_setRow HB2.out (Nat.le_refl _) _
set_option maxRecDepth 100000 in
set_option maxHeartbeats 1600000 in
theorem lget_p3 (x : Nat) (q : List Nat) (n : Nat) (hn : n = (x :: q).length) (E : Int) (r : Rg) (hE : lgetX (x :: q) = (E, r)) (A : Option Addr) (c : Nat) (w : World) (hA : Bs w w.heap.size (x :: q) A c) (hx : ¬ 9 < x) (hw : 1 ≤ (x : Int) ∧ (x : Int) ≤ 4) (s : Int) (hs : (splitX (x :: q) (widL x)).1 = s) (hs0 : s ≠ 0) : Calls Tryz.prog 76 #[.slice A n c] w fun e w' => e = .returned (.tuple #[.agg #[.int .i64 r.t.ser, .int .i64 r.t.kind, .int .i64 r.t.frm, .int .i64 r.t.till, .int .i64 r.t.cls, .int .i64 r.t.card, .int .i64 r.t.seat, .int .i64 r.t.day, .int .i64 r.t.days, .int .i64 r.t.uses, .int .i64 r.t.epoch, .int .i64 r.key, .int .i64 r.left, .int .i64 r.inn, .int .i64 r.ver], .int .i64 E]) ∧ Below w.heap.size w w' := by
  obtain ⟨rfl, rfl⟩ : E = s ∧ r = zeroR := by have := hE; rw [lgetX, if_neg hx, widE, if_pos hw, if_neg (by decide), lgetN, if_pos (by rw [hs]; exact hs0)] at this; exact ⟨(Prod.mk.inj this).1.symm.trans hs, (Prod.mk.inj this).2.symm⟩
  have hn2 := split_not (l := x :: q) (ws := widL x) (by rw [hs]; exact hs0)
  have HS := Lib.hid (show splitX (x :: q) (widL x) = (E, []) by rw [← hs, ← hn2])
  have hne : (E != 0) = true := by rw [bne_iff_ne]; exact hs0
  have HG := Lib.hid (show bgetX [x] = (0, x) by rw [getX_one, if_neg hx])
  obtain ⟨m, hm⟩ : ∃ m, m = (widL x).length := ⟨_, rfl⟩
  have HWE := Lib.hid (show widE x = 0 by rw [widE, if_pos hw])
  have HWN := Lib.hid hm
  clear hE hx hw hs hn2 hs0 hm
  have HN := Lib.hid hn
  have HA := Lib.hid hA
  clear hn hA
  go_enter Tryz.func76, Tryz.ntmps76
  go_wp2_with (first | (go_at_call 105; refine (pkindof_some x q n HN.out _ _ HG.out A c _ (HA.out.next (below_lit w _ _))).mono ?_; rintro e w1 ⟨rfl, rfl⟩) | (go_at_call 106; refine (pwidths_any x _ (widL x) _ HWN.out HWE.out rfl _).mono ?_; rintro e w2 ⟨AW, cW, rfl, hz, hb⟩; have HZ := Lib.hid hz; have HR := Lib.hid ((RBox.new w zeroR).next hb); have HB2 := Lib.hid (below_after _ _ hb); have HA2 := Lib.hid (HA.out.next (below_after _ _ hb)); clear hz hb) | (go_at_call 107; refine (bpsplit_any (x :: q) (widL x) n m HN.out HWN.out _ _ HS.out A AW c cW _ HA2.out HZ.out).mono ?_; rintro e w3 ⟨AS, cS, rfl, hz, hb⟩; have HV := Lib.hid hz; have HR3 := Lib.hid (HR.out.next hb); have HB3 := Lib.hid (HB2.out.trans (hb.mono HB2.out.size)); clear hz hb) | ((with_reducible refine at_store 2 ?_); refine wpList_store_named (o := ⟨none, .store 28 (.tmp 2) (.tmp 35), _, _, _, _⟩) rfl 28 (.tmp 2) (.tmp 35) rfl w.heap.size #[.int .i64 0, .int .i64 0, .int .i64 0, .int .i64 0, .int .i64 0, .int .i64 0, .int .i64 0, .int .i64 0, .int .i64 0, .int .i64 0, .int .i64 0, .int .i64 0, .int .i64 0, .int .i64 0, .int .i64 0] rfl rfl 28 #[.int .i64 0, .int .i64 0, .int .i64 0, .int .i64 0, .int .i64 0, .int .i64 0, .int .i64 0, .int .i64 0, .int .i64 0, .int .i64 0, .int .i64 0, .int .i64 0, .int .i64 0, .int .i64 0, .int .i64 0] HR3.out infoRd rfl (rg_one _ _ _ _ _ _ _ _ _ _ _ _ _ _ _) ?_))
  intro w9 hw9
  go_wp2
  refine bodyPost_ret (results_row_tmp' Tryz.results76 _ w9 w.heap.size 28 #[.int .i64 0, .int .i64 0, .int .i64 0, .int .i64 0, .int .i64 0, .int .i64 0, .int .i64 0, .int .i64 0, .int .i64 0, .int .i64 0, .int .i64 0, .int .i64 0, .int .i64 0, .int .i64 0, .int .i64 0] (0, 0) _ rfl (by rw [hw9.out]; exact setRow_heap _ _ _ _ _ _ HR3.out) Tryz.underlying28 rfl infoRd) rfl ⟨rfl, ?_⟩
  rw [hw9.out]
  exact below_setRow HB3.out (Nat.le_refl _) _
set_option maxRecDepth 100000 in
set_option maxHeartbeats 1600000 in
theorem lget_p4 (x : Nat) (q : List Nat) (n : Nat) (hn : n = (x :: q).length) (E : Int) (r : Rg) (hE : lgetX (x :: q) = (E, r)) (A : Option Addr) (c : Nat) (w : World) (hA : Bs w w.heap.size (x :: q) A c) (hx : ¬ 9 < x) (hw : 1 ≤ (x : Int) ∧ (x : Int) ≤ 4) (v : List Int) (hs : splitX (x :: q) (widL x) = (0, v)) (t : Rg) (ht : toldR x v = t) (h1 : okT t.t = false) : Calls Tryz.prog 76 #[.slice A n c] w fun e w' => e = .returned (.tuple #[.agg #[.int .i64 r.t.ser, .int .i64 r.t.kind, .int .i64 r.t.frm, .int .i64 r.t.till, .int .i64 r.t.cls, .int .i64 r.t.card, .int .i64 r.t.seat, .int .i64 r.t.day, .int .i64 r.t.days, .int .i64 r.t.uses, .int .i64 r.t.epoch, .int .i64 r.key, .int .i64 r.left, .int .i64 r.inn, .int .i64 r.ver], .int .i64 E]) ∧ Below w.heap.size w w' := by
  have hrr : ¬ (rightR t = true) := fun h => by rw [((rightR_iff t).1 h).1] at h1; cases h1
  obtain ⟨rfl, rfl⟩ : E = 9 ∧ r = zeroR := by have := hE; rw [lgetX, if_neg hx, widE, if_pos hw, if_neg (by decide), lgetN, hs, if_neg (by simp), ht, if_neg hrr] at this; exact ⟨(Prod.mk.inj this).1.symm, (Prod.mk.inj this).2.symm⟩
  have hvl := splitN_len hs
  obtain ⟨k, hk⟩ : ∃ k, k = v.length := ⟨_, rfl⟩
  have HKV := Lib.hid hk
  have HVL := Lib.hid hvl
  have HT := Lib.hid ht
  have HS := Lib.hid hs
  have HK := Lib.hid hw
  have HG := Lib.hid (show bgetX [x] = (0, x) by rw [getX_one, if_neg hx])
  obtain ⟨m, hm⟩ : ∃ m, m = (widL x).length := ⟨_, rfl⟩
  have HWE := Lib.hid (show widE x = 0 by rw [widE, if_pos hw])
  have HWN := Lib.hid hm
  have H1 := Lib.hid h1
  clear h1
  clear hE hx hw hs ht hvl hk hm hrr
  have HN := Lib.hid hn
  have HA := Lib.hid hA
  clear hn hA
  go_enter Tryz.func76, Tryz.ntmps76
  go_wp2_with (first | (go_at_call 105; refine (pkindof_some x q n HN.out _ _ HG.out A c _ (HA.out.next (below_lit w _ _))).mono ?_; rintro e w1 ⟨rfl, rfl⟩) | (go_at_call 106; refine (pwidths_any x _ (widL x) _ HWN.out HWE.out rfl _).mono ?_; rintro e w2 ⟨AW, cW, rfl, hz, hb⟩; have HZ := Lib.hid hz; have HR := Lib.hid ((RBox.new w zeroR).next hb); have HB2 := Lib.hid (below_after _ _ hb); have HA2 := Lib.hid (HA.out.next (below_after _ _ hb)); clear hz hb) | (go_at_call 107; refine (bpsplit_any (x :: q) (widL x) n m HN.out HWN.out _ _ HS.out A AW c cW _ HA2.out HZ.out).mono ?_; rintro e w3 ⟨AS, cS, rfl, hz, hb⟩; have HV := Lib.hid hz; have HR3 := Lib.hid (HR.out.next hb); have HB3 := Lib.hid (HB2.out.trans (hb.mono HB2.out.size)); clear hz hb; try rw [← HKV.out]) | (go_at_call 108; refine (ptold_any x HK.out v k HKV.out HVL.out t HT.out AS cS _ HV.out).mono ?_; rintro e w4 ⟨rfl, hb⟩; have HR4 := Lib.hid (HR3.out.next hb); have HB4 := Lib.hid (HB3.out.trans (hb.mono HB3.out.size)); have HR5 := Lib.hid (HR4.out.alloc (.cells #[.int .i64 t.t.ser, .int .i64 t.t.kind, .int .i64 t.t.frm, .int .i64 t.t.till, .int .i64 t.t.cls, .int .i64 t.t.card, .int .i64 t.t.seat, .int .i64 t.t.day, .int .i64 t.t.days, .int .i64 t.t.uses, .int .i64 t.t.epoch, .int .i64 t.key, .int .i64 t.left, .int .i64 t.inn, .int .i64 t.ver] 28)); have HT5 := Lib.hid (RBox.new w4 t); have HB5 := Lib.hid (HB4.out.trans ((below_lit w4 #[.int .i64 t.t.ser, .int .i64 t.t.kind, .int .i64 t.t.frm, .int .i64 t.t.till, .int .i64 t.t.cls, .int .i64 t.t.card, .int .i64 t.t.seat, .int .i64 t.t.day, .int .i64 t.t.days, .int .i64 t.t.uses, .int .i64 t.t.epoch, .int .i64 t.key, .int .i64 t.left, .int .i64 t.inn, .int .i64 t.ver] 28).mono HB4.out.size)); clear hb) | (go_at_call 59; refine (pis9_any t.t _ H1.out _).mono ?_; rintro e w6 ⟨rfl, hb⟩; have HR6 := Lib.hid (HR5.out.next hb); have HT6 := Lib.hid (HT5.out.next hb); have HB6 := Lib.hid (HB5.out.trans (hb.mono HB5.out.size)); clear hb; obtain ⟨c0, c1, c2, c3, c4, c5, c6, c7, c8, c9, c10, c11, c12, c13, c14⟩ := HT6.out.cells) | ((with_reducible refine at_store 2 ?_); refine wpList_store_named (o := ⟨none, .store 28 (.tmp 2) (.tmp 52), _, _, _, _⟩) rfl 28 (.tmp 2) (.tmp 52) rfl w.heap.size #[.int .i64 0, .int .i64 0, .int .i64 0, .int .i64 0, .int .i64 0, .int .i64 0, .int .i64 0, .int .i64 0, .int .i64 0, .int .i64 0, .int .i64 0, .int .i64 0, .int .i64 0, .int .i64 0, .int .i64 0] rfl rfl 28 #[.int .i64 0, .int .i64 0, .int .i64 0, .int .i64 0, .int .i64 0, .int .i64 0, .int .i64 0, .int .i64 0, .int .i64 0, .int .i64 0, .int .i64 0, .int .i64 0, .int .i64 0, .int .i64 0, .int .i64 0] HR6.out infoRd rfl (rg_one _ _ _ _ _ _ _ _ _ _ _ _ _ _ _) ?_))
  intro w9 hw9
  go_wp2
  refine bodyPost_ret (results_row_tmp' Tryz.results76 _ w9 w.heap.size 28 #[.int .i64 0, .int .i64 0, .int .i64 0, .int .i64 0, .int .i64 0, .int .i64 0, .int .i64 0, .int .i64 0, .int .i64 0, .int .i64 0, .int .i64 0, .int .i64 0, .int .i64 0, .int .i64 0, .int .i64 0] (0, 0) _ rfl (by rw [hw9.out]; exact setRow_heap _ _ _ _ _ _ HR6.out) Tryz.underlying28 rfl infoRd) rfl ⟨rfl, ?_⟩
  rw [hw9.out]
  exact below_setRow HB6.out (Nat.le_refl _) _
set_option maxRecDepth 100000 in
set_option maxHeartbeats 1600000 in
theorem lget_p5 (x : Nat) (q : List Nat) (n : Nat) (hn : n = (x :: q).length) (E : Int) (r : Rg) (hE : lgetX (x :: q) = (E, r)) (A : Option Addr) (c : Nat) (w : World) (hA : Bs w w.heap.size (x :: q) A c) (hx : ¬ 9 < x) (hw : 1 ≤ (x : Int) ∧ (x : Int) ≤ 4) (v : List Int) (hs : splitX (x :: q) (widL x) = (0, v)) (t : Rg) (ht : toldR x v = t) (h1 : okT t.t = true) (h2 : suitB t.t.uses t.left t.inn = false) : Calls Tryz.prog 76 #[.slice A n c] w fun e w' => e = .returned (.tuple #[.agg #[.int .i64 r.t.ser, .int .i64 r.t.kind, .int .i64 r.t.frm, .int .i64 r.t.till, .int .i64 r.t.cls, .int .i64 r.t.card, .int .i64 r.t.seat, .int .i64 r.t.day, .int .i64 r.t.days, .int .i64 r.t.uses, .int .i64 r.t.epoch, .int .i64 r.key, .int .i64 r.left, .int .i64 r.inn, .int .i64 r.ver], .int .i64 E]) ∧ Below w.heap.size w w' := by
  have hrr : ¬ (rightR t = true) := fun h => by rw [((rightR_iff t).1 h).2] at h2; cases h2
  obtain ⟨rfl, rfl⟩ : E = 9 ∧ r = zeroR := by have := hE; rw [lgetX, if_neg hx, widE, if_pos hw, if_neg (by decide), lgetN, hs, if_neg (by simp), ht, if_neg hrr] at this; exact ⟨(Prod.mk.inj this).1.symm, (Prod.mk.inj this).2.symm⟩
  have hvl := splitN_len hs
  obtain ⟨k, hk⟩ : ∃ k, k = v.length := ⟨_, rfl⟩
  have HKV := Lib.hid hk
  have HVL := Lib.hid hvl
  have HT := Lib.hid ht
  have HS := Lib.hid hs
  have HK := Lib.hid hw
  have HG := Lib.hid (show bgetX [x] = (0, x) by rw [getX_one, if_neg hx])
  obtain ⟨m, hm⟩ : ∃ m, m = (widL x).length := ⟨_, rfl⟩
  have HWE := Lib.hid (show widE x = 0 by rw [widE, if_pos hw])
  have HWN := Lib.hid hm
  have H1 := Lib.hid h1
  have H2 := Lib.hid h2
  clear h1 h2
  clear hE hx hw hs ht hvl hk hm hrr
  have HN := Lib.hid hn
  have HA := Lib.hid hA
  clear hn hA
  go_enter Tryz.func76, Tryz.ntmps76
  go_wp2_with (first | (go_at_call 105; refine (pkindof_some x q n HN.out _ _ HG.out A c _ (HA.out.next (below_lit w _ _))).mono ?_; rintro e w1 ⟨rfl, rfl⟩) | (go_at_call 106; refine (pwidths_any x _ (widL x) _ HWN.out HWE.out rfl _).mono ?_; rintro e w2 ⟨AW, cW, rfl, hz, hb⟩; have HZ := Lib.hid hz; have HR := Lib.hid ((RBox.new w zeroR).next hb); have HB2 := Lib.hid (below_after _ _ hb); have HA2 := Lib.hid (HA.out.next (below_after _ _ hb)); clear hz hb) | (go_at_call 107; refine (bpsplit_any (x :: q) (widL x) n m HN.out HWN.out _ _ HS.out A AW c cW _ HA2.out HZ.out).mono ?_; rintro e w3 ⟨AS, cS, rfl, hz, hb⟩; have HV := Lib.hid hz; have HR3 := Lib.hid (HR.out.next hb); have HB3 := Lib.hid (HB2.out.trans (hb.mono HB2.out.size)); clear hz hb; try rw [← HKV.out]) | (go_at_call 108; refine (ptold_any x HK.out v k HKV.out HVL.out t HT.out AS cS _ HV.out).mono ?_; rintro e w4 ⟨rfl, hb⟩; have HR4 := Lib.hid (HR3.out.next hb); have HB4 := Lib.hid (HB3.out.trans (hb.mono HB3.out.size)); have HR5 := Lib.hid (HR4.out.alloc (.cells #[.int .i64 t.t.ser, .int .i64 t.t.kind, .int .i64 t.t.frm, .int .i64 t.t.till, .int .i64 t.t.cls, .int .i64 t.t.card, .int .i64 t.t.seat, .int .i64 t.t.day, .int .i64 t.t.days, .int .i64 t.t.uses, .int .i64 t.t.epoch, .int .i64 t.key, .int .i64 t.left, .int .i64 t.inn, .int .i64 t.ver] 28)); have HT5 := Lib.hid (RBox.new w4 t); have HB5 := Lib.hid (HB4.out.trans ((below_lit w4 #[.int .i64 t.t.ser, .int .i64 t.t.kind, .int .i64 t.t.frm, .int .i64 t.t.till, .int .i64 t.t.cls, .int .i64 t.t.card, .int .i64 t.t.seat, .int .i64 t.t.day, .int .i64 t.t.days, .int .i64 t.t.uses, .int .i64 t.t.epoch, .int .i64 t.key, .int .i64 t.left, .int .i64 t.inn, .int .i64 t.ver] 28).mono HB4.out.size)); clear hb) | (go_at_call 59; refine (pis9_any t.t _ H1.out _).mono ?_; rintro e w6 ⟨rfl, hb⟩; have HR6 := Lib.hid (HR5.out.next hb); have HT6 := Lib.hid (HT5.out.next hb); have HB6 := Lib.hid (HB5.out.trans (hb.mono HB5.out.size)); clear hb; obtain ⟨c0, c1, c2, c3, c4, c5, c6, c7, c8, c9, c10, c11, c12, c13, c14⟩ := HT6.out.cells) | (go_at_call 60; refine (psuits_any t.t t.left t.inn _ H2.out _).mono ?_; rintro e w7 ⟨rfl, hb⟩; have HR7 := Lib.hid (HR6.out.next hb); have HT7 := Lib.hid (HT6.out.next hb); have HB7 := Lib.hid (HB6.out.trans (hb.mono HB6.out.size)); clear hb c0 c1 c2 c3 c4 c5 c6 c7 c8 c9 c10 c11 c12 c13 c14; obtain ⟨d0, d1, d2, d3, d4, d5, d6, d7, d8, d9, d10, d11, d12, d13, d14⟩ := HT7.out.cells) | ((with_reducible refine at_store 2 ?_); refine wpList_store_named (o := ⟨none, .store 28 (.tmp 2) (.tmp 52), _, _, _, _⟩) rfl 28 (.tmp 2) (.tmp 52) rfl w.heap.size #[.int .i64 0, .int .i64 0, .int .i64 0, .int .i64 0, .int .i64 0, .int .i64 0, .int .i64 0, .int .i64 0, .int .i64 0, .int .i64 0, .int .i64 0, .int .i64 0, .int .i64 0, .int .i64 0, .int .i64 0] rfl rfl 28 #[.int .i64 0, .int .i64 0, .int .i64 0, .int .i64 0, .int .i64 0, .int .i64 0, .int .i64 0, .int .i64 0, .int .i64 0, .int .i64 0, .int .i64 0, .int .i64 0, .int .i64 0, .int .i64 0, .int .i64 0] HR7.out infoRd rfl (rg_one _ _ _ _ _ _ _ _ _ _ _ _ _ _ _) ?_))
  intro w9 hw9
  go_wp2
  refine bodyPost_ret (results_row_tmp' Tryz.results76 _ w9 w.heap.size 28 #[.int .i64 0, .int .i64 0, .int .i64 0, .int .i64 0, .int .i64 0, .int .i64 0, .int .i64 0, .int .i64 0, .int .i64 0, .int .i64 0, .int .i64 0, .int .i64 0, .int .i64 0, .int .i64 0, .int .i64 0] (0, 0) _ rfl (by rw [hw9.out]; exact setRow_heap _ _ _ _ _ _ HR7.out) Tryz.underlying28 rfl infoRd) rfl ⟨rfl, ?_⟩
  rw [hw9.out]
  exact below_setRow HB7.out (Nat.le_refl _) _
set_option maxRecDepth 100000 in
set_option maxHeartbeats 1600000 in
theorem lget_p6 (x : Nat) (q : List Nat) (n : Nat) (hn : n = (x :: q).length) (E : Int) (r : Rg) (hE : lgetX (x :: q) = (E, r)) (A : Option Addr) (c : Nat) (w : World) (hA : Bs w w.heap.size (x :: q) A c) (hx : ¬ 9 < x) (hw : 1 ≤ (x : Int) ∧ (x : Int) ≤ 4) (v : List Int) (hs : splitX (x :: q) (widL x) = (0, v)) (t : Rg) (ht : toldR x v = t) (h1 : okT t.t = true) (h2 : suitB t.t.uses t.left t.inn = true) : Calls Tryz.prog 76 #[.slice A n c] w fun e w' => e = .returned (.tuple #[.agg #[.int .i64 r.t.ser, .int .i64 r.t.kind, .int .i64 r.t.frm, .int .i64 r.t.till, .int .i64 r.t.cls, .int .i64 r.t.card, .int .i64 r.t.seat, .int .i64 r.t.day, .int .i64 r.t.days, .int .i64 r.t.uses, .int .i64 r.t.epoch, .int .i64 r.key, .int .i64 r.left, .int .i64 r.inn, .int .i64 r.ver], .int .i64 E]) ∧ Below w.heap.size w w' := by
  have hrr : rightR t = true := (rightR_iff t).2 ⟨h1, h2⟩
  obtain ⟨rfl, rfl⟩ : E = 0 ∧ r = t := by have := hE; rw [lgetX, if_neg hx, widE, if_pos hw, if_neg (by decide), lgetN, hs, if_neg (by simp), ht, if_pos hrr] at this; exact ⟨(Prod.mk.inj this).1.symm, (Prod.mk.inj this).2.symm⟩
  have hvl := splitN_len hs
  obtain ⟨k, hk⟩ : ∃ k, k = v.length := ⟨_, rfl⟩
  have HKV := Lib.hid hk
  have HVL := Lib.hid hvl
  have HT := Lib.hid ht
  have HS := Lib.hid hs
  have HK := Lib.hid hw
  have HG := Lib.hid (show bgetX [x] = (0, x) by rw [getX_one, if_neg hx])
  obtain ⟨m, hm⟩ : ∃ m, m = (widL x).length := ⟨_, rfl⟩
  have HWE := Lib.hid (show widE x = 0 by rw [widE, if_pos hw])
  have HWN := Lib.hid hm
  have H1 := Lib.hid h1
  have H2 := Lib.hid h2
  clear h1 h2
  clear hE hx hw hs ht hvl hk hm hrr
  have HN := Lib.hid hn
  have HA := Lib.hid hA
  clear hn hA
  go_enter Tryz.func76, Tryz.ntmps76
  go_wp2_with (first | (go_at_call 105; refine (pkindof_some x q n HN.out _ _ HG.out A c _ (HA.out.next (below_lit w _ _))).mono ?_; rintro e w1 ⟨rfl, rfl⟩) | (go_at_call 106; refine (pwidths_any x _ (widL x) _ HWN.out HWE.out rfl _).mono ?_; rintro e w2 ⟨AW, cW, rfl, hz, hb⟩; have HZ := Lib.hid hz; have HR := Lib.hid ((RBox.new w zeroR).next hb); have HB2 := Lib.hid (below_after _ _ hb); have HA2 := Lib.hid (HA.out.next (below_after _ _ hb)); clear hz hb) | (go_at_call 107; refine (bpsplit_any (x :: q) (widL x) n m HN.out HWN.out _ _ HS.out A AW c cW _ HA2.out HZ.out).mono ?_; rintro e w3 ⟨AS, cS, rfl, hz, hb⟩; have HV := Lib.hid hz; have HR3 := Lib.hid (HR.out.next hb); have HB3 := Lib.hid (HB2.out.trans (hb.mono HB2.out.size)); clear hz hb; try rw [← HKV.out]) | (go_at_call 108; refine (ptold_any x HK.out v k HKV.out HVL.out r HT.out AS cS _ HV.out).mono ?_; rintro e w4 ⟨rfl, hb⟩; have HR4 := Lib.hid (HR3.out.next hb); have HB4 := Lib.hid (HB3.out.trans (hb.mono HB3.out.size)); have HR5 := Lib.hid (HR4.out.alloc (.cells #[.int .i64 r.t.ser, .int .i64 r.t.kind, .int .i64 r.t.frm, .int .i64 r.t.till, .int .i64 r.t.cls, .int .i64 r.t.card, .int .i64 r.t.seat, .int .i64 r.t.day, .int .i64 r.t.days, .int .i64 r.t.uses, .int .i64 r.t.epoch, .int .i64 r.key, .int .i64 r.left, .int .i64 r.inn, .int .i64 r.ver] 28)); have HT5 := Lib.hid (RBox.new w4 r); have HB5 := Lib.hid (HB4.out.trans ((below_lit w4 #[.int .i64 r.t.ser, .int .i64 r.t.kind, .int .i64 r.t.frm, .int .i64 r.t.till, .int .i64 r.t.cls, .int .i64 r.t.card, .int .i64 r.t.seat, .int .i64 r.t.day, .int .i64 r.t.days, .int .i64 r.t.uses, .int .i64 r.t.epoch, .int .i64 r.key, .int .i64 r.left, .int .i64 r.inn, .int .i64 r.ver] 28).mono HB4.out.size)); clear hb) | (go_at_call 59; refine (pis9_any r.t _ H1.out _).mono ?_; rintro e w6 ⟨rfl, hb⟩; have HR6 := Lib.hid (HR5.out.next hb); have HT6 := Lib.hid (HT5.out.next hb); have HB6 := Lib.hid (HB5.out.trans (hb.mono HB5.out.size)); clear hb; obtain ⟨c0, c1, c2, c3, c4, c5, c6, c7, c8, c9, c10, c11, c12, c13, c14⟩ := HT6.out.cells) | (go_at_call 60; refine (psuits_any r.t r.left r.inn _ H2.out _).mono ?_; rintro e w7 ⟨rfl, hb⟩; have HR7 := Lib.hid (HR6.out.next hb); have HT7 := Lib.hid (HT6.out.next hb); have HB7 := Lib.hid (HB6.out.trans (hb.mono HB6.out.size)); clear hb c0 c1 c2 c3 c4 c5 c6 c7 c8 c9 c10 c11 c12 c13 c14; obtain ⟨d0, d1, d2, d3, d4, d5, d6, d7, d8, d9, d10, d11, d12, d13, d14⟩ := HT7.out.cells) | ((with_reducible refine at_store 2 ?_); refine wpList_store_named (o := ⟨none, .store 28 (.tmp 2) (.tmp 53), _, _, _, _⟩) rfl 28 (.tmp 2) (.tmp 53) rfl w.heap.size #[.int .i64 r.t.ser, .int .i64 r.t.kind, .int .i64 r.t.frm, .int .i64 r.t.till, .int .i64 r.t.cls, .int .i64 r.t.card, .int .i64 r.t.seat, .int .i64 r.t.day, .int .i64 r.t.days, .int .i64 r.t.uses, .int .i64 r.t.epoch, .int .i64 r.key, .int .i64 r.left, .int .i64 r.inn, .int .i64 r.ver] rfl rfl 28 #[.int .i64 0, .int .i64 0, .int .i64 0, .int .i64 0, .int .i64 0, .int .i64 0, .int .i64 0, .int .i64 0, .int .i64 0, .int .i64 0, .int .i64 0, .int .i64 0, .int .i64 0, .int .i64 0, .int .i64 0] HR7.out infoRd rfl (rg_one _ _ _ _ _ _ _ _ _ _ _ _ _ _ _) ?_))
  intro w9 hw9
  go_wp2
  refine bodyPost_ret (results_row_tmp' Tryz.results76 _ w9 w.heap.size 28 #[.int .i64 r.t.ser, .int .i64 r.t.kind, .int .i64 r.t.frm, .int .i64 r.t.till, .int .i64 r.t.cls, .int .i64 r.t.card, .int .i64 r.t.seat, .int .i64 r.t.day, .int .i64 r.t.days, .int .i64 r.t.uses, .int .i64 r.t.epoch, .int .i64 r.key, .int .i64 r.left, .int .i64 r.inn, .int .i64 r.ver] (0, 0) _ rfl (by rw [hw9.out]; exact setRow_heap _ _ _ _ _ _ HR7.out) Tryz.underlying28 rfl infoRd) rfl ⟨rfl, ?_⟩
  rw [hw9.out]
  exact below_setRow HB7.out (Nat.le_refl _) _
theorem lget_any (l : List Nat) (n : Nat) (hn : n = l.length) (E : Int) (r : Rg) (hE : lgetX l = (E, r)) (A : Option Addr) (c : Nat) (w : World) (hA : Bs w w.heap.size l A c) : Calls Tryz.prog 76 #[.slice A n c] w fun e w' => e = .returned (.tuple #[.agg #[.int .i64 r.t.ser, .int .i64 r.t.kind, .int .i64 r.t.frm, .int .i64 r.t.till, .int .i64 r.t.cls, .int .i64 r.t.card, .int .i64 r.t.seat, .int .i64 r.t.day, .int .i64 r.t.days, .int .i64 r.t.uses, .int .i64 r.t.epoch, .int .i64 r.key, .int .i64 r.left, .int .i64 r.inn, .int .i64 r.ver], .int .i64 E]) ∧ Below w.heap.size w w' := by
  match l, hn, hE, hA with
  | [], hn, hE, hA => exact lget_p0 [] n hn E r hE A c w hA rfl
  | x :: q, hn, hE, hA =>
    by_cases hx : 9 < x
    · exact lget_p1 x q n hn E r hE A c w hA hx
    · by_cases hw : 1 ≤ (x : Int) ∧ (x : Int) ≤ 4
      · by_cases hs0 : (splitX (x :: q) (widL x)).1 = 0
        · have hs : splitX (x :: q) (widL x) = (0, (splitX (x :: q) (widL x)).2) := by rw [← hs0]
          by_cases h1 : okT (toldR x (splitX (x :: q) (widL x)).2).t = true
          · by_cases h2 : suitB (toldR x (splitX (x :: q) (widL x)).2).t.uses (toldR x (splitX (x :: q) (widL x)).2).left (toldR x (splitX (x :: q) (widL x)).2).inn = true
            · exact lget_p6 x q n hn E r hE A c w hA hx hw _ hs _ rfl h1 h2
            · exact lget_p5 x q n hn E r hE A c w hA hx hw _ hs _ rfl h1 (by simpa using h2)
          · exact lget_p4 x q n hn E r hE A c w hA hx hw _ hs _ rfl (by simpa using h1)
        · exact lget_p3 x q n hn E r hE A c w hA hx hw _ rfl hs0
      · exact lget_p2 x q n hn E r hE A c w hA hx hw
end Go.Proofs.YtpniolinndlepaaGreatDoor
