/-
  Contracts for the landed function that tells a ticket's kind, if it is right, any kind that has bounds, a way and prices of its own. Conditions: as each says.
  Contracts for the landed function that tells a ticket's kind, if it is right, kind at all. Conditions: as each says.
  Contract for the landed Is of tickets. Conditions: none.
-/
import Derived.Test.YtaokhkbfiplfmaaDoorMem
section
namespace Go.Proofs.YtaokhkbfiplfmaaDoor
set_option linter.unusedVariables false
open Go.ChangeShapes Go.WideShapes Go.ChangeAt Go.RowKit

/-- The method tells this kind of a ticket; a method tells this of a ticket. -/
def KdOf (t : Tk) (lo hi : Int) (f f2 f3 : Nat) : Prop := ∀ w, Calls Tryd.prog 46 #[.agg #[.int .i64 t.ser, .int .i64 t.kind, .int .i64 t.frm, .int .i64 t.till, .int .i64 t.cls, .int .i64 t.card, .int .i64 t.seat, .int .i64 t.day, .int .i64 t.days, .int .i64 t.uses, .int .i64 t.epoch]] w fun e w' => e = .returned (.tuple #[.agg #[.int .i64 lo, .int .i64 hi, .func (.func f) #[.agg #[.int .i64 t.ser, .int .i64 t.kind, .int .i64 t.frm, .int .i64 t.till, .int .i64 t.cls, .int .i64 t.card, .int .i64 t.seat, .int .i64 t.day, .int .i64 t.days, .int .i64 t.uses, .int .i64 t.epoch]] #[], .func (.func f2) #[.agg #[.int .i64 t.ser, .int .i64 t.kind, .int .i64 t.frm, .int .i64 t.till, .int .i64 t.cls, .int .i64 t.card, .int .i64 t.seat, .int .i64 t.day, .int .i64 t.days, .int .i64 t.uses, .int .i64 t.epoch]] #[], .func (.func f3) #[.agg #[.int .i64 t.ser, .int .i64 t.kind, .int .i64 t.frm, .int .i64 t.till, .int .i64 t.cls, .int .i64 t.card, .int .i64 t.seat, .int .i64 t.day, .int .i64 t.days, .int .i64 t.uses, .int .i64 t.epoch]] #[]], .bool true]) ∧ Below w.heap.size w w'
def HasOf (t : Tk) (f : Nat) (h : Bool) : Prop := ∀ w, Calls Tryd.prog f #[.agg #[.int .i64 t.ser, .int .i64 t.kind, .int .i64 t.frm, .int .i64 t.till, .int .i64 t.cls, .int .i64 t.card, .int .i64 t.seat, .int .i64 t.day, .int .i64 t.days, .int .i64 t.uses, .int .i64 t.epoch]] w fun e w' => e = .returned (.bool h) ∧ Below w.heap.size w w'
set_option maxRecDepth 20000 in
set_option maxHeartbeats 3200000 in
theorem pr_k_ttt (t : Tk) (lo hi : Int) (f f2 f3 : Nat) (hk : KdOf t lo hi f f2 f3) (x : hbB t = true) (y : inB t.uses lo hi = true) (he : ∀ (a : Array Value) (w : World), (callFunc f a).run Tryd.prog w = .ok (.enter f a) w) (z : HasOf t f true) (w : World) : Calls Tryd.prog 36 #[.agg #[.int .i64 t.ser, .int .i64 t.kind, .int .i64 t.frm, .int .i64 t.till, .int .i64 t.cls, .int .i64 t.card, .int .i64 t.seat, .int .i64 t.day, .int .i64 t.days, .int .i64 t.uses, .int .i64 t.epoch]] w fun e w' => e = .returned (.tuple #[.agg #[.int .i64 lo, .int .i64 hi, .func (.func f) #[.agg #[.int .i64 t.ser, .int .i64 t.kind, .int .i64 t.frm, .int .i64 t.till, .int .i64 t.cls, .int .i64 t.card, .int .i64 t.seat, .int .i64 t.day, .int .i64 t.days, .int .i64 t.uses, .int .i64 t.epoch]] #[], .func (.func f2) #[.agg #[.int .i64 t.ser, .int .i64 t.kind, .int .i64 t.frm, .int .i64 t.till, .int .i64 t.cls, .int .i64 t.card, .int .i64 t.seat, .int .i64 t.day, .int .i64 t.days, .int .i64 t.uses, .int .i64 t.epoch]] #[], .func (.func f3) #[.agg #[.int .i64 t.ser, .int .i64 t.kind, .int .i64 t.frm, .int .i64 t.till, .int .i64 t.cls, .int .i64 t.card, .int .i64 t.seat, .int .i64 t.day, .int .i64 t.days, .int .i64 t.uses, .int .i64 t.epoch]] #[]], .bool true]) ∧ Below w.heap.size w w' := by
  have HK := Lib.hid hk
  have HX := Lib.hid x
  have HY := Lib.hid y
  have HZ := Lib.hid z
  clear hk x y z
  go_enter Tryd.func36, Tryd.ntmps36
  go_wp2_with fail
  refine (HK.out _).mono ?_
  rintro e w1 ⟨rfl, hb⟩
  obtain ⟨hc, hf⟩ := bcell hb
  have hz := hb.size
  simp only [World.size_alloc] at hz
  have hz2 : w.heap.size + 1 + 1 < w1.heap.size := by omega
  have hz1 : w.heap.size + 1 < w1.heap.size := by omega
  have hr := (hb.block (w.heap.size + 1) (by simp)).trans ((heap_alloc_old _ _ (by simp)).trans (heap_alloc2_new w _ _))
  have HB1 := Lib.hid ((((Below.refl _ w).alloc (Nat.le_refl _) _).alloc (by simp) _ |>.alloc (by simp; omega) _).trans (hb.mono (by simp; omega)))
  clear hb hz
  go_wp2_with fail
  refine (pbounds_any t true HX.out _).mono ?_
  rintro e w2 ⟨rfl, hb⟩
  obtain ⟨hc2, hf2⟩ := bcell hb
  have hz := hb.size
  try simp only [World.size_alloc] at hz
  have hz22 : w.heap.size + 1 + 1 < w2.heap.size := by omega
  have hz21 : w.heap.size + 1 < w2.heap.size := by omega
  have hz20 : w1.heap.size < w2.heap.size := by omega
  have HB2 := Lib.hid ((HB1.out.alloc HB1.out.size _).trans (hb.mono (by simp; omega)))
  replace hr := (hb.block (w.heap.size + 1) (by simp; omega)).trans ((heap_alloc_old _ _ (by omega)).trans hr)
  clear hb hz
  go_wp2_with fail
  refine (pwithin_any _ _ _ _ HY.out _).mono ?_
  rintro e w3 ⟨rfl, e1⟩
  rw [e1]
  clear e1 w3
  go_wp2_with fail
  refine (HZ.out _).mono ?_
  rintro e w3 ⟨rfl, hb⟩
  obtain ⟨hc3, hf3⟩ := bcell hb
  have hz := hb.size
  try simp only [World.size_alloc] at hz
  have hz32 : w.heap.size + 1 + 1 < w3.heap.size := by omega
  have hz31 : w.heap.size + 1 < w3.heap.size := by omega
  have hz30 : w1.heap.size < w3.heap.size := by omega
  have HB3 := Lib.hid (HB2.out.trans (hb.mono (by omega)))
  replace hr := (hb.block (w.heap.size + 1) (by omega)).trans hr
  clear hb hz
  have HR := Lib.hid hr
  clear hr
  go_wp2_with ((with_reducible refine at_store 2 ?_); refine wpList_store_named (o := ⟨none, .store 77 (.tmp 2) (.tmp 37), _, _, _, _⟩) rfl 77 (.tmp 2) (.tmp 37) rfl (w.heap.size + 1) #[.int .i64 lo, .int .i64 hi, .func (.func f) #[.agg #[.int .i64 t.ser, .int .i64 t.kind, .int .i64 t.frm, .int .i64 t.till, .int .i64 t.cls, .int .i64 t.card, .int .i64 t.seat, .int .i64 t.day, .int .i64 t.days, .int .i64 t.uses, .int .i64 t.epoch]] #[], .func (.func f2) #[.agg #[.int .i64 t.ser, .int .i64 t.kind, .int .i64 t.frm, .int .i64 t.till, .int .i64 t.cls, .int .i64 t.card, .int .i64 t.seat, .int .i64 t.day, .int .i64 t.days, .int .i64 t.uses, .int .i64 t.epoch]] #[], .func (.func f3) #[.agg #[.int .i64 t.ser, .int .i64 t.kind, .int .i64 t.frm, .int .i64 t.till, .int .i64 t.cls, .int .i64 t.card, .int .i64 t.seat, .int .i64 t.day, .int .i64 t.days, .int .i64 t.uses, .int .i64 t.epoch]] #[]] rfl rfl 77 #[.int .i64 0, .int .i64 0, .nilFunc, .nilFunc, .nilFunc] HR.out infoKd rfl (kd_one _ _ _ _ _ rfl rfl rfl) ?_)
  intro w4 hw4
  go_wp2
  refine bodyPost_ret (results_row_tmp' Tryd.results36 _ w4 (w.heap.size + 1) 77 #[.int .i64 lo, .int .i64 hi, .func (.func f) #[.agg #[.int .i64 t.ser, .int .i64 t.kind, .int .i64 t.frm, .int .i64 t.till, .int .i64 t.cls, .int .i64 t.card, .int .i64 t.seat, .int .i64 t.day, .int .i64 t.days, .int .i64 t.uses, .int .i64 t.epoch]] #[], .func (.func f2) #[.agg #[.int .i64 t.ser, .int .i64 t.kind, .int .i64 t.frm, .int .i64 t.till, .int .i64 t.cls, .int .i64 t.card, .int .i64 t.seat, .int .i64 t.day, .int .i64 t.days, .int .i64 t.uses, .int .i64 t.epoch]] #[], .func (.func f3) #[.agg #[.int .i64 t.ser, .int .i64 t.kind, .int .i64 t.frm, .int .i64 t.till, .int .i64 t.cls, .int .i64 t.card, .int .i64 t.seat, .int .i64 t.day, .int .i64 t.days, .int .i64 t.uses, .int .i64 t.epoch]] #[]] (0, 0) _ rfl (by rw [hw4.out]; exact setRow_heap _ _ _ _ _ _ HR.out) Tryd.underlying77 rfl infoKd) rfl ⟨rfl, ?_⟩
  rw [hw4.out]
  exact below_setRow HB3.out (by omega) _
set_option maxRecDepth 20000 in
set_option maxHeartbeats 3200000 in
theorem pr_k_fff (t : Tk) (lo hi : Int) (f f2 f3 : Nat) (hk : KdOf t lo hi f f2 f3) (x : hbB t = false) (w : World) : Calls Tryd.prog 36 #[.agg #[.int .i64 t.ser, .int .i64 t.kind, .int .i64 t.frm, .int .i64 t.till, .int .i64 t.cls, .int .i64 t.card, .int .i64 t.seat, .int .i64 t.day, .int .i64 t.days, .int .i64 t.uses, .int .i64 t.epoch]] w fun e w' => e = .returned (.tuple #[.agg #[.int .i64 0, .int .i64 0, .nilFunc, .nilFunc, .nilFunc], .bool false]) ∧ Below w.heap.size w w' := by
  have HK := Lib.hid hk
  have HX := Lib.hid x
  clear hk x
  go_enter Tryd.func36, Tryd.ntmps36
  go_wp2_with fail
  refine (HK.out _).mono ?_
  rintro e w1 ⟨rfl, hb⟩
  obtain ⟨hc, hf⟩ := bcell hb
  have hz := hb.size
  simp only [World.size_alloc] at hz
  have hz2 : w.heap.size + 1 + 1 < w1.heap.size := by omega
  have hz1 : w.heap.size + 1 < w1.heap.size := by omega
  have hr := (hb.block (w.heap.size + 1) (by simp)).trans ((heap_alloc_old _ _ (by simp)).trans (heap_alloc2_new w _ _))
  have HB1 := Lib.hid ((((Below.refl _ w).alloc (Nat.le_refl _) _).alloc (by simp) _ |>.alloc (by simp; omega) _).trans (hb.mono (by simp; omega)))
  clear hb hz
  go_wp2_with fail
  refine (pbounds_any t false HX.out _).mono ?_
  rintro e w2 ⟨rfl, hb⟩
  obtain ⟨hc2, hf2⟩ := bcell hb
  have hz := hb.size
  try simp only [World.size_alloc] at hz
  have hz22 : w.heap.size + 1 + 1 < w2.heap.size := by omega
  have hz21 : w.heap.size + 1 < w2.heap.size := by omega
  have hz20 : w1.heap.size < w2.heap.size := by omega
  have HB2 := Lib.hid ((HB1.out.alloc HB1.out.size _).trans (hb.mono (by simp; omega)))
  replace hr := (hb.block (w.heap.size + 1) (by simp; omega)).trans ((heap_alloc_old _ _ (by omega)).trans hr)
  clear hb hz
  have HR := Lib.hid hr
  clear hr
  go_wp2_with ((with_reducible refine at_store 2 ?_); refine wpList_store_named (o := ⟨none, .store 77 (.tmp 2) (.tmp 36), _, _, _, _⟩) rfl 77 (.tmp 2) (.tmp 36) rfl (w.heap.size + 1) #[.int .i64 0, .int .i64 0, .nilFunc, .nilFunc, .nilFunc] rfl rfl 77 #[.int .i64 0, .int .i64 0, .nilFunc, .nilFunc, .nilFunc] HR.out infoKd rfl (kd_one _ _ _ _ _ rfl rfl rfl) ?_)
  intro w4 hw4
  go_wp2
  refine bodyPost_ret (results_row_tmp' Tryd.results36 _ w4 (w.heap.size + 1) 77 #[.int .i64 0, .int .i64 0, .nilFunc, .nilFunc, .nilFunc] (0, 0) _ rfl (by rw [hw4.out]; exact setRow_heap _ _ _ _ _ _ HR.out) Tryd.underlying77 rfl infoKd) rfl ⟨rfl, ?_⟩
  rw [hw4.out]
  exact below_setRow HB2.out (by omega) _
set_option maxRecDepth 20000 in
set_option maxHeartbeats 3200000 in
theorem pr_k_tff (t : Tk) (lo hi : Int) (f f2 f3 : Nat) (hk : KdOf t lo hi f f2 f3) (x : hbB t = true) (y : inB t.uses lo hi = false) (w : World) : Calls Tryd.prog 36 #[.agg #[.int .i64 t.ser, .int .i64 t.kind, .int .i64 t.frm, .int .i64 t.till, .int .i64 t.cls, .int .i64 t.card, .int .i64 t.seat, .int .i64 t.day, .int .i64 t.days, .int .i64 t.uses, .int .i64 t.epoch]] w fun e w' => e = .returned (.tuple #[.agg #[.int .i64 0, .int .i64 0, .nilFunc, .nilFunc, .nilFunc], .bool false]) ∧ Below w.heap.size w w' := by
  have HK := Lib.hid hk
  have HX := Lib.hid x
  have HY := Lib.hid y
  clear hk x y
  go_enter Tryd.func36, Tryd.ntmps36
  go_wp2_with fail
  refine (HK.out _).mono ?_
  rintro e w1 ⟨rfl, hb⟩
  obtain ⟨hc, hf⟩ := bcell hb
  have hz := hb.size
  simp only [World.size_alloc] at hz
  have hz2 : w.heap.size + 1 + 1 < w1.heap.size := by omega
  have hz1 : w.heap.size + 1 < w1.heap.size := by omega
  have hr := (hb.block (w.heap.size + 1) (by simp)).trans ((heap_alloc_old _ _ (by simp)).trans (heap_alloc2_new w _ _))
  have HB1 := Lib.hid ((((Below.refl _ w).alloc (Nat.le_refl _) _).alloc (by simp) _ |>.alloc (by simp; omega) _).trans (hb.mono (by simp; omega)))
  clear hb hz
  go_wp2_with fail
  refine (pbounds_any t true HX.out _).mono ?_
  rintro e w2 ⟨rfl, hb⟩
  obtain ⟨hc2, hf2⟩ := bcell hb
  have hz := hb.size
  try simp only [World.size_alloc] at hz
  have hz22 : w.heap.size + 1 + 1 < w2.heap.size := by omega
  have hz21 : w.heap.size + 1 < w2.heap.size := by omega
  have hz20 : w1.heap.size < w2.heap.size := by omega
  have HB2 := Lib.hid ((HB1.out.alloc HB1.out.size _).trans (hb.mono (by simp; omega)))
  replace hr := (hb.block (w.heap.size + 1) (by simp; omega)).trans ((heap_alloc_old _ _ (by omega)).trans hr)
  clear hb hz
  go_wp2_with fail
  refine (pwithin_any _ _ _ _ HY.out _).mono ?_
  rintro e w3 ⟨rfl, e1⟩
  rw [e1]
  clear e1 w3
  have HR := Lib.hid hr
  clear hr
  go_wp2_with ((with_reducible refine at_store 2 ?_); refine wpList_store_named (o := ⟨none, .store 77 (.tmp 2) (.tmp 36), _, _, _, _⟩) rfl 77 (.tmp 2) (.tmp 36) rfl (w.heap.size + 1) #[.int .i64 0, .int .i64 0, .nilFunc, .nilFunc, .nilFunc] rfl rfl 77 #[.int .i64 0, .int .i64 0, .nilFunc, .nilFunc, .nilFunc] HR.out infoKd rfl (kd_one _ _ _ _ _ rfl rfl rfl) ?_)
  intro w4 hw4
  go_wp2
  refine bodyPost_ret (results_row_tmp' Tryd.results36 _ w4 (w.heap.size + 1) 77 #[.int .i64 0, .int .i64 0, .nilFunc, .nilFunc, .nilFunc] (0, 0) _ rfl (by rw [hw4.out]; exact setRow_heap _ _ _ _ _ _ HR.out) Tryd.underlying77 rfl infoKd) rfl ⟨rfl, ?_⟩
  rw [hw4.out]
  exact below_setRow HB2.out (by omega) _
set_option maxRecDepth 20000 in
set_option maxHeartbeats 3200000 in
theorem pr_k_ttf (t : Tk) (lo hi : Int) (f f2 f3 : Nat) (hk : KdOf t lo hi f f2 f3) (x : hbB t = true) (y : inB t.uses lo hi = true) (he : ∀ (a : Array Value) (w : World), (callFunc f a).run Tryd.prog w = .ok (.enter f a) w) (z : HasOf t f false) (w : World) : Calls Tryd.prog 36 #[.agg #[.int .i64 t.ser, .int .i64 t.kind, .int .i64 t.frm, .int .i64 t.till, .int .i64 t.cls, .int .i64 t.card, .int .i64 t.seat, .int .i64 t.day, .int .i64 t.days, .int .i64 t.uses, .int .i64 t.epoch]] w fun e w' => e = .returned (.tuple #[.agg #[.int .i64 0, .int .i64 0, .nilFunc, .nilFunc, .nilFunc], .bool false]) ∧ Below w.heap.size w w' := by
  have HK := Lib.hid hk
  have HX := Lib.hid x
  have HY := Lib.hid y
  have HZ := Lib.hid z
  clear hk x y z
  go_enter Tryd.func36, Tryd.ntmps36
  go_wp2_with fail
  refine (HK.out _).mono ?_
  rintro e w1 ⟨rfl, hb⟩
  obtain ⟨hc, hf⟩ := bcell hb
  have hz := hb.size
  simp only [World.size_alloc] at hz
  have hz2 : w.heap.size + 1 + 1 < w1.heap.size := by omega
  have hz1 : w.heap.size + 1 < w1.heap.size := by omega
  have hr := (hb.block (w.heap.size + 1) (by simp)).trans ((heap_alloc_old _ _ (by simp)).trans (heap_alloc2_new w _ _))
  have HB1 := Lib.hid ((((Below.refl _ w).alloc (Nat.le_refl _) _).alloc (by simp) _ |>.alloc (by simp; omega) _).trans (hb.mono (by simp; omega)))
  clear hb hz
  go_wp2_with fail
  refine (pbounds_any t true HX.out _).mono ?_
  rintro e w2 ⟨rfl, hb⟩
  obtain ⟨hc2, hf2⟩ := bcell hb
  have hz := hb.size
  try simp only [World.size_alloc] at hz
  have hz22 : w.heap.size + 1 + 1 < w2.heap.size := by omega
  have hz21 : w.heap.size + 1 < w2.heap.size := by omega
  have hz20 : w1.heap.size < w2.heap.size := by omega
  have HB2 := Lib.hid ((HB1.out.alloc HB1.out.size _).trans (hb.mono (by simp; omega)))
  replace hr := (hb.block (w.heap.size + 1) (by simp; omega)).trans ((heap_alloc_old _ _ (by omega)).trans hr)
  clear hb hz
  go_wp2_with fail
  refine (pwithin_any _ _ _ _ HY.out _).mono ?_
  rintro e w3 ⟨rfl, e1⟩
  rw [e1]
  clear e1 w3
  go_wp2_with fail
  refine (HZ.out _).mono ?_
  rintro e w3 ⟨rfl, hb⟩
  obtain ⟨hc3, hf3⟩ := bcell hb
  have hz := hb.size
  try simp only [World.size_alloc] at hz
  have hz32 : w.heap.size + 1 + 1 < w3.heap.size := by omega
  have hz31 : w.heap.size + 1 < w3.heap.size := by omega
  have hz30 : w1.heap.size < w3.heap.size := by omega
  have HB3 := Lib.hid (HB2.out.trans (hb.mono (by omega)))
  replace hr := (hb.block (w.heap.size + 1) (by omega)).trans hr
  clear hb hz
  have HR := Lib.hid hr
  clear hr
  go_wp2_with ((with_reducible refine at_store 2 ?_); refine wpList_store_named (o := ⟨none, .store 77 (.tmp 2) (.tmp 36), _, _, _, _⟩) rfl 77 (.tmp 2) (.tmp 36) rfl (w.heap.size + 1) #[.int .i64 0, .int .i64 0, .nilFunc, .nilFunc, .nilFunc] rfl rfl 77 #[.int .i64 0, .int .i64 0, .nilFunc, .nilFunc, .nilFunc] HR.out infoKd rfl (kd_one _ _ _ _ _ rfl rfl rfl) ?_)
  intro w4 hw4
  go_wp2
  refine bodyPost_ret (results_row_tmp' Tryd.results36 _ w4 (w.heap.size + 1) 77 #[.int .i64 0, .int .i64 0, .nilFunc, .nilFunc, .nilFunc] (0, 0) _ rfl (by rw [hw4.out]; exact setRow_heap _ _ _ _ _ _ HR.out) Tryd.underlying77 rfl infoKd) rfl ⟨rfl, ?_⟩
  rw [hw4.out]
  exact below_setRow HB3.out (by omega) _
end Go.Proofs.YtaokhkbfiplfmaaDoor
end
section
namespace Go.Proofs.YtaokhkbfiplfmaaDoor
set_option linter.unusedVariables false
open Go.ChangeShapes Go.WideShapes Go.ChangeAt Go.RowKit

set_option maxRecDepth 20000 in
set_option maxHeartbeats 3200000 in
theorem pr_no (t : Tk) (hk : t.kind < 1 ∨ 4 < t.kind) (w : World) : Calls Tryd.prog 36 #[.agg #[.int .i64 t.ser, .int .i64 t.kind, .int .i64 t.frm, .int .i64 t.till, .int .i64 t.cls, .int .i64 t.card, .int .i64 t.seat, .int .i64 t.day, .int .i64 t.days, .int .i64 t.uses, .int .i64 t.epoch]] w fun e w' => e = .returned (.tuple #[.agg #[.int .i64 0, .int .i64 0, .nilFunc, .nilFunc, .nilFunc], .bool false]) ∧ Below w.heap.size w w' := by
  have HK := Lib.hid hk
  clear hk
  go_enter Tryd.func36, Tryd.ntmps36
  go_wp2_with fail
  refine (pkind_0 t HK.out _).mono ?_
  rintro e w1 ⟨rfl, hb⟩
  obtain ⟨hc, hf⟩ := bcell hb
  have hz := hb.size
  simp only [World.size_alloc] at hz
  have hz2 : w.heap.size + 1 + 1 < w1.heap.size := by omega
  have hz1 : w.heap.size + 1 < w1.heap.size := by omega
  have hr := (hb.block (w.heap.size + 1) (by simp)).trans ((heap_alloc_old _ _ (by simp)).trans (heap_alloc2_new w _ _))
  have HB1 := Lib.hid ((((Below.refl _ w).alloc (Nat.le_refl _) _).alloc (by simp) _ |>.alloc (by simp; omega) _).trans (hb.mono (by simp; omega)))
  clear hb hz
  have HR := Lib.hid hr
  clear hr
  go_wp2_with ((with_reducible refine at_store 2 ?_); refine wpList_store_named (o := ⟨none, .store 77 (.tmp 2) (.tmp 36), _, _, _, _⟩) rfl 77 (.tmp 2) (.tmp 36) rfl (w.heap.size + 1) #[.int .i64 0, .int .i64 0, .nilFunc, .nilFunc, .nilFunc] rfl rfl 77 #[.int .i64 0, .int .i64 0, .nilFunc, .nilFunc, .nilFunc] ((heap_alloc_old _ _ hz1).trans HR.out) infoKd rfl (kd_one _ _ _ _ _ rfl rfl rfl) ?_)
  intro w4 hw4
  go_wp2
  refine bodyPost_ret (results_row_tmp' Tryd.results36 _ w4 (w.heap.size + 1) 77 #[.int .i64 0, .int .i64 0, .nilFunc, .nilFunc, .nilFunc] (0, 0) _ rfl (by rw [hw4.out]; exact setRow_heap _ _ _ _ _ _ ((heap_alloc_old _ _ hz1).trans HR.out)) Tryd.underlying77 rfl infoKd) rfl ⟨rfl, ?_⟩
  rw [hw4.out]
  exact below_setRow (HB1.out.alloc HB1.out.size _) (by omega) _
theorem pright_no (t : Tk) (hok : okT t = false) (w : World) : Calls Tryd.prog 36 #[.agg #[.int .i64 t.ser, .int .i64 t.kind, .int .i64 t.frm, .int .i64 t.till, .int .i64 t.cls, .int .i64 t.card, .int .i64 t.seat, .int .i64 t.day, .int .i64 t.days, .int .i64 t.uses, .int .i64 t.epoch]] w fun e w' => e = .returned (.tuple #[.agg #[.int .i64 0, .int .i64 0, .nilFunc, .nilFunc, .nilFunc], .bool false]) ∧ Below w.heap.size w w' := by
  by_cases h1 : t.kind = 1
  · exact no_of (okT_1 h1) hok (pr_k_fff t 1 1 _ _ _ (pkind_1 t h1) · w) (pr_k_tff t 1 1 _ _ _ (pkind_1 t h1) · · w) (fun x y z => pr_k_ttf t 1 1 _ _ _ (pkind_1 t h1) x y (fun _ _ => by kernel_rfl) (phasway_any t _ z) w)
  · by_cases h2 : t.kind = 2
    · exact no_of (okT_2 h2) hok (pr_k_fff t 2 2 _ _ _ (pkind_2 t h2) · w) (pr_k_tff t 2 2 _ _ _ (pkind_2 t h2) · · w) (fun x y z => pr_k_ttf t 2 2 _ _ _ (pkind_2 t h2) x y (fun _ _ => by kernel_rfl) (phasway_any t _ z) w)
    · by_cases h3 : t.kind = 3
      · exact no_of (okT_3 h3) hok (pr_k_fff t 0 0 _ _ _ (pkind_3 t h3) · w) (pr_k_tff t 0 0 _ _ _ (pkind_3 t h3) · · w) (fun x y z => pr_k_ttf t 0 0 _ _ _ (pkind_3 t h3) x y (fun _ _ => by kernel_rfl) (phaszones_any t _ z) w)
      · by_cases h4 : t.kind = 4
        · exact no_of (okT_4 h4) hok (pr_k_fff t 2 20 _ _ _ (pkind_4 t h4) · w) (pr_k_tff t 2 20 _ _ _ (pkind_4 t h4) · · w) (fun x y z => pr_k_ttf t 2 20 _ _ _ (pkind_4 t h4) x y (fun _ _ => by kernel_rfl) (phasway_any t _ z) w)
        · exact pr_no t (by omega) w
theorem pright_1 (t : Tk) (hk : t.kind = 1) (hok : okT t = true) (w : World) : Calls Tryd.prog 36 #[.agg #[.int .i64 t.ser, .int .i64 t.kind, .int .i64 t.frm, .int .i64 t.till, .int .i64 t.cls, .int .i64 t.card, .int .i64 t.seat, .int .i64 t.day, .int .i64 t.days, .int .i64 t.uses, .int .i64 t.epoch]] w fun e w' => e = .returned (.tuple #[.agg #[.int .i64 1, .int .i64 1, .func (.func 56) #[.agg #[.int .i64 t.ser, .int .i64 t.kind, .int .i64 t.frm, .int .i64 t.till, .int .i64 t.cls, .int .i64 t.card, .int .i64 t.seat, .int .i64 t.day, .int .i64 t.days, .int .i64 t.uses, .int .i64 t.epoch]] #[], .func (.func 57) #[.agg #[.int .i64 t.ser, .int .i64 t.kind, .int .i64 t.frm, .int .i64 t.till, .int .i64 t.cls, .int .i64 t.card, .int .i64 t.seat, .int .i64 t.day, .int .i64 t.days, .int .i64 t.uses, .int .i64 t.epoch]] #[], .func (.func 58) #[.agg #[.int .i64 t.ser, .int .i64 t.kind, .int .i64 t.frm, .int .i64 t.till, .int .i64 t.cls, .int .i64 t.card, .int .i64 t.seat, .int .i64 t.day, .int .i64 t.days, .int .i64 t.uses, .int .i64 t.epoch]] #[]], .bool true]) ∧ Below w.heap.size w w' := by
  rw [okT_1 hk] at hok
  simp only [Bool.and_eq_true] at hok
  exact pr_k_ttt t 1 1 _ _ _ (pkind_1 t hk) hok.1 hok.2.1 (fun _ _ => by kernel_rfl) (phasway_any t _ hok.2.2) w
theorem pright_2 (t : Tk) (hk : t.kind = 2) (hok : okT t = true) (w : World) : Calls Tryd.prog 36 #[.agg #[.int .i64 t.ser, .int .i64 t.kind, .int .i64 t.frm, .int .i64 t.till, .int .i64 t.cls, .int .i64 t.card, .int .i64 t.seat, .int .i64 t.day, .int .i64 t.days, .int .i64 t.uses, .int .i64 t.epoch]] w fun e w' => e = .returned (.tuple #[.agg #[.int .i64 2, .int .i64 2, .func (.func 56) #[.agg #[.int .i64 t.ser, .int .i64 t.kind, .int .i64 t.frm, .int .i64 t.till, .int .i64 t.cls, .int .i64 t.card, .int .i64 t.seat, .int .i64 t.day, .int .i64 t.days, .int .i64 t.uses, .int .i64 t.epoch]] #[], .func (.func 57) #[.agg #[.int .i64 t.ser, .int .i64 t.kind, .int .i64 t.frm, .int .i64 t.till, .int .i64 t.cls, .int .i64 t.card, .int .i64 t.seat, .int .i64 t.day, .int .i64 t.days, .int .i64 t.uses, .int .i64 t.epoch]] #[], .func (.func 59) #[.agg #[.int .i64 t.ser, .int .i64 t.kind, .int .i64 t.frm, .int .i64 t.till, .int .i64 t.cls, .int .i64 t.card, .int .i64 t.seat, .int .i64 t.day, .int .i64 t.days, .int .i64 t.uses, .int .i64 t.epoch]] #[]], .bool true]) ∧ Below w.heap.size w w' := by
  rw [okT_2 hk] at hok
  simp only [Bool.and_eq_true] at hok
  exact pr_k_ttt t 2 2 _ _ _ (pkind_2 t hk) hok.1 hok.2.1 (fun _ _ => by kernel_rfl) (phasway_any t _ hok.2.2) w
theorem pright_3 (t : Tk) (hk : t.kind = 3) (hok : okT t = true) (w : World) : Calls Tryd.prog 36 #[.agg #[.int .i64 t.ser, .int .i64 t.kind, .int .i64 t.frm, .int .i64 t.till, .int .i64 t.cls, .int .i64 t.card, .int .i64 t.seat, .int .i64 t.day, .int .i64 t.days, .int .i64 t.uses, .int .i64 t.epoch]] w fun e w' => e = .returned (.tuple #[.agg #[.int .i64 0, .int .i64 0, .func (.func 60) #[.agg #[.int .i64 t.ser, .int .i64 t.kind, .int .i64 t.frm, .int .i64 t.till, .int .i64 t.cls, .int .i64 t.card, .int .i64 t.seat, .int .i64 t.day, .int .i64 t.days, .int .i64 t.uses, .int .i64 t.epoch]] #[], .func (.func 61) #[.agg #[.int .i64 t.ser, .int .i64 t.kind, .int .i64 t.frm, .int .i64 t.till, .int .i64 t.cls, .int .i64 t.card, .int .i64 t.seat, .int .i64 t.day, .int .i64 t.days, .int .i64 t.uses, .int .i64 t.epoch]] #[], .func (.func 62) #[.agg #[.int .i64 t.ser, .int .i64 t.kind, .int .i64 t.frm, .int .i64 t.till, .int .i64 t.cls, .int .i64 t.card, .int .i64 t.seat, .int .i64 t.day, .int .i64 t.days, .int .i64 t.uses, .int .i64 t.epoch]] #[]], .bool true]) ∧ Below w.heap.size w w' := by
  rw [okT_3 hk] at hok
  simp only [Bool.and_eq_true] at hok
  exact pr_k_ttt t 0 0 _ _ _ (pkind_3 t hk) hok.1 hok.2.1 (fun _ _ => by kernel_rfl) (phaszones_any t _ hok.2.2) w
theorem pright_4 (t : Tk) (hk : t.kind = 4) (hok : okT t = true) (w : World) : Calls Tryd.prog 36 #[.agg #[.int .i64 t.ser, .int .i64 t.kind, .int .i64 t.frm, .int .i64 t.till, .int .i64 t.cls, .int .i64 t.card, .int .i64 t.seat, .int .i64 t.day, .int .i64 t.days, .int .i64 t.uses, .int .i64 t.epoch]] w fun e w' => e = .returned (.tuple #[.agg #[.int .i64 2, .int .i64 20, .func (.func 56) #[.agg #[.int .i64 t.ser, .int .i64 t.kind, .int .i64 t.frm, .int .i64 t.till, .int .i64 t.cls, .int .i64 t.card, .int .i64 t.seat, .int .i64 t.day, .int .i64 t.days, .int .i64 t.uses, .int .i64 t.epoch]] #[], .func (.func 57) #[.agg #[.int .i64 t.ser, .int .i64 t.kind, .int .i64 t.frm, .int .i64 t.till, .int .i64 t.cls, .int .i64 t.card, .int .i64 t.seat, .int .i64 t.day, .int .i64 t.days, .int .i64 t.uses, .int .i64 t.epoch]] #[], .func (.func 63) #[.agg #[.int .i64 t.ser, .int .i64 t.kind, .int .i64 t.frm, .int .i64 t.till, .int .i64 t.cls, .int .i64 t.card, .int .i64 t.seat, .int .i64 t.day, .int .i64 t.days, .int .i64 t.uses, .int .i64 t.epoch]] #[]], .bool true]) ∧ Below w.heap.size w w' := by
  rw [okT_4 hk] at hok
  simp only [Bool.and_eq_true] at hok
  exact pr_k_ttt t 2 20 _ _ _ (pkind_4 t hk) hok.1 hok.2.1 (fun _ _ => by kernel_rfl) (phasway_any t _ hok.2.2) w
end Go.Proofs.YtaokhkbfiplfmaaDoor
end
section
namespace Go.Proofs.YtaokhkbfiplfmaaDoor
set_option linter.unusedVariables false
open Go.ChangeShapes Go.WideShapes Go.ChangeAt Go.RowKit

theorem kinds_of {t : Tk} (h : okT t = true) : t.kind = 1 ∨ t.kind = 2 ∨ t.kind = 3 ∨ t.kind = 4 := by
  have hn := (numsB_iff t).1 ((okT_iff t).1 h).1
  omega
set_option maxRecDepth 20000 in
set_option maxHeartbeats 3200000 in
theorem pis9_any (t : Tk) (b : Bool) (hb : okT t = b) (w : World) : Calls Tryd.prog 17 #[.agg #[.int .i64 t.ser, .int .i64 t.kind, .int .i64 t.frm, .int .i64 t.till, .int .i64 t.cls, .int .i64 t.card, .int .i64 t.seat, .int .i64 t.day, .int .i64 t.days, .int .i64 t.uses, .int .i64 t.epoch]] w fun e w' => e = .returned (.bool b) ∧ Below w.heap.size w w' := by
  cases b with
  | false =>
    have HO := Lib.hid hb
    clear hb
    go_enter Tryd.func17, Tryd.ntmps17
    go_wp2_with fail
    refine (pright_no t HO.out _).mono ?_
    rintro e w1 ⟨rfl, hb⟩
    have HB1 := Lib.hid (((Below.refl _ w).alloc (Nat.le_refl _) _).trans (hb.mono (by simp)))
    clear hb
    go_wp2
    go_ret
    exact ⟨rfl, HB1.out.alloc HB1.out.size _⟩
  | true =>
    have HO := Lib.hid hb
    have hk := kinds_of hb
    clear hb
    rcases hk with hk | hk | hk | hk
    · have HK := Lib.hid hk
      clear hk
      go_enter Tryd.func17, Tryd.ntmps17
      go_wp2_with fail
      refine (pright_1 t HK.out HO.out _).mono ?_
      rintro e w1 ⟨rfl, hb⟩
      have HB1 := Lib.hid (((Below.refl _ w).alloc (Nat.le_refl _) _).trans (hb.mono (by simp)))
      clear hb
      go_wp2
      go_ret
      exact ⟨rfl, HB1.out.alloc HB1.out.size _⟩
    · have HK := Lib.hid hk
      clear hk
      go_enter Tryd.func17, Tryd.ntmps17
      go_wp2_with fail
      refine (pright_2 t HK.out HO.out _).mono ?_
      rintro e w1 ⟨rfl, hb⟩
      have HB1 := Lib.hid (((Below.refl _ w).alloc (Nat.le_refl _) _).trans (hb.mono (by simp)))
      clear hb
      go_wp2
      go_ret
      exact ⟨rfl, HB1.out.alloc HB1.out.size _⟩
    · have HK := Lib.hid hk
      clear hk
      go_enter Tryd.func17, Tryd.ntmps17
      go_wp2_with fail
      refine (pright_3 t HK.out HO.out _).mono ?_
      rintro e w1 ⟨rfl, hb⟩
      have HB1 := Lib.hid (((Below.refl _ w).alloc (Nat.le_refl _) _).trans (hb.mono (by simp)))
      clear hb
      go_wp2
      go_ret
      exact ⟨rfl, HB1.out.alloc HB1.out.size _⟩
    · have HK := Lib.hid hk
      clear hk
      go_enter Tryd.func17, Tryd.ntmps17
      go_wp2_with fail
      refine (pright_4 t HK.out HO.out _).mono ?_
      rintro e w1 ⟨rfl, hb⟩
      have HB1 := Lib.hid (((Below.refl _ w).alloc (Nat.le_refl _) _).trans (hb.mono (by simp)))
      clear hb
      go_wp2
      go_ret
      exact ⟨rfl, HB1.out.alloc HB1.out.size _⟩
end Go.Proofs.YtaokhkbfiplfmaaDoor
end
