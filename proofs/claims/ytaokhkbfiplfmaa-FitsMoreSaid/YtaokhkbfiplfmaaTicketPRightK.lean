/-
  Contracts for the landed function that tells a ticket's kind, if it is right, any kind that has bounds, a way and prices of its own. Conditions: as each says.
-/
import Derived.Test.YtaokhkbfiplfmaaTicketPRight
namespace Go.Proofs.Ytaokhkbfiplfmaa
set_option linter.unusedVariables false
open Go.ChangeShapes Go.WideShapes Go.ChangeAt Go.RowKit

/-- The method tells this kind of a ticket; a method tells this of a ticket. -/
def KdOf (t : Tk) (lo hi : Int) (f f2 f3 : Nat) : Prop := ∀ w, Calls Try.prog 19 #[.agg #[.int .i64 t.ser, .int .i64 t.kind, .int .i64 t.frm, .int .i64 t.till, .int .i64 t.cls, .int .i64 t.card, .int .i64 t.seat, .int .i64 t.day, .int .i64 t.days, .int .i64 t.uses, .int .i64 t.epoch]] w fun e w' => e = .returned (.tuple #[.agg #[.int .i64 lo, .int .i64 hi, .func (.func f) #[.agg #[.int .i64 t.ser, .int .i64 t.kind, .int .i64 t.frm, .int .i64 t.till, .int .i64 t.cls, .int .i64 t.card, .int .i64 t.seat, .int .i64 t.day, .int .i64 t.days, .int .i64 t.uses, .int .i64 t.epoch]] #[], .func (.func f2) #[.agg #[.int .i64 t.ser, .int .i64 t.kind, .int .i64 t.frm, .int .i64 t.till, .int .i64 t.cls, .int .i64 t.card, .int .i64 t.seat, .int .i64 t.day, .int .i64 t.days, .int .i64 t.uses, .int .i64 t.epoch]] #[], .func (.func f3) #[.agg #[.int .i64 t.ser, .int .i64 t.kind, .int .i64 t.frm, .int .i64 t.till, .int .i64 t.cls, .int .i64 t.card, .int .i64 t.seat, .int .i64 t.day, .int .i64 t.days, .int .i64 t.uses, .int .i64 t.epoch]] #[]], .bool true]) ∧ Below w.heap.size w w'
def HasOf (t : Tk) (f : Nat) (h : Bool) : Prop := ∀ w, Calls Try.prog f #[.agg #[.int .i64 t.ser, .int .i64 t.kind, .int .i64 t.frm, .int .i64 t.till, .int .i64 t.cls, .int .i64 t.card, .int .i64 t.seat, .int .i64 t.day, .int .i64 t.days, .int .i64 t.uses, .int .i64 t.epoch]] w fun e w' => e = .returned (.bool h) ∧ Below w.heap.size w w'
set_option maxRecDepth 20000 in
set_option maxHeartbeats 3200000 in
theorem pr_k_ttt (t : Tk) (lo hi : Int) (f f2 f3 : Nat) (hk : KdOf t lo hi f f2 f3) (x : hbB t = true) (y : inB t.uses lo hi = true) (he : ∀ (a : Array Value) (w : World), (callFunc f a).run Try.prog w = .ok (.enter f a) w) (z : HasOf t f true) (w : World) : Calls Try.prog 16 #[.agg #[.int .i64 t.ser, .int .i64 t.kind, .int .i64 t.frm, .int .i64 t.till, .int .i64 t.cls, .int .i64 t.card, .int .i64 t.seat, .int .i64 t.day, .int .i64 t.days, .int .i64 t.uses, .int .i64 t.epoch]] w fun e w' => e = .returned (.tuple #[.agg #[.int .i64 lo, .int .i64 hi, .func (.func f) #[.agg #[.int .i64 t.ser, .int .i64 t.kind, .int .i64 t.frm, .int .i64 t.till, .int .i64 t.cls, .int .i64 t.card, .int .i64 t.seat, .int .i64 t.day, .int .i64 t.days, .int .i64 t.uses, .int .i64 t.epoch]] #[], .func (.func f2) #[.agg #[.int .i64 t.ser, .int .i64 t.kind, .int .i64 t.frm, .int .i64 t.till, .int .i64 t.cls, .int .i64 t.card, .int .i64 t.seat, .int .i64 t.day, .int .i64 t.days, .int .i64 t.uses, .int .i64 t.epoch]] #[], .func (.func f3) #[.agg #[.int .i64 t.ser, .int .i64 t.kind, .int .i64 t.frm, .int .i64 t.till, .int .i64 t.cls, .int .i64 t.card, .int .i64 t.seat, .int .i64 t.day, .int .i64 t.days, .int .i64 t.uses, .int .i64 t.epoch]] #[]], .bool true]) ∧ Below w.heap.size w w' := by
  have HK := Lib.hid hk
  have HX := Lib.hid x
  have HY := Lib.hid y
  have HZ := Lib.hid z
  clear hk x y z
  go_enter Try.func16, Try.ntmps16
  go_wp2_with fail
  refine (HK.out _).mono ?_
  rintro e w1 ⟨rfl, hb⟩
  obtain ⟨hc, hf⟩ := bcell hb
  have hz := hb.size
  simp only [World.size_alloc] at hz
  have hz2 : w.heap.size + 1 + 1 < w1.heap.size := by omega
  have hz1 : w.heap.size + 1 < w1.heap.size := by omega
  have hr := (hb.block (w.heap.size + 1) (by simp)).trans ((heap_alloc_old _ _ (by simp)).trans (heap_alloc2_new w _ _))
  have HB1 := Lib.hid ((((Below.refl _ w).alloc (Nat.le_refl _) _).alloc (by simp) _ |>.alloc (by simp; omega) _).trans (hb.mono (by simp; omega)))
  clear hb hz
  go_wp2_with fail
  refine (pbounds_any t true HX.out _).mono ?_
  rintro e w2 ⟨rfl, hb⟩
  obtain ⟨hc2, hf2⟩ := bcell hb
  have hz := hb.size
  try simp only [World.size_alloc] at hz
  have hz22 : w.heap.size + 1 + 1 < w2.heap.size := by omega
  have hz21 : w.heap.size + 1 < w2.heap.size := by omega
  have hz20 : w1.heap.size < w2.heap.size := by omega
  have HB2 := Lib.hid ((HB1.out.alloc HB1.out.size _).trans (hb.mono (by simp; omega)))
  replace hr := (hb.block (w.heap.size + 1) (by simp; omega)).trans ((heap_alloc_old _ _ (by omega)).trans hr)
  clear hb hz
  go_wp2_with fail
  refine (pwithin_any _ _ _ _ HY.out _).mono ?_
  rintro e w3 ⟨rfl, e1⟩
  rw [e1]
  clear e1 w3
  go_wp2_with fail
  refine (HZ.out _).mono ?_
  rintro e w3 ⟨rfl, hb⟩
  obtain ⟨hc3, hf3⟩ := bcell hb
  have hz := hb.size
  try simp only [World.size_alloc] at hz
  have hz32 : w.heap.size + 1 + 1 < w3.heap.size := by omega
  have hz31 : w.heap.size + 1 < w3.heap.size := by omega
  have hz30 : w1.heap.size < w3.heap.size := by omega
  have HB3 := Lib.hid (HB2.out.trans (hb.mono (by omega)))
  replace hr := (hb.block (w.heap.size + 1) (by omega)).trans hr
  clear hb hz
  have HR := Lib.hid hr
  clear hr
  go_wp2_with ((with_reducible refine at_store 2 ?_); refine wpList_store_named (o := ⟨none, .store 35 (.tmp 2) (.tmp 37), _, _, _, _⟩) rfl 35 (.tmp 2) (.tmp 37) rfl (w.heap.size + 1) #[.int .i64 lo, .int .i64 hi, .func (.func f) #[.agg #[.int .i64 t.ser, .int .i64 t.kind, .int .i64 t.frm, .int .i64 t.till, .int .i64 t.cls, .int .i64 t.card, .int .i64 t.seat, .int .i64 t.day, .int .i64 t.days, .int .i64 t.uses, .int .i64 t.epoch]] #[], .func (.func f2) #[.agg #[.int .i64 t.ser, .int .i64 t.kind, .int .i64 t.frm, .int .i64 t.till, .int .i64 t.cls, .int .i64 t.card, .int .i64 t.seat, .int .i64 t.day, .int .i64 t.days, .int .i64 t.uses, .int .i64 t.epoch]] #[], .func (.func f3) #[.agg #[.int .i64 t.ser, .int .i64 t.kind, .int .i64 t.frm, .int .i64 t.till, .int .i64 t.cls, .int .i64 t.card, .int .i64 t.seat, .int .i64 t.day, .int .i64 t.days, .int .i64 t.uses, .int .i64 t.epoch]] #[]] rfl rfl 35 #[.int .i64 0, .int .i64 0, .nilFunc, .nilFunc, .nilFunc] HR.out infoKd rfl (kd_one _ _ _ _ _ rfl rfl rfl) ?_)
  intro w4 hw4
  go_wp2
  refine bodyPost_ret (results_row_tmp' Try.results16 _ w4 (w.heap.size + 1) 35 #[.int .i64 lo, .int .i64 hi, .func (.func f) #[.agg #[.int .i64 t.ser, .int .i64 t.kind, .int .i64 t.frm, .int .i64 t.till, .int .i64 t.cls, .int .i64 t.card, .int .i64 t.seat, .int .i64 t.day, .int .i64 t.days, .int .i64 t.uses, .int .i64 t.epoch]] #[], .func (.func f2) #[.agg #[.int .i64 t.ser, .int .i64 t.kind, .int .i64 t.frm, .int .i64 t.till, .int .i64 t.cls, .int .i64 t.card, .int .i64 t.seat, .int .i64 t.day, .int .i64 t.days, .int .i64 t.uses, .int .i64 t.epoch]] #[], .func (.func f3) #[.agg #[.int .i64 t.ser, .int .i64 t.kind, .int .i64 t.frm, .int .i64 t.till, .int .i64 t.cls, .int .i64 t.card, .int .i64 t.seat, .int .i64 t.day, .int .i64 t.days, .int .i64 t.uses, .int .i64 t.epoch]] #[]] (0, 0) _ rfl (by rw [hw4.out]; exact setRow_heap _ _ _ _ _ _ HR.out) Try.underlying35 rfl infoKd) rfl ⟨rfl, ?_⟩
  rw [hw4.out]
  exact below_setRow HB3.out (by omega) _
set_option maxRecDepth 20000 in
set_option maxHeartbeats 3200000 in
theorem pr_k_fff (t : Tk) (lo hi : Int) (f f2 f3 : Nat) (hk : KdOf t lo hi f f2 f3) (x : hbB t = false) (w : World) : Calls Try.prog 16 #[.agg #[.int .i64 t.ser, .int .i64 t.kind, .int .i64 t.frm, .int .i64 t.till, .int .i64 t.cls, .int .i64 t.card, .int .i64 t.seat, .int .i64 t.day, .int .i64 t.days, .int .i64 t.uses, .int .i64 t.epoch]] w fun e w' => e = .returned (.tuple #[.agg #[.int .i64 0, .int .i64 0, .nilFunc, .nilFunc, .nilFunc], .bool false]) ∧ Below w.heap.size w w' := by
  have HK := Lib.hid hk
  have HX := Lib.hid x
  clear hk x
  go_enter Try.func16, Try.ntmps16
  go_wp2_with fail
  refine (HK.out _).mono ?_
  rintro e w1 ⟨rfl, hb⟩
  obtain ⟨hc, hf⟩ := bcell hb
  have hz := hb.size
  simp only [World.size_alloc] at hz
  have hz2 : w.heap.size + 1 + 1 < w1.heap.size := by omega
  have hz1 : w.heap.size + 1 < w1.heap.size := by omega
  have hr := (hb.block (w.heap.size + 1) (by simp)).trans ((heap_alloc_old _ _ (by simp)).trans (heap_alloc2_new w _ _))
  have HB1 := Lib.hid ((((Below.refl _ w).alloc (Nat.le_refl _) _).alloc (by simp) _ |>.alloc (by simp; omega) _).trans (hb.mono (by simp; omega)))
  clear hb hz
  go_wp2_with fail
  refine (pbounds_any t false HX.out _).mono ?_
  rintro e w2 ⟨rfl, hb⟩
  obtain ⟨hc2, hf2⟩ := bcell hb
  have hz := hb.size
  try simp only [World.size_alloc] at hz
  have hz22 : w.heap.size + 1 + 1 < w2.heap.size := by omega
  have hz21 : w.heap.size + 1 < w2.heap.size := by omega
  have hz20 : w1.heap.size < w2.heap.size := by omega
  have HB2 := Lib.hid ((HB1.out.alloc HB1.out.size _).trans (hb.mono (by simp; omega)))
  replace hr := (hb.block (w.heap.size + 1) (by simp; omega)).trans ((heap_alloc_old _ _ (by omega)).trans hr)
  clear hb hz
  have HR := Lib.hid hr
  clear hr
  go_wp2_with ((with_reducible refine at_store 2 ?_); refine wpList_store_named (o := ⟨none, .store 35 (.tmp 2) (.tmp 36), _, _, _, _⟩) rfl 35 (.tmp 2) (.tmp 36) rfl (w.heap.size + 1) #[.int .i64 0, .int .i64 0, .nilFunc, .nilFunc, .nilFunc] rfl rfl 35 #[.int .i64 0, .int .i64 0, .nilFunc, .nilFunc, .nilFunc] HR.out infoKd rfl (kd_one _ _ _ _ _ rfl rfl rfl) ?_)
  intro w4 hw4
  go_wp2
  refine bodyPost_ret (results_row_tmp' Try.results16 _ w4 (w.heap.size + 1) 35 #[.int .i64 0, .int .i64 0, .nilFunc, .nilFunc, .nilFunc] (0, 0) _ rfl (by rw [hw4.out]; exact setRow_heap _ _ _ _ _ _ HR.out) Try.underlying35 rfl infoKd) rfl ⟨rfl, ?_⟩
  rw [hw4.out]
  exact below_setRow HB2.out (by omega) _
set_option maxRecDepth 20000 in
set_option maxHeartbeats 3200000 in
theorem pr_k_tff (t : Tk) (lo hi : Int) (f f2 f3 : Nat) (hk : KdOf t lo hi f f2 f3) (x : hbB t = true) (y : inB t.uses lo hi = false) (w : World) : Calls Try.prog 16 #[.agg #[.int .i64 t.ser, .int .i64 t.kind, .int .i64 t.frm, .int .i64 t.till, .int .i64 t.cls, .int .i64 t.card, .int .i64 t.seat, .int .i64 t.day, .int .i64 t.days, .int .i64 t.uses, .int .i64 t.epoch]] w fun e w' => e = .returned (.tuple #[.agg #[.int .i64 0, .int .i64 0, .nilFunc, .nilFunc, .nilFunc], .bool false]) ∧ Below w.heap.size w w' := by
  have HK := Lib.hid hk
  have HX := Lib.hid x
  have HY := Lib.hid y
  clear hk x y
  go_enter Try.func16, Try.ntmps16
  go_wp2_with fail
  refine (HK.out _).mono ?_
  rintro e w1 ⟨rfl, hb⟩
  obtain ⟨hc, hf⟩ := bcell hb
  have hz := hb.size
  simp only [World.size_alloc] at hz
  have hz2 : w.heap.size + 1 + 1 < w1.heap.size := by omega
  have hz1 : w.heap.size + 1 < w1.heap.size := by omega
  have hr := (hb.block (w.heap.size + 1) (by simp)).trans ((heap_alloc_old _ _ (by simp)).trans (heap_alloc2_new w _ _))
  have HB1 := Lib.hid ((((Below.refl _ w).alloc (Nat.le_refl _) _).alloc (by simp) _ |>.alloc (by simp; omega) _).trans (hb.mono (by simp; omega)))
  clear hb hz
  go_wp2_with fail
  refine (pbounds_any t true HX.out _).mono ?_
  rintro e w2 ⟨rfl, hb⟩
  obtain ⟨hc2, hf2⟩ := bcell hb
  have hz := hb.size
  try simp only [World.size_alloc] at hz
  have hz22 : w.heap.size + 1 + 1 < w2.heap.size := by omega
  have hz21 : w.heap.size + 1 < w2.heap.size := by omega
  have hz20 : w1.heap.size < w2.heap.size := by omega
  have HB2 := Lib.hid ((HB1.out.alloc HB1.out.size _).trans (hb.mono (by simp; omega)))
  replace hr := (hb.block (w.heap.size + 1) (by simp; omega)).trans ((heap_alloc_old _ _ (by omega)).trans hr)
  clear hb hz
  go_wp2_with fail
  refine (pwithin_any _ _ _ _ HY.out _).mono ?_
  rintro e w3 ⟨rfl, e1⟩
  rw [e1]
  clear e1 w3
  have HR := Lib.hid hr
  clear hr
  go_wp2_with ((with_reducible refine at_store 2 ?_); refine wpList_store_named (o := ⟨none, .store 35 (.tmp 2) (.tmp 36), _, _, _, _⟩) rfl 35 (.tmp 2) (.tmp 36) rfl (w.heap.size + 1) #[.int .i64 0, .int .i64 0, .nilFunc, .nilFunc, .nilFunc] rfl rfl 35 #[.int .i64 0, .int .i64 0, .nilFunc, .nilFunc, .nilFunc] HR.out infoKd rfl (kd_one _ _ _ _ _ rfl rfl rfl) ?_)
  intro w4 hw4
  go_wp2
  refine bodyPost_ret (results_row_tmp' Try.results16 _ w4 (w.heap.size + 1) 35 #[.int .i64 0, .int .i64 0, .nilFunc, .nilFunc, .nilFunc] (0, 0) _ rfl (by rw [hw4.out]; exact setRow_heap _ _ _ _ _ _ HR.out) Try.underlying35 rfl infoKd) rfl ⟨rfl, ?_⟩
  rw [hw4.out]
  exact below_setRow HB2.out (by omega) _
set_option maxRecDepth 20000 in
set_option maxHeartbeats 3200000 in
theorem pr_k_ttf (t : Tk) (lo hi : Int) (f f2 f3 : Nat) (hk : KdOf t lo hi f f2 f3) (x : hbB t = true) (y : inB t.uses lo hi = true) (he : ∀ (a : Array Value) (w : World), (callFunc f a).run Try.prog w = .ok (.enter f a) w) (z : HasOf t f false) (w : World) : Calls Try.prog 16 #[.agg #[.int .i64 t.ser, .int .i64 t.kind, .int .i64 t.frm, .int .i64 t.till, .int .i64 t.cls, .int .i64 t.card, .int .i64 t.seat, .int .i64 t.day, .int .i64 t.days, .int .i64 t.uses, .int .i64 t.epoch]] w fun e w' => e = .returned (.tuple #[.agg #[.int .i64 0, .int .i64 0, .nilFunc, .nilFunc, .nilFunc], .bool false]) ∧ Below w.heap.size w w' := by
  have HK := Lib.hid hk
  have HX := Lib.hid x
  have HY := Lib.hid y
  have HZ := Lib.hid z
  clear hk x y z
  go_enter Try.func16, Try.ntmps16
  go_wp2_with fail
  refine (HK.out _).mono ?_
  rintro e w1 ⟨rfl, hb⟩
  obtain ⟨hc, hf⟩ := bcell hb
  have hz := hb.size
  simp only [World.size_alloc] at hz
  have hz2 : w.heap.size + 1 + 1 < w1.heap.size := by omega
  have hz1 : w.heap.size + 1 < w1.heap.size := by omega
  have hr := (hb.block (w.heap.size + 1) (by simp)).trans ((heap_alloc_old _ _ (by simp)).trans (heap_alloc2_new w _ _))
  have HB1 := Lib.hid ((((Below.refl _ w).alloc (Nat.le_refl _) _).alloc (by simp) _ |>.alloc (by simp; omega) _).trans (hb.mono (by simp; omega)))
  clear hb hz
  go_wp2_with fail
  refine (pbounds_any t true HX.out _).mono ?_
  rintro e w2 ⟨rfl, hb⟩
  obtain ⟨hc2, hf2⟩ := bcell hb
  have hz := hb.size
  try simp only [World.size_alloc] at hz
  have hz22 : w.heap.size + 1 + 1 < w2.heap.size := by omega
  have hz21 : w.heap.size + 1 < w2.heap.size := by omega
  have hz20 : w1.heap.size < w2.heap.size := by omega
  have HB2 := Lib.hid ((HB1.out.alloc HB1.out.size _).trans (hb.mono (by simp; omega)))
  replace hr := (hb.block (w.heap.size + 1) (by simp; omega)).trans ((heap_alloc_old _ _ (by omega)).trans hr)
  clear hb hz
  go_wp2_with fail
  refine (pwithin_any _ _ _ _ HY.out _).mono ?_
  rintro e w3 ⟨rfl, e1⟩
  rw [e1]
  clear e1 w3
  go_wp2_with fail
  refine (HZ.out _).mono ?_
  rintro e w3 ⟨rfl, hb⟩
  obtain ⟨hc3, hf3⟩ := bcell hb
  have hz := hb.size
  try simp only [World.size_alloc] at hz
  have hz32 : w.heap.size + 1 + 1 < w3.heap.size := by omega
  have hz31 : w.heap.size + 1 < w3.heap.size := by omega
  have hz30 : w1.heap.size < w3.heap.size := by omega
  have HB3 := Lib.hid (HB2.out.trans (hb.mono (by omega)))
  replace hr := (hb.block (w.heap.size + 1) (by omega)).trans hr
  clear hb hz
  have HR := Lib.hid hr
  clear hr
  go_wp2_with ((with_reducible refine at_store 2 ?_); refine wpList_store_named (o := ⟨none, .store 35 (.tmp 2) (.tmp 36), _, _, _, _⟩) rfl 35 (.tmp 2) (.tmp 36) rfl (w.heap.size + 1) #[.int .i64 0, .int .i64 0, .nilFunc, .nilFunc, .nilFunc] rfl rfl 35 #[.int .i64 0, .int .i64 0, .nilFunc, .nilFunc, .nilFunc] HR.out infoKd rfl (kd_one _ _ _ _ _ rfl rfl rfl) ?_)
  intro w4 hw4
  go_wp2
  refine bodyPost_ret (results_row_tmp' Try.results16 _ w4 (w.heap.size + 1) 35 #[.int .i64 0, .int .i64 0, .nilFunc, .nilFunc, .nilFunc] (0, 0) _ rfl (by rw [hw4.out]; exact setRow_heap _ _ _ _ _ _ HR.out) Try.underlying35 rfl infoKd) rfl ⟨rfl, ?_⟩
  rw [hw4.out]
  exact below_setRow HB3.out (by omega) _
end Go.Proofs.Ytaokhkbfiplfmaa
