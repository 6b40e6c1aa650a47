/-
  Contracts for the landed function that tells a ticket's kind, if it is right, kind at all. Conditions: as each says.
-/
import Derived.Test.YtaokhkbfiplfmaaTicketPRightK
namespace Go.Proofs.Ytaokhkbfiplfmaa
set_option linter.unusedVariables false
open Go.ChangeShapes Go.WideShapes Go.ChangeAt Go.RowKit

set_option maxRecDepth 20000 in
set_option maxHeartbeats 3200000 in
theorem pr_no (t : Tk) (hk : t.kind < 1 ∨ 4 < t.kind) (w : World) : Calls Try.prog 16 #[.agg #[.int .i64 t.ser, .int .i64 t.kind, .int .i64 t.frm, .int .i64 t.till, .int .i64 t.cls, .int .i64 t.card, .int .i64 t.seat, .int .i64 t.day, .int .i64 t.days, .int .i64 t.uses, .int .i64 t.epoch]] w fun e w' => e = .returned (.tuple #[.agg #[.int .i64 0, .int .i64 0, .nilFunc, .nilFunc, .nilFunc], .bool false]) ∧ Below w.heap.size w w' := by
  have HK := Lib.hid hk
  clear hk
  go_enter Try.func16, Try.ntmps16
  go_wp2_with fail
  refine (pkind_0 t HK.out _).mono ?_
  rintro e w1 ⟨rfl, hb⟩
  obtain ⟨hc, hf⟩ := bcell hb
  have hz := hb.size
  simp only [World.size_alloc] at hz
  have hz2 : w.heap.size + 1 + 1 < w1.heap.size := by omega
  have hz1 : w.heap.size + 1 < w1.heap.size := by omega
  have hr := (hb.block (w.heap.size + 1) (by simp)).trans ((heap_alloc_old _ _ (by simp)).trans (heap_alloc2_new w _ _))
  have HB1 := Lib.hid ((((Below.refl _ w).alloc (Nat.le_refl _) _).alloc (by simp) _ |>.alloc (by simp; omega) _).trans (hb.mono (by simp; omega)))
  clear hb hz
  have HR := Lib.hid hr
  clear hr
  go_wp2_with ((with_reducible refine at_store 2 ?_); refine wpList_store_named (o := ⟨none, .store 35 (.tmp 2) (.tmp 36), _, _, _, _⟩) rfl 35 (.tmp 2) (.tmp 36) rfl (w.heap.size + 1) #[.int .i64 0, .int .i64 0, .nilFunc, .nilFunc, .nilFunc] rfl rfl 35 #[.int .i64 0, .int .i64 0, .nilFunc, .nilFunc, .nilFunc] ((heap_alloc_old _ _ hz1).trans HR.out) infoKd rfl (kd_one _ _ _ _ _ rfl rfl rfl) ?_)
  intro w4 hw4
  go_wp2
  refine bodyPost_ret (results_row_tmp' Try.results16 _ w4 (w.heap.size + 1) 35 #[.int .i64 0, .int .i64 0, .nilFunc, .nilFunc, .nilFunc] (0, 0) _ rfl (by rw [hw4.out]; exact setRow_heap _ _ _ _ _ _ ((heap_alloc_old _ _ hz1).trans HR.out)) Try.underlying35 rfl infoKd) rfl ⟨rfl, ?_⟩
  rw [hw4.out]
  exact below_setRow (HB1.out.alloc HB1.out.size _) (by omega) _
theorem pright_no (t : Tk) (hok : okT t = false) (w : World) : Calls Try.prog 16 #[.agg #[.int .i64 t.ser, .int .i64 t.kind, .int .i64 t.frm, .int .i64 t.till, .int .i64 t.cls, .int .i64 t.card, .int .i64 t.seat, .int .i64 t.day, .int .i64 t.days, .int .i64 t.uses, .int .i64 t.epoch]] w fun e w' => e = .returned (.tuple #[.agg #[.int .i64 0, .int .i64 0, .nilFunc, .nilFunc, .nilFunc], .bool false]) ∧ Below w.heap.size w w' := by
  by_cases h1 : t.kind = 1
  · exact no_of (okT_1 h1) hok (pr_k_fff t 1 1 _ _ _ (pkind_1 t h1) · w) (pr_k_tff t 1 1 _ _ _ (pkind_1 t h1) · · w) (fun x y z => pr_k_ttf t 1 1 _ _ _ (pkind_1 t h1) x y (fun _ _ => by kernel_rfl) (phasway_any t _ z) w)
  · by_cases h2 : t.kind = 2
    · exact no_of (okT_2 h2) hok (pr_k_fff t 2 2 _ _ _ (pkind_2 t h2) · w) (pr_k_tff t 2 2 _ _ _ (pkind_2 t h2) · · w) (fun x y z => pr_k_ttf t 2 2 _ _ _ (pkind_2 t h2) x y (fun _ _ => by kernel_rfl) (phasway_any t _ z) w)
    · by_cases h3 : t.kind = 3
      · exact no_of (okT_3 h3) hok (pr_k_fff t 0 0 _ _ _ (pkind_3 t h3) · w) (pr_k_tff t 0 0 _ _ _ (pkind_3 t h3) · · w) (fun x y z => pr_k_ttf t 0 0 _ _ _ (pkind_3 t h3) x y (fun _ _ => by kernel_rfl) (phaszones_any t _ z) w)
      · by_cases h4 : t.kind = 4
        · exact no_of (okT_4 h4) hok (pr_k_fff t 2 20 _ _ _ (pkind_4 t h4) · w) (pr_k_tff t 2 20 _ _ _ (pkind_4 t h4) · · w) (fun x y z => pr_k_ttf t 2 20 _ _ _ (pkind_4 t h4) x y (fun _ _ => by kernel_rfl) (phasway_any t _ z) w)
        · exact pr_no t (by omega) w
theorem pright_1 (t : Tk) (hk : t.kind = 1) (hok : okT t = true) (w : World) : Calls Try.prog 16 #[.agg #[.int .i64 t.ser, .int .i64 t.kind, .int .i64 t.frm, .int .i64 t.till, .int .i64 t.cls, .int .i64 t.card, .int .i64 t.seat, .int .i64 t.day, .int .i64 t.days, .int .i64 t.uses, .int .i64 t.epoch]] w fun e w' => e = .returned (.tuple #[.agg #[.int .i64 1, .int .i64 1, .func (.func 23) #[.agg #[.int .i64 t.ser, .int .i64 t.kind, .int .i64 t.frm, .int .i64 t.till, .int .i64 t.cls, .int .i64 t.card, .int .i64 t.seat, .int .i64 t.day, .int .i64 t.days, .int .i64 t.uses, .int .i64 t.epoch]] #[], .func (.func 24) #[.agg #[.int .i64 t.ser, .int .i64 t.kind, .int .i64 t.frm, .int .i64 t.till, .int .i64 t.cls, .int .i64 t.card, .int .i64 t.seat, .int .i64 t.day, .int .i64 t.days, .int .i64 t.uses, .int .i64 t.epoch]] #[], .func (.func 25) #[.agg #[.int .i64 t.ser, .int .i64 t.kind, .int .i64 t.frm, .int .i64 t.till, .int .i64 t.cls, .int .i64 t.card, .int .i64 t.seat, .int .i64 t.day, .int .i64 t.days, .int .i64 t.uses, .int .i64 t.epoch]] #[]], .bool true]) ∧ Below w.heap.size w w' := by
  rw [okT_1 hk] at hok
  simp only [Bool.and_eq_true] at hok
  exact pr_k_ttt t 1 1 _ _ _ (pkind_1 t hk) hok.1 hok.2.1 (fun _ _ => by kernel_rfl) (phasway_any t _ hok.2.2) w
theorem pright_2 (t : Tk) (hk : t.kind = 2) (hok : okT t = true) (w : World) : Calls Try.prog 16 #[.agg #[.int .i64 t.ser, .int .i64 t.kind, .int .i64 t.frm, .int .i64 t.till, .int .i64 t.cls, .int .i64 t.card, .int .i64 t.seat, .int .i64 t.day, .int .i64 t.days, .int .i64 t.uses, .int .i64 t.epoch]] w fun e w' => e = .returned (.tuple #[.agg #[.int .i64 2, .int .i64 2, .func (.func 23) #[.agg #[.int .i64 t.ser, .int .i64 t.kind, .int .i64 t.frm, .int .i64 t.till, .int .i64 t.cls, .int .i64 t.card, .int .i64 t.seat, .int .i64 t.day, .int .i64 t.days, .int .i64 t.uses, .int .i64 t.epoch]] #[], .func (.func 24) #[.agg #[.int .i64 t.ser, .int .i64 t.kind, .int .i64 t.frm, .int .i64 t.till, .int .i64 t.cls, .int .i64 t.card, .int .i64 t.seat, .int .i64 t.day, .int .i64 t.days, .int .i64 t.uses, .int .i64 t.epoch]] #[], .func (.func 26) #[.agg #[.int .i64 t.ser, .int .i64 t.kind, .int .i64 t.frm, .int .i64 t.till, .int .i64 t.cls, .int .i64 t.card, .int .i64 t.seat, .int .i64 t.day, .int .i64 t.days, .int .i64 t.uses, .int .i64 t.epoch]] #[]], .bool true]) ∧ Below w.heap.size w w' := by
  rw [okT_2 hk] at hok
  simp only [Bool.and_eq_true] at hok
  exact pr_k_ttt t 2 2 _ _ _ (pkind_2 t hk) hok.1 hok.2.1 (fun _ _ => by kernel_rfl) (phasway_any t _ hok.2.2) w
theorem pright_3 (t : Tk) (hk : t.kind = 3) (hok : okT t = true) (w : World) : Calls Try.prog 16 #[.agg #[.int .i64 t.ser, .int .i64 t.kind, .int .i64 t.frm, .int .i64 t.till, .int .i64 t.cls, .int .i64 t.card, .int .i64 t.seat, .int .i64 t.day, .int .i64 t.days, .int .i64 t.uses, .int .i64 t.epoch]] w fun e w' => e = .returned (.tuple #[.agg #[.int .i64 0, .int .i64 0, .func (.func 27) #[.agg #[.int .i64 t.ser, .int .i64 t.kind, .int .i64 t.frm, .int .i64 t.till, .int .i64 t.cls, .int .i64 t.card, .int .i64 t.seat, .int .i64 t.day, .int .i64 t.days, .int .i64 t.uses, .int .i64 t.epoch]] #[], .func (.func 28) #[.agg #[.int .i64 t.ser, .int .i64 t.kind, .int .i64 t.frm, .int .i64 t.till, .int .i64 t.cls, .int .i64 t.card, .int .i64 t.seat, .int .i64 t.day, .int .i64 t.days, .int .i64 t.uses, .int .i64 t.epoch]] #[], .func (.func 29) #[.agg #[.int .i64 t.ser, .int .i64 t.kind, .int .i64 t.frm, .int .i64 t.till, .int .i64 t.cls, .int .i64 t.card, .int .i64 t.seat, .int .i64 t.day, .int .i64 t.days, .int .i64 t.uses, .int .i64 t.epoch]] #[]], .bool true]) ∧ Below w.heap.size w w' := by
  rw [okT_3 hk] at hok
  simp only [Bool.and_eq_true] at hok
  exact pr_k_ttt t 0 0 _ _ _ (pkind_3 t hk) hok.1 hok.2.1 (fun _ _ => by kernel_rfl) (phaszones_any t _ hok.2.2) w
theorem pright_4 (t : Tk) (hk : t.kind = 4) (hok : okT t = true) (w : World) : Calls Try.prog 16 #[.agg #[.int .i64 t.ser, .int .i64 t.kind, .int .i64 t.frm, .int .i64 t.till, .int .i64 t.cls, .int .i64 t.card, .int .i64 t.seat, .int .i64 t.day, .int .i64 t.days, .int .i64 t.uses, .int .i64 t.epoch]] w fun e w' => e = .returned (.tuple #[.agg #[.int .i64 2, .int .i64 20, .func (.func 23) #[.agg #[.int .i64 t.ser, .int .i64 t.kind, .int .i64 t.frm, .int .i64 t.till, .int .i64 t.cls, .int .i64 t.card, .int .i64 t.seat, .int .i64 t.day, .int .i64 t.days, .int .i64 t.uses, .int .i64 t.epoch]] #[], .func (.func 24) #[.agg #[.int .i64 t.ser, .int .i64 t.kind, .int .i64 t.frm, .int .i64 t.till, .int .i64 t.cls, .int .i64 t.card, .int .i64 t.seat, .int .i64 t.day, .int .i64 t.days, .int .i64 t.uses, .int .i64 t.epoch]] #[], .func (.func 30) #[.agg #[.int .i64 t.ser, .int .i64 t.kind, .int .i64 t.frm, .int .i64 t.till, .int .i64 t.cls, .int .i64 t.card, .int .i64 t.seat, .int .i64 t.day, .int .i64 t.days, .int .i64 t.uses, .int .i64 t.epoch]] #[]], .bool true]) ∧ Below w.heap.size w w' := by
  rw [okT_4 hk] at hok
  simp only [Bool.and_eq_true] at hok
  exact pr_k_ttt t 2 20 _ _ _ (pkind_4 t hk) hok.1 hok.2.1 (fun _ _ => by kernel_rfl) (phasway_any t _ hok.2.2) w
end Go.Proofs.Ytaokhkbfiplfmaa
