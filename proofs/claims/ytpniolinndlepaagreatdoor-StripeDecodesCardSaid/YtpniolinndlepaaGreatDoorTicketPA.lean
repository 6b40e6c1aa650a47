/-
  Contracts of package ticket's smaller functions, and of package line's that they call.
-/
import Derived.Test.YtpniolinndlepaaGreatDoorTicketM
import Derived.Laws.EntriesVeiled
import Derived.RangeFuncNested
import Derived.RangeFuncBound
import Derived.RangeFuncLeaves
import Derived.RangeFuncBox
import Derived.Shelf.Abstract
import Derived.WalkKit
import Derived.OwnWalkIn
import Derived.TacticsInMore
import Derived.LoopNIn
import Derived.LoopIn
import Derived.Maps.OwnIn
import Derived.Maps.AppendAt
import Derived.Maps.Views
import Derived.Test.YtpniolinndlepaaGreatDoorBase
namespace Go.Proofs.YtpniolinndlepaaGreatDoor
set_option linter.unusedVariables false
open Go.ChangeShapes Go.WideShapes Go.ChangeAt Go.RowKit


def WBox (w : World) (b : Nat) (t : Tk) : Prop := w.heap[b]? = some (.cells #[.int .i64 t.ser, .int .i64 t.kind, .int .i64 t.frm, .int .i64 t.till, .int .i64 t.cls, .int .i64 t.card, .int .i64 t.seat, .int .i64 t.day, .int .i64 t.days, .int .i64 t.uses, .int .i64 t.epoch] 147 (0, 0))
theorem WBox.lt {w : World} {b : Nat} {t : Tk} (h : WBox w b t) : b < w.heap.size := (Array.getElem?_eq_some_iff.1 h).1
theorem WBox.next {w w' : World} {b : Nat} {t : Tk} (h : WBox w b t) (hb : Below w.heap.size w w') : WBox w' b t := (hb.block _ h.lt).trans h
theorem WBox.cells {w : World} {b : Nat} {t : Tk} (h : WBox w b t) : w.cell? ⟨b, 0, none⟩ = some (.int .i64 t.ser) ∧ w.cell? ⟨b, 1, none⟩ = some (.int .i64 t.kind) ∧ w.cell? ⟨b, 2, none⟩ = some (.int .i64 t.frm) ∧ w.cell? ⟨b, 3, none⟩ = some (.int .i64 t.till) ∧ w.cell? ⟨b, 4, none⟩ = some (.int .i64 t.cls) ∧ w.cell? ⟨b, 5, none⟩ = some (.int .i64 t.card) ∧ w.cell? ⟨b, 6, none⟩ = some (.int .i64 t.seat) ∧ w.cell? ⟨b, 7, none⟩ = some (.int .i64 t.day) ∧ w.cell? ⟨b, 8, none⟩ = some (.int .i64 t.days) ∧ w.cell? ⟨b, 9, none⟩ = some (.int .i64 t.uses) ∧ w.cell? ⟨b, 10, none⟩ = some (.int .i64 t.epoch) :=
  ⟨by rw [cell_of_row w b 0 _ _ (0, 0) h]; rfl, by rw [cell_of_row w b 1 _ _ (0, 0) h]; rfl, by rw [cell_of_row w b 2 _ _ (0, 0) h]; rfl, by rw [cell_of_row w b 3 _ _ (0, 0) h]; rfl, by rw [cell_of_row w b 4 _ _ (0, 0) h]; rfl, by rw [cell_of_row w b 5 _ _ (0, 0) h]; rfl, by rw [cell_of_row w b 6 _ _ (0, 0) h]; rfl, by rw [cell_of_row w b 7 _ _ (0, 0) h]; rfl, by rw [cell_of_row w b 8 _ _ (0, 0) h]; rfl, by rw [cell_of_row w b 9 _ _ (0, 0) h]; rfl, by rw [cell_of_row w b 10 _ _ (0, 0) h]; rfl⟩
theorem WBox.frozen {w : World} {b : Nat} {t : Tk} (h : WBox w b t) (j : Nat) : w.frozen? ⟨b, j, none⟩ = false := frozen_of_row w b j _ _ h
theorem WBox.new (w : World) (t : Tk) : WBox (w.alloc (.cells #[.int .i64 t.ser, .int .i64 t.kind, .int .i64 t.frm, .int .i64 t.till, .int .i64 t.cls, .int .i64 t.card, .int .i64 t.seat, .int .i64 t.day, .int .i64 t.days, .int .i64 t.uses, .int .i64 t.epoch] 147)) w.heap.size t := heap_alloc_new w _
set_option linter.unusedVariables false
open Go.ChangeShapes Go.WideShapes Go.ChangeAt Go.RowKit


set_option maxRecDepth 20000 in
set_option maxHeartbeats 1600000 in
theorem pkind_1 (t : Tk) (hk : t.kind = 1) (w : World) : Calls Tryz.prog 127 #[.agg #[.int .i64 t.ser, .int .i64 t.kind, .int .i64 t.frm, .int .i64 t.till, .int .i64 t.cls, .int .i64 t.card, .int .i64 t.seat, .int .i64 t.day, .int .i64 t.days, .int .i64 t.uses, .int .i64 t.epoch]] w fun e w' => e = .returned (.tuple #[.agg #[.int .i64 1, .int .i64 1, .func (.func 158) #[.agg #[.int .i64 t.ser, .int .i64 t.kind, .int .i64 t.frm, .int .i64 t.till, .int .i64 t.cls, .int .i64 t.card, .int .i64 t.seat, .int .i64 t.day, .int .i64 t.days, .int .i64 t.uses, .int .i64 t.epoch]] #[], .func (.func 159) #[.agg #[.int .i64 t.ser, .int .i64 t.kind, .int .i64 t.frm, .int .i64 t.till, .int .i64 t.cls, .int .i64 t.card, .int .i64 t.seat, .int .i64 t.day, .int .i64 t.days, .int .i64 t.uses, .int .i64 t.epoch]] #[], .func (.func 160) #[.agg #[.int .i64 t.ser, .int .i64 t.kind, .int .i64 t.frm, .int .i64 t.till, .int .i64 t.cls, .int .i64 t.card, .int .i64 t.seat, .int .i64 t.day, .int .i64 t.days, .int .i64 t.uses, .int .i64 t.epoch]] #[]], .bool true]) ∧ Below w.heap.size w w' := by
  have q1 : (t.kind == 1) = true := by rw [beq_iff_eq]; omega
  clear hk
  go_enter Tryz.func127, Tryz.ntmps127
  go_wp2
  exact bodyPost_ret (v := .tuple #[.agg #[.int .i64 1, .int .i64 1, .func (.func 158) #[.agg #[.int .i64 t.ser, .int .i64 t.kind, .int .i64 t.frm, .int .i64 t.till, .int .i64 t.cls, .int .i64 t.card, .int .i64 t.seat, .int .i64 t.day, .int .i64 t.days, .int .i64 t.uses, .int .i64 t.epoch]] #[], .func (.func 159) #[.agg #[.int .i64 t.ser, .int .i64 t.kind, .int .i64 t.frm, .int .i64 t.till, .int .i64 t.cls, .int .i64 t.card, .int .i64 t.seat, .int .i64 t.day, .int .i64 t.days, .int .i64 t.uses, .int .i64 t.epoch]] #[], .func (.func 160) #[.agg #[.int .i64 t.ser, .int .i64 t.kind, .int .i64 t.frm, .int .i64 t.till, .int .i64 t.cls, .int .i64 t.card, .int .i64 t.seat, .int .i64 t.day, .int .i64 t.days, .int .i64 t.uses, .int .i64 t.epoch]] #[]], .bool true]) (by simp [results, Tryz.results127, go_sem]) rfl ⟨rfl, ((Below.refl _ _).alloc (Nat.le_refl _) _).alloc (by simp) _⟩
set_option maxRecDepth 20000 in
set_option maxHeartbeats 1600000 in
theorem pkind_2 (t : Tk) (hk : t.kind = 2) (w : World) : Calls Tryz.prog 127 #[.agg #[.int .i64 t.ser, .int .i64 t.kind, .int .i64 t.frm, .int .i64 t.till, .int .i64 t.cls, .int .i64 t.card, .int .i64 t.seat, .int .i64 t.day, .int .i64 t.days, .int .i64 t.uses, .int .i64 t.epoch]] w fun e w' => e = .returned (.tuple #[.agg #[.int .i64 2, .int .i64 2, .func (.func 158) #[.agg #[.int .i64 t.ser, .int .i64 t.kind, .int .i64 t.frm, .int .i64 t.till, .int .i64 t.cls, .int .i64 t.card, .int .i64 t.seat, .int .i64 t.day, .int .i64 t.days, .int .i64 t.uses, .int .i64 t.epoch]] #[], .func (.func 159) #[.agg #[.int .i64 t.ser, .int .i64 t.kind, .int .i64 t.frm, .int .i64 t.till, .int .i64 t.cls, .int .i64 t.card, .int .i64 t.seat, .int .i64 t.day, .int .i64 t.days, .int .i64 t.uses, .int .i64 t.epoch]] #[], .func (.func 161) #[.agg #[.int .i64 t.ser, .int .i64 t.kind, .int .i64 t.frm, .int .i64 t.till, .int .i64 t.cls, .int .i64 t.card, .int .i64 t.seat, .int .i64 t.day, .int .i64 t.days, .int .i64 t.uses, .int .i64 t.epoch]] #[]], .bool true]) ∧ Below w.heap.size w w' := by
  have q1 : (t.kind == 1) = false := by rw [beq_eq_false_iff_ne]; omega
  have q2 : (t.kind == 2) = true := by rw [beq_iff_eq]; omega
  clear hk
  go_enter Tryz.func127, Tryz.ntmps127
  go_wp2
  exact bodyPost_ret (v := .tuple #[.agg #[.int .i64 2, .int .i64 2, .func (.func 158) #[.agg #[.int .i64 t.ser, .int .i64 t.kind, .int .i64 t.frm, .int .i64 t.till, .int .i64 t.cls, .int .i64 t.card, .int .i64 t.seat, .int .i64 t.day, .int .i64 t.days, .int .i64 t.uses, .int .i64 t.epoch]] #[], .func (.func 159) #[.agg #[.int .i64 t.ser, .int .i64 t.kind, .int .i64 t.frm, .int .i64 t.till, .int .i64 t.cls, .int .i64 t.card, .int .i64 t.seat, .int .i64 t.day, .int .i64 t.days, .int .i64 t.uses, .int .i64 t.epoch]] #[], .func (.func 161) #[.agg #[.int .i64 t.ser, .int .i64 t.kind, .int .i64 t.frm, .int .i64 t.till, .int .i64 t.cls, .int .i64 t.card, .int .i64 t.seat, .int .i64 t.day, .int .i64 t.days, .int .i64 t.uses, .int .i64 t.epoch]] #[]], .bool true]) (by simp [results, Tryz.results127, go_sem]) rfl ⟨rfl, ((Below.refl _ _).alloc (Nat.le_refl _) _).alloc (by simp) _⟩
set_option maxRecDepth 20000 in
set_option maxHeartbeats 1600000 in
theorem pkind_3 (t : Tk) (hk : t.kind = 3) (w : World) : Calls Tryz.prog 127 #[.agg #[.int .i64 t.ser, .int .i64 t.kind, .int .i64 t.frm, .int .i64 t.till, .int .i64 t.cls, .int .i64 t.card, .int .i64 t.seat, .int .i64 t.day, .int .i64 t.days, .int .i64 t.uses, .int .i64 t.epoch]] w fun e w' => e = .returned (.tuple #[.agg #[.int .i64 0, .int .i64 0, .func (.func 162) #[.agg #[.int .i64 t.ser, .int .i64 t.kind, .int .i64 t.frm, .int .i64 t.till, .int .i64 t.cls, .int .i64 t.card, .int .i64 t.seat, .int .i64 t.day, .int .i64 t.days, .int .i64 t.uses, .int .i64 t.epoch]] #[], .func (.func 163) #[.agg #[.int .i64 t.ser, .int .i64 t.kind, .int .i64 t.frm, .int .i64 t.till, .int .i64 t.cls, .int .i64 t.card, .int .i64 t.seat, .int .i64 t.day, .int .i64 t.days, .int .i64 t.uses, .int .i64 t.epoch]] #[], .func (.func 164) #[.agg #[.int .i64 t.ser, .int .i64 t.kind, .int .i64 t.frm, .int .i64 t.till, .int .i64 t.cls, .int .i64 t.card, .int .i64 t.seat, .int .i64 t.day, .int .i64 t.days, .int .i64 t.uses, .int .i64 t.epoch]] #[]], .bool true]) ∧ Below w.heap.size w w' := by
  have q1 : (t.kind == 1) = false := by rw [beq_eq_false_iff_ne]; omega
  have q2 : (t.kind == 2) = false := by rw [beq_eq_false_iff_ne]; omega
  have q3 : (t.kind == 3) = true := by rw [beq_iff_eq]; omega
  clear hk
  go_enter Tryz.func127, Tryz.ntmps127
  go_wp2
  exact bodyPost_ret (v := .tuple #[.agg #[.int .i64 0, .int .i64 0, .func (.func 162) #[.agg #[.int .i64 t.ser, .int .i64 t.kind, .int .i64 t.frm, .int .i64 t.till, .int .i64 t.cls, .int .i64 t.card, .int .i64 t.seat, .int .i64 t.day, .int .i64 t.days, .int .i64 t.uses, .int .i64 t.epoch]] #[], .func (.func 163) #[.agg #[.int .i64 t.ser, .int .i64 t.kind, .int .i64 t.frm, .int .i64 t.till, .int .i64 t.cls, .int .i64 t.card, .int .i64 t.seat, .int .i64 t.day, .int .i64 t.days, .int .i64 t.uses, .int .i64 t.epoch]] #[], .func (.func 164) #[.agg #[.int .i64 t.ser, .int .i64 t.kind, .int .i64 t.frm, .int .i64 t.till, .int .i64 t.cls, .int .i64 t.card, .int .i64 t.seat, .int .i64 t.day, .int .i64 t.days, .int .i64 t.uses, .int .i64 t.epoch]] #[]], .bool true]) (by simp [results, Tryz.results127, go_sem]) rfl ⟨rfl, ((Below.refl _ _).alloc (Nat.le_refl _) _).alloc (by simp) _⟩
set_option maxRecDepth 20000 in
set_option maxHeartbeats 1600000 in
theorem pkind_4 (t : Tk) (hk : t.kind = 4) (w : World) : Calls Tryz.prog 127 #[.agg #[.int .i64 t.ser, .int .i64 t.kind, .int .i64 t.frm, .int .i64 t.till, .int .i64 t.cls, .int .i64 t.card, .int .i64 t.seat, .int .i64 t.day, .int .i64 t.days, .int .i64 t.uses, .int .i64 t.epoch]] w fun e w' => e = .returned (.tuple #[.agg #[.int .i64 2, .int .i64 20, .func (.func 158) #[.agg #[.int .i64 t.ser, .int .i64 t.kind, .int .i64 t.frm, .int .i64 t.till, .int .i64 t.cls, .int .i64 t.card, .int .i64 t.seat, .int .i64 t.day, .int .i64 t.days, .int .i64 t.uses, .int .i64 t.epoch]] #[], .func (.func 159) #[.agg #[.int .i64 t.ser, .int .i64 t.kind, .int .i64 t.frm, .int .i64 t.till, .int .i64 t.cls, .int .i64 t.card, .int .i64 t.seat, .int .i64 t.day, .int .i64 t.days, .int .i64 t.uses, .int .i64 t.epoch]] #[], .func (.func 165) #[.agg #[.int .i64 t.ser, .int .i64 t.kind, .int .i64 t.frm, .int .i64 t.till, .int .i64 t.cls, .int .i64 t.card, .int .i64 t.seat, .int .i64 t.day, .int .i64 t.days, .int .i64 t.uses, .int .i64 t.epoch]] #[]], .bool true]) ∧ Below w.heap.size w w' := by
  have q1 : (t.kind == 1) = false := by rw [beq_eq_false_iff_ne]; omega
  have q2 : (t.kind == 2) = false := by rw [beq_eq_false_iff_ne]; omega
  have q3 : (t.kind == 3) = false := by rw [beq_eq_false_iff_ne]; omega
  have q4 : (t.kind == 4) = true := by rw [beq_iff_eq]; omega
  clear hk
  go_enter Tryz.func127, Tryz.ntmps127
  go_wp2
  exact bodyPost_ret (v := .tuple #[.agg #[.int .i64 2, .int .i64 20, .func (.func 158) #[.agg #[.int .i64 t.ser, .int .i64 t.kind, .int .i64 t.frm, .int .i64 t.till, .int .i64 t.cls, .int .i64 t.card, .int .i64 t.seat, .int .i64 t.day, .int .i64 t.days, .int .i64 t.uses, .int .i64 t.epoch]] #[], .func (.func 159) #[.agg #[.int .i64 t.ser, .int .i64 t.kind, .int .i64 t.frm, .int .i64 t.till, .int .i64 t.cls, .int .i64 t.card, .int .i64 t.seat, .int .i64 t.day, .int .i64 t.days, .int .i64 t.uses, .int .i64 t.epoch]] #[], .func (.func 165) #[.agg #[.int .i64 t.ser, .int .i64 t.kind, .int .i64 t.frm, .int .i64 t.till, .int .i64 t.cls, .int .i64 t.card, .int .i64 t.seat, .int .i64 t.day, .int .i64 t.days, .int .i64 t.uses, .int .i64 t.epoch]] #[]], .bool true]) (by simp [results, Tryz.results127, go_sem]) rfl ⟨rfl, ((Below.refl _ _).alloc (Nat.le_refl _) _).alloc (by simp) _⟩
set_option maxRecDepth 20000 in
set_option maxHeartbeats 1600000 in
theorem pkind_0 (t : Tk) (hk : t.kind < 1 ∨ 4 < t.kind) (w : World) : Calls Tryz.prog 127 #[.agg #[.int .i64 t.ser, .int .i64 t.kind, .int .i64 t.frm, .int .i64 t.till, .int .i64 t.cls, .int .i64 t.card, .int .i64 t.seat, .int .i64 t.day, .int .i64 t.days, .int .i64 t.uses, .int .i64 t.epoch]] w fun e w' => e = .returned (.tuple #[.agg #[.int .i64 0, .int .i64 0, .nilFunc, .nilFunc, .nilFunc], .bool false]) ∧ Below w.heap.size w w' := by
  have q1 : (t.kind == 1) = false := by rw [beq_eq_false_iff_ne]; omega
  have q2 : (t.kind == 2) = false := by rw [beq_eq_false_iff_ne]; omega
  have q3 : (t.kind == 3) = false := by rw [beq_eq_false_iff_ne]; omega
  have q4 : (t.kind == 4) = false := by rw [beq_eq_false_iff_ne]; omega
  clear hk
  go_enter Tryz.func127, Tryz.ntmps127
  go_wp2
  exact bodyPost_ret (v := .tuple #[.agg #[.int .i64 0, .int .i64 0, .nilFunc, .nilFunc, .nilFunc], .bool false]) (by simp [results, Tryz.results127, go_sem]) rfl ⟨rfl, ((Below.refl _ _).alloc (Nat.le_refl _) _).alloc (by simp) _⟩
set_option linter.unusedVariables false
open Go.ChangeShapes Go.WideShapes Go.ChangeAt Go.RowKit Go.Shelf
attribute [local go_sem] Oper.semAt_some

theorem pisn_any (s : Int) (b : Bool) (hb : isN s = b) (w : World) : Calls Tryz.prog 176 #[.int .i64 s] w fun e w' => e = .returned (.bool b) ∧ w' = w := by
  have HB := Lib.hid hb
  clear hb
  cases h0 : decide (0 ≤ s) <;> cases h1 : decide (s ≤ 39)
  all_goals
    have H0 := Lib.hid h0
    have H1 := Lib.hid h1
    go_enter Tryz.func176, Tryz.ntmps176
    go_wp2
    go_ret
    refine ⟨congrArg Ending.returned (congrArg Value.bool ?_), rfl⟩
    rw [← HB.out, isN, H0.out, H1.out]
    rfl

/-- The two boxes that the function value has captured hold what they held. -/
def KpAB (BA BB : Nat) (W W' : World) : Prop := ∀ k v, (k = BA ∨ k = BB) → W.cell? ⟨k, 0, none⟩ = some v → W'.cell? ⟨k, 0, none⟩ = some v
theorem KpAB.refl (BA BB : Nat) (W : World) : KpAB BA BB W W := fun _ _ _ h => h
theorem KpAB.trans {BA BB : Nat} {X Y Z : World} (h : KpAB BA BB X Y) (g : KpAB BA BB Y Z) : KpAB BA BB X Z := fun k v hk hv => g k v hk (h k v hk hv)
theorem KpAB.below {BA BB n₀ : Nat} {W W' : World} (hA : BA < n₀) (hB : BB < n₀) (h : Below n₀ W W') : KpAB BA BB W W' := fun k v hk hv => (h.cell (p := ⟨k, 0, none⟩) (by show k < n₀; rcases hk with rfl | rfl <;> omega)).trans hv
theorem KpAB.put {BA BB : Nat} (W : World) (l : Nat) (o o' : Obj) (hl : W.heap[l]? = some o) (ho : o.isCells = false) : KpAB BA BB W (W.putObj l o') := fun k v _ hv => cell_kept hv (grownBy_putObj' W l o') (fun r e => by cases e; exact ⟨o, hl, ho⟩)
set_option linter.unusedVariables false
set_option linter.unusedSimpArgs false
open Go.ChangeShapes Go.WideShapes Go.ChangeAt Go.RowKit

set_option linter.unusedVariables false
set_option linter.unusedSimpArgs false
open Go.ChangeShapes Go.WideShapes Go.ChangeAt Go.RowKit Go.Shelf
attribute [local go_sem] Oper.semAt_some

/-- The zones as a map that is filled station by station. -/
def zF {H : Type} (D : DataW H) (xs : List (Fin 40)) : DataW H := xs.foldl (fun D x => D.put (.int .i64 (x.val : Int)) (.lit (.int .i64 (zn (x.val : Int))))) D
def zD {H : Type} (xs : List (Fin 40)) : DataW H := zF (.map []) xs
set_option linter.unusedVariables false
set_option linter.unusedSimpArgs false
open Go.ChangeShapes Go.WideShapes Go.ChangeAt Go.RowKit Go.Shelf
attribute [local go_sem] Oper.semAt_some

set_option linter.unusedVariables false
open Go.ChangeShapes Go.WideShapes Go.ChangeAt Go.RowKit


theorem pwithin_any (n a b : Int) (v : Bool) (hv : (decide (a ≤ n) && decide (n ≤ b)) = v) (w : World) : Calls Tryz.prog 129 #[.int .i64 n, .int .i64 a, .int .i64 b] w fun e w' => e = .returned (.bool v) ∧ w' = w := by
  have HB := Lib.hid hv
  clear hv
  cases h0 : decide (a ≤ n) <;> cases h1 : decide (n ≤ b)
  all_goals
    have H0 := Lib.hid h0
    have H1 := Lib.hid h1
    go_enter Tryz.func129, Tryz.ntmps129
    go_wp2
    go_ret
    refine ⟨congrArg Ending.returned (congrArg Value.bool ?_), rfl⟩
    rw [← HB.out, H0.out, H1.out]
    rfl
def wayB (t : Tk) : Bool := isN t.frm && (isN t.till && (t.frm != t.till))
def zonesB (t : Tk) : Bool := decide (1 ≤ t.frm) && (decide (t.frm ≤ t.till) && decide (t.till ≤ 6))
set_option maxHeartbeats 1600000 in
theorem phasway_any (t : Tk) (b : Bool) (hb : wayB t = b) (w : World) : Calls Tryz.prog 158 #[.agg #[.int .i64 t.ser, .int .i64 t.kind, .int .i64 t.frm, .int .i64 t.till, .int .i64 t.cls, .int .i64 t.card, .int .i64 t.seat, .int .i64 t.day, .int .i64 t.days, .int .i64 t.uses, .int .i64 t.epoch]] w fun e w' => e = .returned (.bool b) ∧ Below w.heap.size w w' := by
  have HV := Lib.hid hb
  clear hb
  obtain ⟨w0, hw0⟩ : ∃ w0, w0 = w.alloc (.cells #[.int .i64 t.ser, .int .i64 t.kind, .int .i64 t.frm, .int .i64 t.till, .int .i64 t.cls, .int .i64 t.card, .int .i64 t.seat, .int .i64 t.day, .int .i64 t.days, .int .i64 t.uses, .int .i64 t.epoch] 147) := ⟨_, rfl⟩
  have HX : Hid (WBox w0 w.heap.size t) := Lib.hid (by rw [hw0]; exact WBox.new w t)
  have HB : Hid (Below w.heap.size w w0) := Lib.hid (by rw [hw0]; exact below_lit w _ _)
  have HW := Lib.hid hw0
  clear hw0
  obtain ⟨c0, c1, c2, c3, c4, c5, c6, c7, c8, c9, c10⟩ := HX.out.cells
  cases q1 : isN t.frm <;> cases q2 : isN t.till <;> cases q3 : (t.frm != t.till)
  all_goals
    have hb : (isN t.frm && (isN t.till && (t.frm != t.till))) = b := HV.out
    rw [q1, q2, q3] at hb
    subst hb
    have HI := Lib.hid q1
    have HJ := Lib.hid q2
    clear q1 q2
    go_enter Tryz.func158, Tryz.ntmps158
    go_wp2_with (go_at_call 176; refine (pisn_any _ _ (by first | exact HI.out | exact HJ.out) _).mono ?_; rintro e w1 ⟨rfl, rfl⟩)
    go_ret
    refine ⟨rfl, ?_⟩
    rw [← HW.out]
    exact HB.out
set_option maxHeartbeats 1600000 in
theorem phaszones_any (t : Tk) (b : Bool) (hb : zonesB t = b) (w : World) : Calls Tryz.prog 162 #[.agg #[.int .i64 t.ser, .int .i64 t.kind, .int .i64 t.frm, .int .i64 t.till, .int .i64 t.cls, .int .i64 t.card, .int .i64 t.seat, .int .i64 t.day, .int .i64 t.days, .int .i64 t.uses, .int .i64 t.epoch]] w fun e w' => e = .returned (.bool b) ∧ Below w.heap.size w w' := by
  have HV := Lib.hid hb
  clear hb
  obtain ⟨w0, hw0⟩ : ∃ w0, w0 = w.alloc (.cells #[.int .i64 t.ser, .int .i64 t.kind, .int .i64 t.frm, .int .i64 t.till, .int .i64 t.cls, .int .i64 t.card, .int .i64 t.seat, .int .i64 t.day, .int .i64 t.days, .int .i64 t.uses, .int .i64 t.epoch] 147) := ⟨_, rfl⟩
  have HX : Hid (WBox w0 w.heap.size t) := Lib.hid (by rw [hw0]; exact WBox.new w t)
  have HB : Hid (Below w.heap.size w w0) := Lib.hid (by rw [hw0]; exact below_lit w _ _)
  have HW := Lib.hid hw0
  clear hw0
  obtain ⟨c0, c1, c2, c3, c4, c5, c6, c7, c8, c9, c10⟩ := HX.out.cells
  obtain ⟨x, hx⟩ : ∃ x, (decide (1 ≤ t.frm) && decide (t.frm ≤ t.till)) = x := ⟨_, rfl⟩
  have hb : (x && decide (t.till ≤ 6)) = b := by rw [← hx, ← HV.out, zonesB, Bool.and_assoc]
  have HX2 := Lib.hid hx
  have HV2 := Lib.hid hb
  clear hx hb
  cases x <;> cases q3 : decide (t.till ≤ 6)
  all_goals
    have hb := HV2.out
    rw [q3] at hb
    subst hb
    go_enter Tryz.func162, Tryz.ntmps162
    go_wp2_with (go_at_call 129; refine (pwithin_any _ _ _ _ HX2.out _).mono ?_; rintro e w1 ⟨rfl, rfl⟩)
    go_ret
    refine ⟨rfl, ?_⟩
    rw [← HW.out]
    exact HB.out
set_option linter.unusedVariables false
open Go.ChangeShapes Go.WideShapes Go.ChangeAt Go.RowKit


def inB (n a b : Int) : Bool := decide (a ≤ n) && decide (n ≤ b)
theorem inB_iff {n a b : Int} : inB n a b = true ↔ a ≤ n ∧ n ≤ b := by simp [inB]
def hbB (t : Tk) : Bool := inB t.ser 1 1099511627776 && (inB t.cls 1 2 && (inB t.card 0 3 && (inB t.seat 0 999 && (inB t.day 0 99999 && (inB t.days 1 999 && (decide (t.day + t.days - 1 ≤ 99999) && (inB t.epoch 0 9)))))))
set_option maxRecDepth 20000 in
set_option maxHeartbeats 3200000 in
theorem pbounds_any (t : Tk) (b : Bool) (hb : hbB t = b) (w : World) : Calls Tryz.prog 128 #[.agg #[.int .i64 t.ser, .int .i64 t.kind, .int .i64 t.frm, .int .i64 t.till, .int .i64 t.cls, .int .i64 t.card, .int .i64 t.seat, .int .i64 t.day, .int .i64 t.days, .int .i64 t.uses, .int .i64 t.epoch]] w fun e w' => e = .returned (.bool b) ∧ Below w.heap.size w w' := by
  have HV := Lib.hid hb
  clear hb
  obtain ⟨w0, hw0⟩ : ∃ w0, w0 = w.alloc (.cells #[.int .i64 t.ser, .int .i64 t.kind, .int .i64 t.frm, .int .i64 t.till, .int .i64 t.cls, .int .i64 t.card, .int .i64 t.seat, .int .i64 t.day, .int .i64 t.days, .int .i64 t.uses, .int .i64 t.epoch] 147) := ⟨_, rfl⟩
  have HX : Hid (WBox w0 w.heap.size t) := Lib.hid (by rw [hw0]; exact WBox.new w t)
  have HB : Hid (Below w.heap.size w w0) := Lib.hid (by rw [hw0]; exact below_lit w _ _)
  have HW := Lib.hid hw0
  clear hw0
  obtain ⟨c0, c1, c2, c3, c4, c5, c6, c7, c8, c9, c10⟩ := HX.out.cells
  cases q0 : inB t.ser 1 1099511627776
  case false =>
    have Q0 := Lib.hid q0
    clear q0
    have hb : b = false := by rw [← HV.out, hbB, Q0.out]; try rfl
    subst hb
    go_enter Tryz.func128, Tryz.ntmps128
    go_wp2_with (go_at_call 129; refine (pwithin_any _ _ _ _ (by first | exact Q0.out) _).mono ?_; rintro e w1 ⟨rfl, rfl⟩)
    go_ret
    refine ⟨rfl, ?_⟩
    rw [← HW.out]
    exact HB.out
  case true =>
    have Q0 := Lib.hid q0
    clear q0
    cases q1 : inB t.cls 1 2
    case false =>
      have Q1 := Lib.hid q1
      clear q1
      have hb : b = false := by rw [← HV.out, hbB, Q0.out, Q1.out]; try rfl
      subst hb
      go_enter Tryz.func128, Tryz.ntmps128
      go_wp2_with (go_at_call 129; refine (pwithin_any _ _ _ _ (by first | exact Q0.out | exact Q1.out) _).mono ?_; rintro e w1 ⟨rfl, rfl⟩)
      go_ret
      refine ⟨rfl, ?_⟩
      rw [← HW.out]
      exact HB.out
    case true =>
      have Q1 := Lib.hid q1
      clear q1
      cases q2 : inB t.card 0 3
      case false =>
        have Q2 := Lib.hid q2
        clear q2
        have hb : b = false := by rw [← HV.out, hbB, Q0.out, Q1.out, Q2.out]; try rfl
        subst hb
        go_enter Tryz.func128, Tryz.ntmps128
        go_wp2_with (go_at_call 129; refine (pwithin_any _ _ _ _ (by first | exact Q0.out | exact Q1.out | exact Q2.out) _).mono ?_; rintro e w1 ⟨rfl, rfl⟩)
        go_ret
        refine ⟨rfl, ?_⟩
        rw [← HW.out]
        exact HB.out
      case true =>
        have Q2 := Lib.hid q2
        clear q2
        cases q3 : inB t.seat 0 999
        case false =>
          have Q3 := Lib.hid q3
          clear q3
          have hb : b = false := by rw [← HV.out, hbB, Q0.out, Q1.out, Q2.out, Q3.out]; try rfl
          subst hb
          go_enter Tryz.func128, Tryz.ntmps128
          go_wp2_with (go_at_call 129; refine (pwithin_any _ _ _ _ (by first | exact Q0.out | exact Q1.out | exact Q2.out | exact Q3.out) _).mono ?_; rintro e w1 ⟨rfl, rfl⟩)
          go_ret
          refine ⟨rfl, ?_⟩
          rw [← HW.out]
          exact HB.out
        case true =>
          have Q3 := Lib.hid q3
          clear q3
          cases q4 : inB t.day 0 99999
          case false =>
            have Q4 := Lib.hid q4
            clear q4
            have hb : b = false := by rw [← HV.out, hbB, Q0.out, Q1.out, Q2.out, Q3.out, Q4.out]; try rfl
            subst hb
            go_enter Tryz.func128, Tryz.ntmps128
            go_wp2_with (go_at_call 129; refine (pwithin_any _ _ _ _ (by first | exact Q0.out | exact Q1.out | exact Q2.out | exact Q3.out | exact Q4.out) _).mono ?_; rintro e w1 ⟨rfl, rfl⟩)
            go_ret
            refine ⟨rfl, ?_⟩
            rw [← HW.out]
            exact HB.out
          case true =>
            have Q4 := Lib.hid q4
            clear q4
            cases q5 : inB t.days 1 999
            case false =>
              have Q5 := Lib.hid q5
              clear q5
              have hb : b = false := by rw [← HV.out, hbB, Q0.out, Q1.out, Q2.out, Q3.out, Q4.out, Q5.out]; try rfl
              subst hb
              go_enter Tryz.func128, Tryz.ntmps128
              go_wp2_with (go_at_call 129; refine (pwithin_any _ _ _ _ (by first | exact Q0.out | exact Q1.out | exact Q2.out | exact Q3.out | exact Q4.out | exact Q5.out) _).mono ?_; rintro e w1 ⟨rfl, rfl⟩)
              go_ret
              refine ⟨rfl, ?_⟩
              rw [← HW.out]
              exact HB.out
            case true =>
              have Q5 := Lib.hid q5
              clear q5
              have h4 := inB_iff.1 Q4.out
              have h5 := inB_iff.1 Q5.out
              have v1 : IntKind.i64.wrap (t.day + t.days) = t.day + t.days := IntWalk.i64_in _ (by omega)
              have v2 : IntKind.i64.wrap (t.day + t.days - 1) = t.day + t.days - 1 := IntWalk.i64_in _ (by omega)
              clear h4 h5
              cases q6 : decide (t.day + t.days - 1 ≤ 99999)
              case false =>
                have Q6 := Lib.hid q6
                have hb : b = false := by rw [← HV.out, hbB, Q0.out, Q1.out, Q2.out, Q3.out, Q4.out, Q5.out, Q6.out]; try rfl
                subst hb
                go_enter Tryz.func128, Tryz.ntmps128
                go_wp2_with (go_at_call 129; refine (pwithin_any _ _ _ _ (by first | exact Q0.out | exact Q1.out | exact Q2.out | exact Q3.out | exact Q4.out | exact Q5.out) _).mono ?_; rintro e w1 ⟨rfl, rfl⟩)
                go_ret
                refine ⟨rfl, ?_⟩
                rw [← HW.out]
                exact HB.out
              case true =>
                have Q6 := Lib.hid q6
                cases q7 : inB t.epoch 0 9
                case false =>
                  have Q7 := Lib.hid q7
                  clear q7
                  have hb : b = false := by rw [← HV.out, hbB, Q0.out, Q1.out, Q2.out, Q3.out, Q4.out, Q5.out, Q6.out, Q7.out]; try rfl
                  subst hb
                  go_enter Tryz.func128, Tryz.ntmps128
                  go_wp2_with (go_at_call 129; refine (pwithin_any _ _ _ _ (by first | exact Q0.out | exact Q1.out | exact Q2.out | exact Q3.out | exact Q4.out | exact Q5.out | exact Q7.out) _).mono ?_; rintro e w1 ⟨rfl, rfl⟩)
                  go_ret
                  refine ⟨rfl, ?_⟩
                  rw [← HW.out]
                  exact HB.out
                case true =>
                  have Q7 := Lib.hid q7
                  clear q7
                  have hb : b = true := by rw [← HV.out, hbB, Q0.out, Q1.out, Q2.out, Q3.out, Q4.out, Q5.out, Q6.out, Q7.out]; try rfl
                  subst hb
                  go_enter Tryz.func128, Tryz.ntmps128
                  go_wp2_with (go_at_call 129; refine (pwithin_any _ _ _ _ (by first | exact Q0.out | exact Q1.out | exact Q2.out | exact Q3.out | exact Q4.out | exact Q5.out | exact Q7.out) _).mono ?_; rintro e w1 ⟨rfl, rfl⟩)
                  go_ret
                  refine ⟨rfl, ?_⟩
                  rw [← HW.out]
                  exact HB.out
set_option linter.unusedVariables false
open Go.ChangeShapes Go.WideShapes Go.ChangeAt Go.RowKit


theorem bcell {W w1 : World} (hb : Below W.heap.size W w1) : (∀ b o, b < W.heap.size → w1.cell? ⟨b, o, none⟩ = W.cell? ⟨b, o, none⟩) ∧ (∀ b o, b < W.heap.size → w1.frozen? ⟨b, o, none⟩ = W.frozen? ⟨b, o, none⟩) :=
  ⟨fun b o h => hb.cell (p := ⟨b, o, none⟩) h, fun b o h => hb.frozen (p := ⟨b, o, none⟩) h⟩
theorem okT_bounds (t : Tk) : okT t = (hbB t && (inB t.kind 1 4 && (placeB t && usesB t))) := by
  rw [Bool.eq_iff_iff, okT_iff, numsB_iff, daysB_iff]
  simp only [hbB, Bool.and_eq_true, inB_iff, decide_eq_true_eq]
  constructor
  · rintro ⟨h1, h2, h3, h4⟩; exact ⟨by omega, by omega, h3, h4⟩
  · rintro ⟨h1, h2, h3, h4⟩; exact ⟨by omega, by omega, h3, h4⟩
theorem no_of {a b c o : Bool} {P : Prop} (e : o = (a && (b && c))) (h : o = false) (h1 : a = false → P) (h2 : a = true → b = false → P) (h3 : a = true → b = true → c = false → P) : P := by
  cases a
  · exact h1 rfl
  · cases b
    · exact h2 rfl rfl
    · cases c
      · exact h3 rfl rfl rfl
      · rw [h] at e; cases e
theorem infoKd : (Tryz.prog.info? 119).map (·.size) = some 5 := by kernel_rfl
theorem kd_one (x y : Int) (a b c : Value) (ha : a.oneCell' = true) (hb : b.oneCell' = true) (hc : c.oneCell' = true) : (#[Value.int .i64 x, Value.int .i64 y, a, b, c] : Array Value).all (·.oneCell') = true := by
  rw [Array.all_eq_true_iff_forall_mem]
  intro u hu
  simp at hu
  rcases hu with rfl | rfl | rfl | rfl | rfl
  · rfl
  · rfl
  · exact ha
  · exact hb
  · exact hc
theorem okT_1 {t : Tk} (hk : t.kind = 1) : okT t = (hbB t && (inB t.uses 1 1 && wayB t)) := by
  have e1 : inB t.kind 1 4 = true := by rw [inB_iff]; omega
  have e2 : placeB t = wayB t := by rw [placeB, if_neg (by omega)]; rfl
  have e3 : usesB t = inB t.uses 1 1 := by
    rw [Bool.eq_iff_iff, inB_iff, usesB]
    rw [hk]
    simp
    try omega
  rw [okT_bounds, e1, e2, e3, Bool.true_and, Bool.and_comm (wayB t)]
theorem okT_2 {t : Tk} (hk : t.kind = 2) : okT t = (hbB t && (inB t.uses 2 2 && wayB t)) := by
  have e1 : inB t.kind 1 4 = true := by rw [inB_iff]; omega
  have e2 : placeB t = wayB t := by rw [placeB, if_neg (by omega)]; rfl
  have e3 : usesB t = inB t.uses 2 2 := by
    rw [Bool.eq_iff_iff, inB_iff, usesB]
    rw [hk]
    simp
    try omega
  rw [okT_bounds, e1, e2, e3, Bool.true_and, Bool.and_comm (wayB t)]
theorem okT_3 {t : Tk} (hk : t.kind = 3) : okT t = (hbB t && (inB t.uses 0 0 && zonesB t)) := by
  have e1 : inB t.kind 1 4 = true := by rw [inB_iff]; omega
  have e2 : placeB t = zonesB t := by rw [placeB, if_pos hk]; rfl
  have e3 : usesB t = inB t.uses 0 0 := by
    rw [Bool.eq_iff_iff, inB_iff, usesB]
    rw [hk]
    simp
    try omega
  rw [okT_bounds, e1, e2, e3, Bool.true_and, Bool.and_comm (zonesB t)]
theorem okT_4 {t : Tk} (hk : t.kind = 4) : okT t = (hbB t && (inB t.uses 2 20 && wayB t)) := by
  have e1 : inB t.kind 1 4 = true := by rw [inB_iff]; omega
  have e2 : placeB t = wayB t := by rw [placeB, if_neg (by omega)]; rfl
  have e3 : usesB t = inB t.uses 2 20 := by
    rw [Bool.eq_iff_iff, inB_iff, usesB]
    rw [hk]
    simp
    try omega
  rw [okT_bounds, e1, e2, e3, Bool.true_and, Bool.and_comm (wayB t)]
end Go.Proofs.YtpniolinndlepaaGreatDoor
