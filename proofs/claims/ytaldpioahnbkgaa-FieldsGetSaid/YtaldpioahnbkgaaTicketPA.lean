/-
  Contracts of package ticket's smaller functions, and of package line's that they call.
-/
import Derived.Test.YtaldpioahnbkgaaTicketM
import Derived.Laws.EntriesVeiled
import Derived.RangeFuncNested
import Derived.RangeFuncBound
import Derived.RangeFuncLeaves
import Derived.RangeFuncBox
import Derived.Shelf.Abstract
import Derived.WalkKit
import Derived.OwnWalkIn
import Derived.TacticsInMore
import Derived.LoopNIn
import Derived.LoopIn
import Derived.Maps.OwnIn
import Derived.Maps.AppendAt
import Derived.Maps.Views
import Derived.Test.YtaldpioahnbkgaaBase
namespace Go.Proofs.Ytaldpioahnbkgaa
set_option linter.unusedVariables false
open Go.ChangeShapes Go.WideShapes Go.ChangeAt Go.RowKit


theorem infoWk : (Try.prog.info? 72).map (·.size) = some 11 := by kernel_rfl
def WBox (w : World) (b : Nat) (t : Tk) : Prop := w.heap[b]? = some (.cells #[.int .i64 t.ser, .int .i64 t.kind, .int .i64 t.frm, .int .i64 t.till, .int .i64 t.cls, .int .i64 t.card, .int .i64 t.seat, .int .i64 t.day, .int .i64 t.days, .int .i64 t.uses, .int .i64 t.epoch] 72 (0, 0))
theorem WBox.lt {w : World} {b : Nat} {t : Tk} (h : WBox w b t) : b < w.heap.size := (Array.getElem?_eq_some_iff.1 h).1
theorem WBox.next {w w' : World} {b : Nat} {t : Tk} (h : WBox w b t) (hb : Below w.heap.size w w') : WBox w' b t := (hb.block _ h.lt).trans h
theorem WBox.cells {w : World} {b : Nat} {t : Tk} (h : WBox w b t) : w.cell? ⟨b, 0, none⟩ = some (.int .i64 t.ser) ∧ w.cell? ⟨b, 1, none⟩ = some (.int .i64 t.kind) ∧ w.cell? ⟨b, 2, none⟩ = some (.int .i64 t.frm) ∧ w.cell? ⟨b, 3, none⟩ = some (.int .i64 t.till) ∧ w.cell? ⟨b, 4, none⟩ = some (.int .i64 t.cls) ∧ w.cell? ⟨b, 5, none⟩ = some (.int .i64 t.card) ∧ w.cell? ⟨b, 6, none⟩ = some (.int .i64 t.seat) ∧ w.cell? ⟨b, 7, none⟩ = some (.int .i64 t.day) ∧ w.cell? ⟨b, 8, none⟩ = some (.int .i64 t.days) ∧ w.cell? ⟨b, 9, none⟩ = some (.int .i64 t.uses) ∧ w.cell? ⟨b, 10, none⟩ = some (.int .i64 t.epoch) :=
  ⟨by rw [cell_of_row w b 0 _ _ (0, 0) h]; rfl, by rw [cell_of_row w b 1 _ _ (0, 0) h]; rfl, by rw [cell_of_row w b 2 _ _ (0, 0) h]; rfl, by rw [cell_of_row w b 3 _ _ (0, 0) h]; rfl, by rw [cell_of_row w b 4 _ _ (0, 0) h]; rfl, by rw [cell_of_row w b 5 _ _ (0, 0) h]; rfl, by rw [cell_of_row w b 6 _ _ (0, 0) h]; rfl, by rw [cell_of_row w b 7 _ _ (0, 0) h]; rfl, by rw [cell_of_row w b 8 _ _ (0, 0) h]; rfl, by rw [cell_of_row w b 9 _ _ (0, 0) h]; rfl, by rw [cell_of_row w b 10 _ _ (0, 0) h]; rfl⟩
theorem WBox.frozen {w : World} {b : Nat} {t : Tk} (h : WBox w b t) (j : Nat) : w.frozen? ⟨b, j, none⟩ = false := frozen_of_row w b j _ _ h
theorem WBox.new (w : World) (t : Tk) : WBox (w.alloc (.cells #[.int .i64 t.ser, .int .i64 t.kind, .int .i64 t.frm, .int .i64 t.till, .int .i64 t.cls, .int .i64 t.card, .int .i64 t.seat, .int .i64 t.day, .int .i64 t.days, .int .i64 t.uses, .int .i64 t.epoch] 72)) w.heap.size t := heap_alloc_new w _
set_option linter.unusedVariables false
open Go.ChangeShapes Go.WideShapes Go.ChangeAt Go.RowKit


set_option maxRecDepth 20000 in
set_option maxHeartbeats 1600000 in
theorem pkind_1 (t : Tk) (hk : t.kind = 1) (w : World) : Calls Try.prog 43 #[.agg #[.int .i64 t.ser, .int .i64 t.kind, .int .i64 t.frm, .int .i64 t.till, .int .i64 t.cls, .int .i64 t.card, .int .i64 t.seat, .int .i64 t.day, .int .i64 t.days, .int .i64 t.uses, .int .i64 t.epoch]] w fun e w' => e = .returned (.tuple #[.agg #[.int .i64 1, .int .i64 1, .func (.func 50) #[.agg #[.int .i64 t.ser, .int .i64 t.kind, .int .i64 t.frm, .int .i64 t.till, .int .i64 t.cls, .int .i64 t.card, .int .i64 t.seat, .int .i64 t.day, .int .i64 t.days, .int .i64 t.uses, .int .i64 t.epoch]] #[], .func (.func 51) #[.agg #[.int .i64 t.ser, .int .i64 t.kind, .int .i64 t.frm, .int .i64 t.till, .int .i64 t.cls, .int .i64 t.card, .int .i64 t.seat, .int .i64 t.day, .int .i64 t.days, .int .i64 t.uses, .int .i64 t.epoch]] #[], .func (.func 52) #[.agg #[.int .i64 t.ser, .int .i64 t.kind, .int .i64 t.frm, .int .i64 t.till, .int .i64 t.cls, .int .i64 t.card, .int .i64 t.seat, .int .i64 t.day, .int .i64 t.days, .int .i64 t.uses, .int .i64 t.epoch]] #[]], .bool true]) ∧ Below w.heap.size w w' := by
  have q1 : (t.kind == 1) = true := by rw [beq_iff_eq]; omega
  clear hk
  go_enter Try.func43, Try.ntmps43
  go_wp2
  exact bodyPost_ret (v := .tuple #[.agg #[.int .i64 1, .int .i64 1, .func (.func 50) #[.agg #[.int .i64 t.ser, .int .i64 t.kind, .int .i64 t.frm, .int .i64 t.till, .int .i64 t.cls, .int .i64 t.card, .int .i64 t.seat, .int .i64 t.day, .int .i64 t.days, .int .i64 t.uses, .int .i64 t.epoch]] #[], .func (.func 51) #[.agg #[.int .i64 t.ser, .int .i64 t.kind, .int .i64 t.frm, .int .i64 t.till, .int .i64 t.cls, .int .i64 t.card, .int .i64 t.seat, .int .i64 t.day, .int .i64 t.days, .int .i64 t.uses, .int .i64 t.epoch]] #[], .func (.func 52) #[.agg #[.int .i64 t.ser, .int .i64 t.kind, .int .i64 t.frm, .int .i64 t.till, .int .i64 t.cls, .int .i64 t.card, .int .i64 t.seat, .int .i64 t.day, .int .i64 t.days, .int .i64 t.uses, .int .i64 t.epoch]] #[]], .bool true]) (by simp [results, Try.results43, go_sem]) rfl ⟨rfl, ((Below.refl _ _).alloc (Nat.le_refl _) _).alloc (by simp) _⟩
set_option maxRecDepth 20000 in
set_option maxHeartbeats 1600000 in
theorem pkind_2 (t : Tk) (hk : t.kind = 2) (w : World) : Calls Try.prog 43 #[.agg #[.int .i64 t.ser, .int .i64 t.kind, .int .i64 t.frm, .int .i64 t.till, .int .i64 t.cls, .int .i64 t.card, .int .i64 t.seat, .int .i64 t.day, .int .i64 t.days, .int .i64 t.uses, .int .i64 t.epoch]] w fun e w' => e = .returned (.tuple #[.agg #[.int .i64 2, .int .i64 2, .func (.func 50) #[.agg #[.int .i64 t.ser, .int .i64 t.kind, .int .i64 t.frm, .int .i64 t.till, .int .i64 t.cls, .int .i64 t.card, .int .i64 t.seat, .int .i64 t.day, .int .i64 t.days, .int .i64 t.uses, .int .i64 t.epoch]] #[], .func (.func 51) #[.agg #[.int .i64 t.ser, .int .i64 t.kind, .int .i64 t.frm, .int .i64 t.till, .int .i64 t.cls, .int .i64 t.card, .int .i64 t.seat, .int .i64 t.day, .int .i64 t.days, .int .i64 t.uses, .int .i64 t.epoch]] #[], .func (.func 53) #[.agg #[.int .i64 t.ser, .int .i64 t.kind, .int .i64 t.frm, .int .i64 t.till, .int .i64 t.cls, .int .i64 t.card, .int .i64 t.seat, .int .i64 t.day, .int .i64 t.days, .int .i64 t.uses, .int .i64 t.epoch]] #[]], .bool true]) ∧ Below w.heap.size w w' := by
  have q1 : (t.kind == 1) = false := by rw [beq_eq_false_iff_ne]; omega
  have q2 : (t.kind == 2) = true := by rw [beq_iff_eq]; omega
  clear hk
  go_enter Try.func43, Try.ntmps43
  go_wp2
  exact bodyPost_ret (v := .tuple #[.agg #[.int .i64 2, .int .i64 2, .func (.func 50) #[.agg #[.int .i64 t.ser, .int .i64 t.kind, .int .i64 t.frm, .int .i64 t.till, .int .i64 t.cls, .int .i64 t.card, .int .i64 t.seat, .int .i64 t.day, .int .i64 t.days, .int .i64 t.uses, .int .i64 t.epoch]] #[], .func (.func 51) #[.agg #[.int .i64 t.ser, .int .i64 t.kind, .int .i64 t.frm, .int .i64 t.till, .int .i64 t.cls, .int .i64 t.card, .int .i64 t.seat, .int .i64 t.day, .int .i64 t.days, .int .i64 t.uses, .int .i64 t.epoch]] #[], .func (.func 53) #[.agg #[.int .i64 t.ser, .int .i64 t.kind, .int .i64 t.frm, .int .i64 t.till, .int .i64 t.cls, .int .i64 t.card, .int .i64 t.seat, .int .i64 t.day, .int .i64 t.days, .int .i64 t.uses, .int .i64 t.epoch]] #[]], .bool true]) (by simp [results, Try.results43, go_sem]) rfl ⟨rfl, ((Below.refl _ _).alloc (Nat.le_refl _) _).alloc (by simp) _⟩
set_option maxRecDepth 20000 in
set_option maxHeartbeats 1600000 in
theorem pkind_3 (t : Tk) (hk : t.kind = 3) (w : World) : Calls Try.prog 43 #[.agg #[.int .i64 t.ser, .int .i64 t.kind, .int .i64 t.frm, .int .i64 t.till, .int .i64 t.cls, .int .i64 t.card, .int .i64 t.seat, .int .i64 t.day, .int .i64 t.days, .int .i64 t.uses, .int .i64 t.epoch]] w fun e w' => e = .returned (.tuple #[.agg #[.int .i64 0, .int .i64 0, .func (.func 54) #[.agg #[.int .i64 t.ser, .int .i64 t.kind, .int .i64 t.frm, .int .i64 t.till, .int .i64 t.cls, .int .i64 t.card, .int .i64 t.seat, .int .i64 t.day, .int .i64 t.days, .int .i64 t.uses, .int .i64 t.epoch]] #[], .func (.func 55) #[.agg #[.int .i64 t.ser, .int .i64 t.kind, .int .i64 t.frm, .int .i64 t.till, .int .i64 t.cls, .int .i64 t.card, .int .i64 t.seat, .int .i64 t.day, .int .i64 t.days, .int .i64 t.uses, .int .i64 t.epoch]] #[], .func (.func 56) #[.agg #[.int .i64 t.ser, .int .i64 t.kind, .int .i64 t.frm, .int .i64 t.till, .int .i64 t.cls, .int .i64 t.card, .int .i64 t.seat, .int .i64 t.day, .int .i64 t.days, .int .i64 t.uses, .int .i64 t.epoch]] #[]], .bool true]) ∧ Below w.heap.size w w' := by
  have q1 : (t.kind == 1) = false := by rw [beq_eq_false_iff_ne]; omega
  have q2 : (t.kind == 2) = false := by rw [beq_eq_false_iff_ne]; omega
  have q3 : (t.kind == 3) = true := by rw [beq_iff_eq]; omega
  clear hk
  go_enter Try.func43, Try.ntmps43
  go_wp2
  exact bodyPost_ret (v := .tuple #[.agg #[.int .i64 0, .int .i64 0, .func (.func 54) #[.agg #[.int .i64 t.ser, .int .i64 t.kind, .int .i64 t.frm, .int .i64 t.till, .int .i64 t.cls, .int .i64 t.card, .int .i64 t.seat, .int .i64 t.day, .int .i64 t.days, .int .i64 t.uses, .int .i64 t.epoch]] #[], .func (.func 55) #[.agg #[.int .i64 t.ser, .int .i64 t.kind, .int .i64 t.frm, .int .i64 t.till, .int .i64 t.cls, .int .i64 t.card, .int .i64 t.seat, .int .i64 t.day, .int .i64 t.days, .int .i64 t.uses, .int .i64 t.epoch]] #[], .func (.func 56) #[.agg #[.int .i64 t.ser, .int .i64 t.kind, .int .i64 t.frm, .int .i64 t.till, .int .i64 t.cls, .int .i64 t.card, .int .i64 t.seat, .int .i64 t.day, .int .i64 t.days, .int .i64 t.uses, .int .i64 t.epoch]] #[]], .bool true]) (by simp [results, Try.results43, go_sem]) rfl ⟨rfl, ((Below.refl _ _).alloc (Nat.le_refl _) _).alloc (by simp) _⟩
set_option maxRecDepth 20000 in
set_option maxHeartbeats 1600000 in
theorem pkind_4 (t : Tk) (hk : t.kind = 4) (w : World) : Calls Try.prog 43 #[.agg #[.int .i64 t.ser, .int .i64 t.kind, .int .i64 t.frm, .int .i64 t.till, .int .i64 t.cls, .int .i64 t.card, .int .i64 t.seat, .int .i64 t.day, .int .i64 t.days, .int .i64 t.uses, .int .i64 t.epoch]] w fun e w' => e = .returned (.tuple #[.agg #[.int .i64 2, .int .i64 20, .func (.func 50) #[.agg #[.int .i64 t.ser, .int .i64 t.kind, .int .i64 t.frm, .int .i64 t.till, .int .i64 t.cls, .int .i64 t.card, .int .i64 t.seat, .int .i64 t.day, .int .i64 t.days, .int .i64 t.uses, .int .i64 t.epoch]] #[], .func (.func 51) #[.agg #[.int .i64 t.ser, .int .i64 t.kind, .int .i64 t.frm, .int .i64 t.till, .int .i64 t.cls, .int .i64 t.card, .int .i64 t.seat, .int .i64 t.day, .int .i64 t.days, .int .i64 t.uses, .int .i64 t.epoch]] #[], .func (.func 57) #[.agg #[.int .i64 t.ser, .int .i64 t.kind, .int .i64 t.frm, .int .i64 t.till, .int .i64 t.cls, .int .i64 t.card, .int .i64 t.seat, .int .i64 t.day, .int .i64 t.days, .int .i64 t.uses, .int .i64 t.epoch]] #[]], .bool true]) ∧ Below w.heap.size w w' := by
  have q1 : (t.kind == 1) = false := by rw [beq_eq_false_iff_ne]; omega
  have q2 : (t.kind == 2) = false := by rw [beq_eq_false_iff_ne]; omega
  have q3 : (t.kind == 3) = false := by rw [beq_eq_false_iff_ne]; omega
  have q4 : (t.kind == 4) = true := by rw [beq_iff_eq]; omega
  clear hk
  go_enter Try.func43, Try.ntmps43
  go_wp2
  exact bodyPost_ret (v := .tuple #[.agg #[.int .i64 2, .int .i64 20, .func (.func 50) #[.agg #[.int .i64 t.ser, .int .i64 t.kind, .int .i64 t.frm, .int .i64 t.till, .int .i64 t.cls, .int .i64 t.card, .int .i64 t.seat, .int .i64 t.day, .int .i64 t.days, .int .i64 t.uses, .int .i64 t.epoch]] #[], .func (.func 51) #[.agg #[.int .i64 t.ser, .int .i64 t.kind, .int .i64 t.frm, .int .i64 t.till, .int .i64 t.cls, .int .i64 t.card, .int .i64 t.seat, .int .i64 t.day, .int .i64 t.days, .int .i64 t.uses, .int .i64 t.epoch]] #[], .func (.func 57) #[.agg #[.int .i64 t.ser, .int .i64 t.kind, .int .i64 t.frm, .int .i64 t.till, .int .i64 t.cls, .int .i64 t.card, .int .i64 t.seat, .int .i64 t.day, .int .i64 t.days, .int .i64 t.uses, .int .i64 t.epoch]] #[]], .bool true]) (by simp [results, Try.results43, go_sem]) rfl ⟨rfl, ((Below.refl _ _).alloc (Nat.le_refl _) _).alloc (by simp) _⟩
set_option maxRecDepth 20000 in
set_option maxHeartbeats 1600000 in
theorem pkind_0 (t : Tk) (hk : t.kind < 1 ∨ 4 < t.kind) (w : World) : Calls Try.prog 43 #[.agg #[.int .i64 t.ser, .int .i64 t.kind, .int .i64 t.frm, .int .i64 t.till, .int .i64 t.cls, .int .i64 t.card, .int .i64 t.seat, .int .i64 t.day, .int .i64 t.days, .int .i64 t.uses, .int .i64 t.epoch]] w fun e w' => e = .returned (.tuple #[.agg #[.int .i64 0, .int .i64 0, .nilFunc, .nilFunc, .nilFunc], .bool false]) ∧ Below w.heap.size w w' := by
  have q1 : (t.kind == 1) = false := by rw [beq_eq_false_iff_ne]; omega
  have q2 : (t.kind == 2) = false := by rw [beq_eq_false_iff_ne]; omega
  have q3 : (t.kind == 3) = false := by rw [beq_eq_false_iff_ne]; omega
  have q4 : (t.kind == 4) = false := by rw [beq_eq_false_iff_ne]; omega
  clear hk
  go_enter Try.func43, Try.ntmps43
  go_wp2
  exact bodyPost_ret (v := .tuple #[.agg #[.int .i64 0, .int .i64 0, .nilFunc, .nilFunc, .nilFunc], .bool false]) (by simp [results, Try.results43, go_sem]) rfl ⟨rfl, ((Below.refl _ _).alloc (Nat.le_refl _) _).alloc (by simp) _⟩
set_option linter.unusedVariables false
open Go.ChangeShapes Go.WideShapes Go.ChangeAt Go.RowKit Go.Shelf
attribute [local go_sem] Oper.semAt_some

theorem pisn_any (s : Int) (b : Bool) (hb : isN s = b) (w : World) : Calls Try.prog 58 #[.int .i64 s] w fun e w' => e = .returned (.bool b) ∧ w' = w := by
  have HB := Lib.hid hb
  clear hb
  cases h0 : decide (0 ≤ s) <;> cases h1 : decide (s ≤ 39)
  all_goals
    have H0 := Lib.hid h0
    have H1 := Lib.hid h1
    go_enter Try.func58, Try.ntmps58
    go_wp2
    go_ret
    refine ⟨congrArg Ending.returned (congrArg Value.bool ?_), rfl⟩
    rw [← HB.out, isN, H0.out, H1.out]
    rfl

/-- k stations from the lo-th on. -/
def stt (j : Nat) : Fin 40 := ⟨j % 40, Nat.mod_lt _ (by decide)⟩
theorem stt_eq {j : Nat} (h : j < 40) : stt j = ⟨j, h⟩ := by simp [stt, Nat.mod_eq_of_lt h]
def upw (lo k : Nat) : List (Fin 40) := (List.range k).map (fun j => stt (lo + j))
theorem upw_succ (lo k : Nat) : upw lo (k + 1) = upw lo k ++ [stt (lo + k)] := by simp [upw, List.range_succ]
theorem upw_length (lo k : Nat) : (upw lo k).length = k := by simp [upw]
def encS (x : Fin 40) : Array Value := #[.int .i64 (x.val : Int)]

/-- The two boxes that the function value has captured hold what they held. -/
def KpAB (BA BB : Nat) (W W' : World) : Prop := ∀ k v, (k = BA ∨ k = BB) → W.cell? ⟨k, 0, none⟩ = some v → W'.cell? ⟨k, 0, none⟩ = some v
theorem KpAB.refl (BA BB : Nat) (W : World) : KpAB BA BB W W := fun _ _ _ h => h
theorem KpAB.trans {BA BB : Nat} {X Y Z : World} (h : KpAB BA BB X Y) (g : KpAB BA BB Y Z) : KpAB BA BB X Z := fun k v hk hv => g k v hk (h k v hk hv)
theorem KpAB.below {BA BB n₀ : Nat} {W W' : World} (hA : BA < n₀) (hB : BB < n₀) (h : Below n₀ W W') : KpAB BA BB W W' := fun k v hk hv => (h.cell (p := ⟨k, 0, none⟩) (by show k < n₀; rcases hk with rfl | rfl <;> omega)).trans hv
theorem KpAB.put {BA BB : Nat} (W : World) (l : Nat) (o o' : Obj) (hl : W.heap[l]? = some o) (ho : o.isCells = false) : KpAB BA BB W (W.putObj l o') := fun k v _ hv => cell_kept hv (grownBy_putObj' W l o') (fun r e => by cases e; exact ⟨o, hl, ho⟩)
theorem way_in (F : Fence) (n : Nat) (hf : F.fn 69) (hro : F.round = none) (a b : Int) (w : World) :
    CallsIn F n Try.prog 69 #[.int .i64 a, .int .i64 b] w fun e w' => e = .returned (.func (.func 72) #[] #[.pointer (some ⟨w.heap.size, 0, none⟩), .pointer (some ⟨w.heap.size + 1, 0, none⟩)]) ∧ w' = (w.alloc (.cells #[.int .i64 a] 3)).alloc (.cells #[.int .i64 b] 3) := by
  refine callsIn_of_wp Try.func69 rfl hf ?_ hro
  simp only [Try.ntmps69, List.size_toArray, List.length_cons, List.length_nil, Nat.reduceAdd, Nat.reduceSub, Array.replicate_succ, Array.replicate_zero, List.push_toArray, List.append_toArray, List.nil_append, List.cons_append]
  gi_wp2
  go_ret
  exact ⟨rfl, rfl⟩

set_option maxRecDepth 100000 in
set_option maxHeartbeats 2000000 in
theorem way1_in (F : Fence) (n : Nat) (hf : F.fn 72) (hro : F.round = none) (hn : 1 ≤ n) (l BA BB : Nat) (a b : Int) (lo m : Nat) (hlo : mn a b = (lo : Int)) (hhi : mx a b = (lo : Int) + (m : Int) - 1) (h40 : lo + m ≤ 40) (J Jx : List (Fin 40) → World → Prop)
    (hY : ∀ pre x W, J pre W → pre.length < m → YieldAt F (n - 1) Try.prog l (encS x) W fun e W' =>
      (e = .returned (.bool true) ∧ J (pre ++ [x]) W' ∧ KpAB BA BB W W') ∨ (e = .returned (.bool false) ∧ Jx (pre ++ [x]) W'))
    (W : World) (hA : W.cell? ⟨BA, 0, none⟩ = some (.int .i64 a)) (hB : W.cell? ⟨BB, 0, none⟩ = some (.int .i64 b)) (h0 : J [] W) :
    CallsIn F n Try.prog 72 #[.func (.yield l) #[] #[], .pointer (some ⟨BA, 0, none⟩), .pointer (some ⟨BB, 0, none⟩)] W fun e W' => (∃ v, e = .returned v) ∧
      ((∃ ys, ys = upw lo m ∧ J ys W') ∨ (∃ pre, (∃ k, k ≤ m ∧ pre = upw lo k) ∧ Jx pre W')) := by
  have HA := Lib.hid hA
  have HB := Lib.hid hB
  have hmn : (if b < a then b else a) = (lo : Int) := hlo
  have hmx : (if a < b then b else a) = (lo : Int) + (m : Int) - 1 := hhi
  refine callsIn_of_wp Try.func72 rfl hf ?_ hro
  simp only [Try.ntmps72, List.size_toArray, List.length_cons, List.length_nil, Nat.reduceAdd, Nat.reduceSub, Array.replicate_succ, Array.replicate_zero, List.push_toArray, List.append_toArray, List.nil_append, List.cons_append]
  gi_wp2
  gi_loopw [4] (fun i wr => ∃ j : Nat, lo ≤ j ∧ j ≤ lo + m ∧ i = .int .i64 (j : Int) ∧ J (upw lo (j - lo)) wr ∧ KpAB BA BB W wr)
    (fun i _ => (((lo + m : Nat) : Int) - intOf i).toNat)
  case atStart =>
    exact ⟨lo, Nat.le_refl _, by omega, rfl, by rw [Nat.sub_self]; exact h0, KpAB.refl _ _ _⟩
  case round =>
    obtain ⟨j, hj, hjm, rfl, hJs, hnx⟩ := hrel
    have hcA : wr.cell? ⟨BA, 0, none⟩ = some (.int .i64 a) := hnx BA _ (.inl rfl) HA.out
    have hcB : wr.cell? ⟨BB, 0, none⟩ = some (.int .i64 b) := hnx BB _ (.inr rfl) HB.out
    by_cases hlt : j < lo + m
    · have hjl : j < 40 := by omega
      have hst : upw lo (j + 1 - lo) = upw lo (j - lo) ++ [⟨j, hjl⟩] := by
        rw [show j + 1 - lo = (j - lo) + 1 by omega, upw_succ, show lo + (j - lo) = j by omega, stt_eq hjl]
      obtain ⟨fn, tmps, assign, body, hy, hR⟩ := hY _ ⟨j, hjl⟩ wr hJs (by rw [upw_length]; omega)
      dsimp only [encS] at hy
      have b1 : (j : Int) ≤ (lo : Int) + (m : Int) - 1 := by omega
      have w1 : IntKind.i64.wrap ((j : Int) + 1) = (j : Int) + 1 := IntWalk.i64_in _ (by omega)
      have HNX := Lib.hid hnx
      have HJ := Lib.hid hst
      have HL := Lib.hid hlt
      clear hnx hst hlt
      gi_wp2
      refine hR.mono ?_
      rintro e' W3 (⟨rfl, hJ3, hk3⟩ | ⟨rfl, hJx3⟩)
      · gi_wp2
        go_roundw
        case rel => exact ⟨j + 1, by omega, by have := HL.out; omega, by go_num, by rw [HJ.out]; exact hJ3, HNX.out.trans hk3⟩
        case measure => have := HL.out; simp [intOf] <;> omega
      · gi_wp2
        refine bodyPost_ret (results_none rfl _ _ _) rfl ?_
        exact ⟨⟨_, rfl⟩, .inr ⟨_, ⟨j + 1 - lo, by have := HL.out; omega, HJ.out.symm⟩, hJx3⟩⟩
    · obtain rfl : j = lo + m := by omega
      have b1 : ¬ (((lo + m : Nat) : Int) ≤ (lo : Int) + (m : Int) - 1) := by omega
      gi_wp2
      go_end0
      have hJe : J (upw lo m) wr := by rw [show lo + m - lo = m by omega] at hJs; exact hJs
      exact ⟨⟨_, rfl⟩, .inl hJe⟩
theorem way_stops (F : Fence) (n : Nat) (hf : F.fn 72) (hro : F.round = none) (hn : 1 ≤ n) (BA BB : Nat) (a b : Int) (lo m : Nat) (hlo : mn a b = (lo : Int)) (hhi : mx a b = (lo : Int) + (m : Int) - 1) (h40 : lo + m ≤ 40) (w : World) (hBA : BA < w.heap.size) (hBB : BB < w.heap.size)
    (hA : w.cell? ⟨BA, 0, none⟩ = some (.int .i64 a)) (hB : w.cell? ⟨BB, 0, none⟩ = some (.int .i64 b)) :
    SeqStopsK F n Try.prog 72 #[.pointer (some ⟨BA, 0, none⟩), .pointer (some ⟨BB, 0, none⟩)] encS (KpAB BA BB) (fun ys => ys = upw lo m) (fun pre => ∃ k, k ≤ m ∧ pre = upw lo k) m w := fun l J Jx W hW _ _ hY h0 =>
  way1_in F n hf hro hn l BA BB a b lo m hlo hhi h40 J Jx hY W ((hW.cell (p := ⟨BA, 0, none⟩) hBA).trans hA) ((hW.cell (p := ⟨BB, 0, none⟩) hBB).trans hB) h0
set_option linter.unusedVariables false
set_option linter.unusedSimpArgs false
open Go.ChangeShapes Go.WideShapes Go.ChangeAt Go.RowKit

theorem between_mm (a b s : Int) : between a b s = (decide (mn a b ≤ s) && decide (s ≤ mx a b)) := by
  rw [Bool.eq_iff_iff, between_iff]
  unfold mn mx
  simp
  split <;> split <;> omega
set_option maxHeartbeats 1600000 in
theorem pbetween_any (a b s : Int) (v : Bool) (E : Int) (hv : betV a b s = v) (hE : betE a b s = E) (w : World) : Calls Try.prog 59 #[.int .i64 a, .int .i64 b, .int .i64 s] w fun e w' => e = .returned (.tuple #[.bool v, .int .i64 E]) ∧ w' = w := by
  cases ha : isN a <;> cases hb : isN b <;> cases hs : isN s
  all_goals
    have h3 : is3 a b s = (isN a && (isN b && isN s)) := rfl
    rw [ha, hb, hs] at h3
    have HA := Lib.hid ha
    have HB := Lib.hid hb
    have HS := Lib.hid hs
    have HV := Lib.hid hv
    have HE := Lib.hid hE
    have H3 := Lib.hid h3
    clear ha hb hs hv hE h3
  case true.true.true =>
    have e2 : E = 0 := by rw [← HE.out, betE, H3.out]; rfl
    have e1 : v = between a b s := by rw [← HV.out, betV, H3.out]; rfl
    rw [between_mm] at e1
    subst e2
    obtain ⟨lo, hlo⟩ : ∃ lo, lo = mn a b := ⟨_, rfl⟩
    obtain ⟨hi, hhi⟩ : ∃ hi, hi = mx a b := ⟨_, rfl⟩
    rw [← hlo, ← hhi] at e1
    replace hlo : (if b < a then b else a) = lo := hlo.symm
    replace hhi : (if a < b then b else a) = hi := hhi.symm
    cases q1 : decide (lo ≤ s) <;> cases q2 : decide (s ≤ hi)
    all_goals
      rw [q1, q2] at e1
      have HV2 := Lib.hid e1
      clear e1
      go_enter Try.func59, Try.ntmps59
      go_wp2_with (go_at_call 58; refine (pisn_any _ _ (by first | exact HA.out | exact HB.out | exact HS.out) _).mono ?_; rintro e w1 ⟨rfl, rfl⟩)
      go_ret2
      exact ⟨by rw [HV2.out]; rfl, rfl⟩
  all_goals
    have e2 : E = 1 := by rw [← HE.out, betE, H3.out]; rfl
    have e1 : v = false := by rw [← HV.out, betV, H3.out]; rfl
    subst e1 e2
    go_enter Try.func59, Try.ntmps59
    go_wp2_with (go_at_call 58; refine (pisn_any _ _ (by first | exact HA.out | exact HB.out | exact HS.out) _).mono ?_; rintro e w1 ⟨rfl, rfl⟩)
    go_ret2
    exact ⟨rfl, rfl⟩
set_option linter.unusedVariables false
set_option linter.unusedSimpArgs false
open Go.ChangeShapes Go.WideShapes Go.ChangeAt Go.RowKit Go.Shelf
attribute [local go_sem] Oper.semAt_some

/-- The zones as a map that is filled station by station. -/
def zF {H : Type} (D : DataW H) (xs : List (Fin 40)) : DataW H := xs.foldl (fun D x => D.put (.int .i64 (x.val : Int)) (.lit (.int .i64 (zn (x.val : Int))))) D
def zD {H : Type} (xs : List (Fin 40)) : DataW H := zF (.map []) xs
theorem zD_snoc {H : Type} (pre : List (Fin 40)) (x : Fin 40) : zD (H := H) (pre ++ [x]) = (zD pre).put (.int .i64 (x.val : Int)) (.lit (.int .i64 (zn (x.val : Int)))) := by simp [zD, zF]
theorem key_ne {s x : Fin 40} (h : s ≠ x) : Lit.int .i64 (s.val : Int) ≠ Lit.int .i64 (x.val : Int) := by
  intro e
  injection e with _ e
  exact h (Fin.ext (by omega))
theorem zF_at {H : Type} (s : Fin 40) (z : DataW H) : ∀ (xs : List (Fin 40)) (D : DataW H), Maps.IsMap D → (s ∈ xs ∨ D.atKey (.int .i64 (s.val : Int)) z = .lit (.int .i64 (zn (s.val : Int)))) → (zF D xs).atKey (.int .i64 (s.val : Int)) z = .lit (.int .i64 (zn (s.val : Int)))
  | [], D, hD, h => h.elim (by simp) id
  | x :: xs, D, hD, h => by
    refine zF_at s z xs (D.put (.int .i64 (x.val : Int)) (.lit (.int .i64 (zn (x.val : Int))))) (hD.put _ _) ?_
    by_cases e : s = x
    · subst e
      exact .inr (Maps.atKey_put_same hD (by simp [WideAt.IsKeyLit]) _ _)
    · rcases h with h | h
      · exact .inl ((List.mem_cons.1 h).resolve_left e)
      · exact .inr ((Maps.atKey_put_other (key_ne e) _ _).trans h)
theorem zF_has {H : Type} (s : Fin 40) : ∀ (xs : List (Fin 40)) (D : DataW H), Maps.IsMap D → (s ∈ xs ∨ Maps.has D (.int .i64 (s.val : Int)) = true) → Maps.has (zF D xs) (.int .i64 (s.val : Int)) = true
  | [], D, hD, h => h.elim (by simp) id
  | x :: xs, D, hD, h => by
    refine zF_has s xs (D.put (.int .i64 (x.val : Int)) (.lit (.int .i64 (zn (x.val : Int))))) (hD.put _ _) ?_
    by_cases e : s = x
    · subst e
      exact .inr (Maps.has_put_same hD (by simp [WideAt.IsKeyLit]) _)
    · rcases h with h | h
      · exact .inl ((List.mem_cons.1 h).resolve_left e)
      · exact .inr ((Maps.has_put_other (key_ne e) _).trans h)
theorem zF_none {H : Type} (s : Int) (hs : ¬ (0 ≤ s ∧ s ≤ 39)) : ∀ (xs : List (Fin 40)) (D : DataW H), Maps.has D (.int .i64 s) = false → Maps.has (zF D xs) (.int .i64 s) = false
  | [], D, h => h
  | x :: xs, D, h => by
    refine zF_none s hs xs _ ((Maps.has_put_other (fun e => ?_) _).trans h)
    injection e with _ e
    have := x.isLt
    omega
/-- The whole map: every station's zone. -/
def zMap {H : Type} : DataW H := zD (upw 0 40)
theorem mem_all (s : Fin 40) : s ∈ upw 0 40 := by
  unfold upw
  exact List.mem_map.2 ⟨s.val, List.mem_range.2 s.isLt, by rw [Nat.zero_add, stt_eq s.isLt]⟩
theorem zMap_at {H : Type} {s : Int} (h : isN s = true) (z : DataW H) : (zMap (H := H)).atKey (.int .i64 s) z = .lit (.int .i64 (zn s)) := by
  have hs := (isN_iff s).1 h
  have := zF_at (H := H) ⟨s.toNat, by omega⟩ z (upw 0 40) (.map []) Maps.isMap_empty (.inl (mem_all _))
  have e : ((s.toNat : Nat) : Int) = s := by omega
  rw [e] at this
  exact this
theorem zMap_has {H : Type} (s : Int) : Maps.has (zMap (H := H)) (.int .i64 s) = isN s := by
  cases h : isN s with
  | true =>
    have hs := (isN_iff s).1 h
    have := zF_has (H := H) ⟨s.toNat, by omega⟩ (upw 0 40) (.map []) Maps.isMap_empty (.inl (mem_all _))
    have e : ((s.toNat : Nat) : Int) = s := by omega
    rw [e] at this
    exact this
  | false => exact zF_none s (fun hs => by rw [(isN_iff s).2 hs] at h; cases h) _ _ rfl
theorem i64_wf {s : Int} (h1 : -9223372036854775808 ≤ s) (h2 : s ≤ 9223372036854775807) : (Lit.int .i64 s).wf = true := by
  simp only [Lit.wf, IntKind.min, IntKind.max, IntKind.signed, IntKind.bits, Bool.and_eq_true, decide_eq_true_eq, if_true]
  omega

set_option maxRecDepth 100000 in
set_option maxHeartbeats 2000000 in
theorem zones_in {H : Type} (F : Fence) (n : Nat) (h1' : F.fn 66) (h2' : F.fn 69) (h3' : F.fn 72) (hro : F.round = none) (hn : 3 ≤ n) (w : World) :
    CallsIn F n Try.prog 66 #[] w fun e W' => e = .returned (.map (some w.heap.size)) ∧ W'.ownsMap Try.prog 3 (plainElem (H := H) Try.prog 3) w.heap.size 40 zMap ∧ Below w.heap.size w W' := by
  have h1 : 1 ≤ n := by omega
  have hmm := @run_makeMap Try.prog
  refine callsIn_of_wp_marks Try.func66 rfl h1' ?_ hro
  simp only [Try.ntmps66, List.size_toArray, List.length_cons, List.length_nil, Nat.reduceAdd, Nat.reduceSub, Array.replicate_succ, Array.replicate_zero, List.push_toArray, List.append_toArray, List.nil_append, List.cons_append]
  gi_wp2_with (gi_at_call 69; refine (way_in F (n - 1) h2' hro _ _ _).mono ?_; rintro e w' ⟨rfl, rfl⟩)
  have hm0 := World.ownsMap_made w Try.prog 3 (plainElem (H := H) Try.prog 3)
  have bS := (((Boxed.new (w.alloc (.map #[] 0)) 84 (.map (some w.heap.size))).alloc (.cells #[.int .i64 0] 3)).alloc (.cells #[.int .i64 39] 3))
  have bA := (Boxed.new ((w.alloc (.map #[] 0)).alloc (.cells #[.map (some w.heap.size)] 84)) 3 (.int .i64 0)).alloc (.cells #[.int .i64 39] 3)
  have bB := Boxed.new (((w.alloc (.map #[] 0)).alloc (.cells #[.map (some w.heap.size)] 84)).alloc (.cells #[.int .i64 0] 3)) 3 (.int .i64 39)
  simp only [World.size_alloc] at bS bA bB
  have hm1 := ((hm0.alloc (.cells #[.map (some w.heap.size)] 84)).alloc (.cells #[.int .i64 0] 3)).alloc (.cells #[.int .i64 39] 3)
  have hB0 : Below w.heap.size w ((((w.alloc (.map #[] 0)).alloc (.cells #[.map (some w.heap.size)] 84)).alloc (.cells #[.int .i64 0] 3)).alloc (.cells #[.int .i64 39] 3)) := ((((Below.refl _ w).alloc (Nat.le_refl _) _).alloc (by simp) _).alloc (by simp; omega) _).alloc (by simp; omega) _
  have hsz : ((((w.alloc (.map #[] 0)).alloc (.cells #[.map (some w.heap.size)] 84)).alloc (.cells #[.int .i64 0] 3)).alloc (.cells #[.int .i64 39] 3)).heap.size = w.heap.size + 4 := by simp
  obtain ⟨W0, hW0⟩ : ∃ W0, ((((w.alloc (.map #[] 0)).alloc (.cells #[.map (some w.heap.size)] 84)).alloc (.cells #[.int .i64 0] 3)).alloc (.cells #[.int .i64 39] 3)) = W0 := ⟨_, rfl⟩
  rw [hW0] at bS bA bB hm1 hB0 hsz ⊢
  clear hW0 hm0
  refine wpIn_rangeFunc_ownG hro h1 (gf := 72) (lb := #[.pointer (some ⟨w.heap.size + 1 + 1, 0, none⟩), .pointer (some ⟨w.heap.size + 1 + 1 + 1, 0, none⟩)]) rfl h3' (enters_of Try.func72 (by kernel_rfl) rfl)
    (way_stops F (n - 1) h3' hro (by omega) (w.heap.size + 1 + 1) (w.heap.size + 1 + 1 + 1) 0 39 0 40 rfl rfl (by omega) W0 (by omega) (by omega) bA.cell bB.cell) KpAB.trans (fun W l o o' _ hl ho _ => KpAB.put W l o o' hl ho) (Below.refl _ _) (fun _ => rfl)
    (fun pre W => (W.cell? ⟨w.heap.size + 1, 0, none⟩ = some (.map (some w.heap.size)) ∧ W.ownsMap Try.prog 3 (plainElem (H := H) Try.prog 3) w.heap.size pre.length (zD pre)) ∧ Below w.heap.size w W)
    (fun _ _ _ => False)
    (OwnFrom.and (fun s A B row hs hg hr => ⟨cell_kept hs.1 hg (fun r e => (hr r e).2), hs.2.kept hg (fun e => by have := (hr _ e.symm).1; omega)⟩) (ownFrom_below (Nat.le_refl _) (by omega)))
    (fun _ _ _ _ _ hs _ _ => hs)
    ⟨⟨bS.cell, hm1⟩, hB0⟩
    (fun x => { tmps := #[.map none, .pointer (some ⟨w.heap.size + 1, 0, none⟩), .int .i64 (x.val : Int), undef, .map (some w.heap.size), .func (.func 72) #[] #[.pointer (some ⟨w.heap.size + 1 + 1, 0, none⟩), .pointer (some ⟨w.heap.size + 1 + 1 + 1, 0, none⟩)], .int .i64 (x.val : Int), undef, undef, undef, undef, undef, undef, undef, undef, undef, undef, undef], defers := [] }) ?assign ?body ?done ?stop
  case assign =>
    intro l x W K hK
    dsimp only [encS]
    gi_wp2
    exact hK
  case body =>
    rintro l pre x W ⟨⟨hc, hown⟩, hB⟩ hlt
    have hx := x.isLt
    obtain ⟨s, hs⟩ : ∃ s : Int, s = (x.val : Int) := ⟨_, rfl⟩
    have hz := zD_snoc (H := H) pre x
    rw [← hs] at hz ⊢
    have hkey := Maps.keyOf_int_mk (P := Try.prog) Try.underlying3 (i64_wf (s := s) (by omega) (by omega))
    have w1 : IntKind.i64.wrap (s - 20) = s - 20 := IntWalk.i64_in _ (by omega)
    have w2 : IntKind.i64.wrap (20 - s) = 20 - s := IntWalk.i64_in _ (by omega)
    obtain ⟨v, hv⟩ : ∃ v : Int, v = if s - 20 < 20 - s then 20 - s else s - 20 := ⟨_, rfl⟩
    have hv0 : 0 ≤ v ∧ v ≤ 20 := by rw [hv]; split <;> omega
    have q : v.tdiv 4 = v / 4 := Int.tdiv_eq_ediv_of_nonneg hv0.1
    have w3 : IntKind.i64.wrap (v / 4) = v / 4 := IntWalk.i64_in _ (by omega)
    have hzn : zn s = 1 + v / 4 := by rw [zn, hv]; split <;> split <;> omega
    have w4 : IntKind.i64.wrap (1 + v / 4) = 1 + v / 4 := IntWalk.i64_in _ (by omega)
    have hwf := i64_wf (s := 1 + v / 4) (by omega) (by omega)
    have HV := Lib.hid hv
    rw [hzn] at hz
    replace hv := hv.symm
    clear hzn hv0 hs hx
    gi_wp2_with (gi_at_mapUpdate; refine wpListIn_mapUpdate_own _ rfl _ _ _ 84 rfl 3 3 (Maps.int_keyed Try.underlying3) Try.underlying84 _ w.heap.size pre.length _ rfl hown (by unfold maxLen; omega) _ _ _ rfl rfl hkey _ [] (plainElem_int Try.underlying3 hwf) ?_; intro w1 hown1 hgrow1)
    obtain ⟨es, ck, hh, _⟩ := hown
    exact ⟨KeepsFrom.of_grownBy hgrow1 (fun j e => by cases e; omega), fun k u _ hk => cell_kept hk hgrow1 (fun r e => by cases e; exact ⟨_, hh, rfl⟩),
      ⟨cell_kept hc hgrow1 (fun r e => by cases e; exact ⟨_, hh, rfl⟩), by rw [hz, List.length_append]; exact hown1⟩, hB.grown hgrow1 hB.size (fun k e => by cases e; exact Nat.le_refl _)⟩
  case done =>
    rintro D ys W hD rfl ⟨⟨hc, hown⟩, hB⟩ hK
    gi_wp2
    refine ⟨by simp, .inl ⟨_, _, rfl, run_takeDeferred hK, ?_⟩⟩
    exact ⟨_, results_tmp rfl _ _ _, rfl, hown.kept (grownBy_putObj' _ D _) (fun e => by cases e; omega), hB.trans (belowK_b (w := w) (Nat.le_refl _) W D _ _ (by omega) hK rfl rfl)⟩
  case stop =>
    rintro D c pre W _ _ h _
    exact h.elim
theorem pzones_any (w : World) : Calls Try.prog 66 #[] w fun e W' => e = .returned (.map (some w.heap.size)) ∧ W'.ownsMap Try.prog 3 (plainElem (H := Unit) Try.prog 3) w.heap.size 40 zMap ∧ Below w.heap.size w W' :=
  (callsIn_wide (n := 3)).1 (zones_in Fence.wide 3 trivial trivial trivial rfl (by omega) w)
set_option linter.unusedVariables false
set_option linter.unusedSimpArgs false
open Go.ChangeShapes Go.WideShapes Go.ChangeAt Go.RowKit Go.Shelf
attribute [local go_sem] Oper.semAt_some

theorem pzone_any (s z E : Int) (w : World) (h64 : In64 s) (hz : zoneV s = z) (hE : zoneE s = E) : Calls Try.prog 62 #[.int .i64 s] w fun e w' => e = .returned (.tuple #[.int .i64 z, .int .i64 E]) ∧ Below w.heap.size w w' := by
  have hkey := Maps.keyOf_int_mk (P := Try.prog) Try.underlying3 (i64_wf h64.1 h64.2)
  have HK := Lib.hid hkey
  clear hkey
  cases h : isN s with
  | false =>
    have e1 : z = 0 := by rw [← hz, zoneV, h]; rfl
    have e2 : E = 1 := by rw [← hE, zoneE, h]; rfl
    subst e1 e2
    have hh : Maps.has (zMap (H := Unit)) (.int .i64 s) = false := by rw [zMap_has, h]
    clear hz hE h
    go_enter Try.func62, Try.ntmps62
    go_wp2_with (first | (go_at_call 66; refine (pzones_any _).mono ?_; rintro e w1 ⟨rfl, hown, hb⟩) | (at_lookup; refine wpList_lookup_own_ok_int _ rfl _ _ 84 rfl 3 3 .i64 (Maps.int_keyed Try.underlying3) Try.underlying84 Try.underlying3 (Try.zeroValue3 _) w.heap.size 40 _ rfl hown _ _ rfl HK.out ?_; intro c hat hwc; rw [hh]; clear hat hwc))
    go_ret2
    exact ⟨rfl, hb⟩
  | true =>
    have e1 : z = zn s := by rw [← hz, zoneV, h]; rfl
    have e2 : E = 0 := by rw [← hE, zoneE, h]; rfl
    subst e2
    have hh : Maps.has (zMap (H := Unit)) (.int .i64 s) = true := by rw [zMap_has, h]
    have ha := zMap_at (H := Unit) h (.lit (.int .i64 0))
    rw [← e1] at ha
    have HAT := Lib.hid ha
    clear hz hE h e1 ha
    go_enter Try.func62, Try.ntmps62
    go_wp2_with (first | (go_at_call 66; refine (pzones_any _).mono ?_; rintro e w1 ⟨rfl, hown, hb⟩) | (at_lookup; refine wpList_lookup_own_ok_int _ rfl _ _ 84 rfl 3 3 .i64 (Maps.int_keyed Try.underlying3) Try.underlying84 Try.underlying3 (Try.zeroValue3 _) w.heap.size 40 _ rfl hown _ _ rfl HK.out ?_; intro c hat hwc; obtain rfl : z = c := (by have := HAT.out.symm.trans hat; simpa using this); rw [hh]; clear hat hwc))
    go_ret2
    exact ⟨rfl, hb⟩
set_option linter.unusedVariables false
open Go.ChangeShapes Go.WideShapes Go.ChangeAt Go.RowKit


theorem pwithin_any (n a b : Int) (v : Bool) (hv : (decide (a ≤ n) && decide (n ≤ b)) = v) (w : World) : Calls Try.prog 45 #[.int .i64 n, .int .i64 a, .int .i64 b] w fun e w' => e = .returned (.bool v) ∧ w' = w := by
  have HB := Lib.hid hv
  clear hv
  cases h0 : decide (a ≤ n) <;> cases h1 : decide (n ≤ b)
  all_goals
    have H0 := Lib.hid h0
    have H1 := Lib.hid h1
    go_enter Try.func45, Try.ntmps45
    go_wp2
    go_ret
    refine ⟨congrArg Ending.returned (congrArg Value.bool ?_), rfl⟩
    rw [← HB.out, H0.out, H1.out]
    rfl
def wayB (t : Tk) : Bool := isN t.frm && (isN t.till && (t.frm != t.till))
def zonesB (t : Tk) : Bool := decide (1 ≤ t.frm) && (decide (t.frm ≤ t.till) && decide (t.till ≤ 6))
set_option maxHeartbeats 1600000 in
theorem phasway_any (t : Tk) (b : Bool) (hb : wayB t = b) (w : World) : Calls Try.prog 50 #[.agg #[.int .i64 t.ser, .int .i64 t.kind, .int .i64 t.frm, .int .i64 t.till, .int .i64 t.cls, .int .i64 t.card, .int .i64 t.seat, .int .i64 t.day, .int .i64 t.days, .int .i64 t.uses, .int .i64 t.epoch]] w fun e w' => e = .returned (.bool b) ∧ Below w.heap.size w w' := by
  have HV := Lib.hid hb
  clear hb
  obtain ⟨w0, hw0⟩ : ∃ w0, w0 = w.alloc (.cells #[.int .i64 t.ser, .int .i64 t.kind, .int .i64 t.frm, .int .i64 t.till, .int .i64 t.cls, .int .i64 t.card, .int .i64 t.seat, .int .i64 t.day, .int .i64 t.days, .int .i64 t.uses, .int .i64 t.epoch] 72) := ⟨_, rfl⟩
  have HX : Hid (WBox w0 w.heap.size t) := Lib.hid (by rw [hw0]; exact WBox.new w t)
  have HB : Hid (Below w.heap.size w w0) := Lib.hid (by rw [hw0]; exact below_lit w _ _)
  have HW := Lib.hid hw0
  clear hw0
  obtain ⟨c0, c1, c2, c3, c4, c5, c6, c7, c8, c9, c10⟩ := HX.out.cells
  cases q1 : isN t.frm <;> cases q2 : isN t.till <;> cases q3 : (t.frm != t.till)
  all_goals
    have hb : (isN t.frm && (isN t.till && (t.frm != t.till))) = b := HV.out
    rw [q1, q2, q3] at hb
    subst hb
    have HI := Lib.hid q1
    have HJ := Lib.hid q2
    clear q1 q2
    go_enter Try.func50, Try.ntmps50
    go_wp2_with (go_at_call 58; refine (pisn_any _ _ (by first | exact HI.out | exact HJ.out) _).mono ?_; rintro e w1 ⟨rfl, rfl⟩)
    go_ret
    refine ⟨rfl, ?_⟩
    rw [← HW.out]
    exact HB.out
set_option maxHeartbeats 1600000 in
theorem phaszones_any (t : Tk) (b : Bool) (hb : zonesB t = b) (w : World) : Calls Try.prog 54 #[.agg #[.int .i64 t.ser, .int .i64 t.kind, .int .i64 t.frm, .int .i64 t.till, .int .i64 t.cls, .int .i64 t.card, .int .i64 t.seat, .int .i64 t.day, .int .i64 t.days, .int .i64 t.uses, .int .i64 t.epoch]] w fun e w' => e = .returned (.bool b) ∧ Below w.heap.size w w' := by
  have HV := Lib.hid hb
  clear hb
  obtain ⟨w0, hw0⟩ : ∃ w0, w0 = w.alloc (.cells #[.int .i64 t.ser, .int .i64 t.kind, .int .i64 t.frm, .int .i64 t.till, .int .i64 t.cls, .int .i64 t.card, .int .i64 t.seat, .int .i64 t.day, .int .i64 t.days, .int .i64 t.uses, .int .i64 t.epoch] 72) := ⟨_, rfl⟩
  have HX : Hid (WBox w0 w.heap.size t) := Lib.hid (by rw [hw0]; exact WBox.new w t)
  have HB : Hid (Below w.heap.size w w0) := Lib.hid (by rw [hw0]; exact below_lit w _ _)
  have HW := Lib.hid hw0
  clear hw0
  obtain ⟨c0, c1, c2, c3, c4, c5, c6, c7, c8, c9, c10⟩ := HX.out.cells
  obtain ⟨x, hx⟩ : ∃ x, (decide (1 ≤ t.frm) && decide (t.frm ≤ t.till)) = x := ⟨_, rfl⟩
  have hb : (x && decide (t.till ≤ 6)) = b := by rw [← hx, ← HV.out, zonesB, Bool.and_assoc]
  have HX2 := Lib.hid hx
  have HV2 := Lib.hid hb
  clear hx hb
  cases x <;> cases q3 : decide (t.till ≤ 6)
  all_goals
    have hb := HV2.out
    rw [q3] at hb
    subst hb
    go_enter Try.func54, Try.ntmps54
    go_wp2_with (go_at_call 45; refine (pwithin_any _ _ _ _ HX2.out _).mono ?_; rintro e w1 ⟨rfl, rfl⟩)
    go_ret
    refine ⟨rfl, ?_⟩
    rw [← HW.out]
    exact HB.out
set_option maxHeartbeats 1600000 in
theorem ponway_any (t : Tk) (s : Int) (v : Bool) (E : Int) (hv : betV t.frm t.till s = v) (hE : betE t.frm t.till s = E) (w : World) : Calls Try.prog 51 #[.agg #[.int .i64 t.ser, .int .i64 t.kind, .int .i64 t.frm, .int .i64 t.till, .int .i64 t.cls, .int .i64 t.card, .int .i64 t.seat, .int .i64 t.day, .int .i64 t.days, .int .i64 t.uses, .int .i64 t.epoch], .int .i64 s] w fun e w' => e = .returned (.tuple #[.bool v, .int .i64 E]) ∧ Below w.heap.size w w' := by
  have HV := Lib.hid hv
  have HE := Lib.hid hE
  clear hv hE
  obtain ⟨w0, hw0⟩ : ∃ w0, w0 = w.alloc (.cells #[.int .i64 t.ser, .int .i64 t.kind, .int .i64 t.frm, .int .i64 t.till, .int .i64 t.cls, .int .i64 t.card, .int .i64 t.seat, .int .i64 t.day, .int .i64 t.days, .int .i64 t.uses, .int .i64 t.epoch] 72) := ⟨_, rfl⟩
  have HX : Hid (WBox w0 w.heap.size t) := Lib.hid (by rw [hw0]; exact WBox.new w t)
  have HB : Hid (Below w.heap.size w w0) := Lib.hid (by rw [hw0]; exact below_lit w _ _)
  have HW := Lib.hid hw0
  clear hw0
  obtain ⟨c0, c1, c2, c3, c4, c5, c6, c7, c8, c9, c10⟩ := HX.out.cells
  go_enter Try.func51, Try.ntmps51
  go_wp2_with (go_at_call 59; refine (pbetween_any _ _ _ _ _ HV.out HE.out _).mono ?_; rintro e w1 ⟨rfl, rfl⟩)
  go_ret2
  refine ⟨rfl, ?_⟩
  rw [← HW.out]
  exact HB.out
set_option maxHeartbeats 1600000 in
theorem pinzones_any (t : Tk) (s z : Int) (v : Bool) (E : Int) (hs : In64 s) (hz : zoneV s = z) (hv : (decide (t.frm ≤ z) && decide (z ≤ t.till)) = v) (hE : zoneE s = E) (w : World) : Calls Try.prog 55 #[.agg #[.int .i64 t.ser, .int .i64 t.kind, .int .i64 t.frm, .int .i64 t.till, .int .i64 t.cls, .int .i64 t.card, .int .i64 t.seat, .int .i64 t.day, .int .i64 t.days, .int .i64 t.uses, .int .i64 t.epoch], .int .i64 s] w fun e w' => e = .returned (.tuple #[.bool v, .int .i64 E]) ∧ Below w.heap.size w w' := by
  have HV := Lib.hid hv
  have HZ := Lib.hid hz
  have HE := Lib.hid hE
  have HS := Lib.hid hs
  clear hv hE hz hs
  obtain ⟨w0, hw0⟩ : ∃ w0, w0 = w.alloc (.cells #[.int .i64 t.ser, .int .i64 t.kind, .int .i64 t.frm, .int .i64 t.till, .int .i64 t.cls, .int .i64 t.card, .int .i64 t.seat, .int .i64 t.day, .int .i64 t.days, .int .i64 t.uses, .int .i64 t.epoch] 72) := ⟨_, rfl⟩
  have HX : Hid (WBox w0 w.heap.size t) := Lib.hid (by rw [hw0]; exact WBox.new w t)
  have HB : Hid (Below w.heap.size w w0) := Lib.hid (by rw [hw0]; exact below_lit w _ _)
  have HW := Lib.hid hw0
  clear hw0
  obtain ⟨c0, c1, c2, c3, c4, c5, c6, c7, c8, c9, c10⟩ := HX.out.cells
  go_enter Try.func55, Try.ntmps55
  go_wp2_with fail
  rw [← HW.out]
  refine (pzone_any s z E _ HS.out HZ.out HE.out).mono ?_
  rintro e w1 ⟨rfl, hb⟩
  have HB1 := Lib.hid (HB.out.trans (hb.mono HB.out.size))
  obtain ⟨e0, e1, e2, e3, e4, e5, e6, e7, e8, e9, e10⟩ := (HX.out.next hb).cells
  clear hb
  go_wp2_with fail
  refine (pwithin_any _ _ _ _ HV.out _).mono ?_
  rintro e w2 ⟨rfl, e1⟩
  rw [e1]
  clear e1 w2
  go_wp2
  go_ret2
  exact ⟨rfl, HB1.out⟩
set_option linter.unusedVariables false
open Go.ChangeShapes Go.WideShapes Go.ChangeAt Go.RowKit


def inB (n a b : Int) : Bool := decide (a ≤ n) && decide (n ≤ b)
theorem inB_iff {n a b : Int} : inB n a b = true ↔ a ≤ n ∧ n ≤ b := by simp [inB]
def hbB (t : Tk) : Bool := inB t.ser 1 1099511627776 && (inB t.cls 1 2 && (inB t.card 0 3 && (inB t.seat 0 999 && (inB t.day 0 99999 && (inB t.days 1 999 && (decide (t.day + t.days - 1 ≤ 99999) && (inB t.epoch 0 9)))))))
set_option maxRecDepth 20000 in
set_option maxHeartbeats 3200000 in
theorem pbounds_any (t : Tk) (b : Bool) (hb : hbB t = b) (w : World) : Calls Try.prog 44 #[.agg #[.int .i64 t.ser, .int .i64 t.kind, .int .i64 t.frm, .int .i64 t.till, .int .i64 t.cls, .int .i64 t.card, .int .i64 t.seat, .int .i64 t.day, .int .i64 t.days, .int .i64 t.uses, .int .i64 t.epoch]] w fun e w' => e = .returned (.bool b) ∧ Below w.heap.size w w' := by
  have HV := Lib.hid hb
  clear hb
  obtain ⟨w0, hw0⟩ : ∃ w0, w0 = w.alloc (.cells #[.int .i64 t.ser, .int .i64 t.kind, .int .i64 t.frm, .int .i64 t.till, .int .i64 t.cls, .int .i64 t.card, .int .i64 t.seat, .int .i64 t.day, .int .i64 t.days, .int .i64 t.uses, .int .i64 t.epoch] 72) := ⟨_, rfl⟩
  have HX : Hid (WBox w0 w.heap.size t) := Lib.hid (by rw [hw0]; exact WBox.new w t)
  have HB : Hid (Below w.heap.size w w0) := Lib.hid (by rw [hw0]; exact below_lit w _ _)
  have HW := Lib.hid hw0
  clear hw0
  obtain ⟨c0, c1, c2, c3, c4, c5, c6, c7, c8, c9, c10⟩ := HX.out.cells
  cases q0 : inB t.ser 1 1099511627776
  case false =>
    have Q0 := Lib.hid q0
    clear q0
    have hb : b = false := by rw [← HV.out, hbB, Q0.out]; try rfl
    subst hb
    go_enter Try.func44, Try.ntmps44
    go_wp2_with (go_at_call 45; refine (pwithin_any _ _ _ _ (by first | exact Q0.out) _).mono ?_; rintro e w1 ⟨rfl, rfl⟩)
    go_ret
    refine ⟨rfl, ?_⟩
    rw [← HW.out]
    exact HB.out
  case true =>
    have Q0 := Lib.hid q0
    clear q0
    cases q1 : inB t.cls 1 2
    case false =>
      have Q1 := Lib.hid q1
      clear q1
      have hb : b = false := by rw [← HV.out, hbB, Q0.out, Q1.out]; try rfl
      subst hb
      go_enter Try.func44, Try.ntmps44
      go_wp2_with (go_at_call 45; refine (pwithin_any _ _ _ _ (by first | exact Q0.out | exact Q1.out) _).mono ?_; rintro e w1 ⟨rfl, rfl⟩)
      go_ret
      refine ⟨rfl, ?_⟩
      rw [← HW.out]
      exact HB.out
    case true =>
      have Q1 := Lib.hid q1
      clear q1
      cases q2 : inB t.card 0 3
      case false =>
        have Q2 := Lib.hid q2
        clear q2
        have hb : b = false := by rw [← HV.out, hbB, Q0.out, Q1.out, Q2.out]; try rfl
        subst hb
        go_enter Try.func44, Try.ntmps44
        go_wp2_with (go_at_call 45; refine (pwithin_any _ _ _ _ (by first | exact Q0.out | exact Q1.out | exact Q2.out) _).mono ?_; rintro e w1 ⟨rfl, rfl⟩)
        go_ret
        refine ⟨rfl, ?_⟩
        rw [← HW.out]
        exact HB.out
      case true =>
        have Q2 := Lib.hid q2
        clear q2
        cases q3 : inB t.seat 0 999
        case false =>
          have Q3 := Lib.hid q3
          clear q3
          have hb : b = false := by rw [← HV.out, hbB, Q0.out, Q1.out, Q2.out, Q3.out]; try rfl
          subst hb
          go_enter Try.func44, Try.ntmps44
          go_wp2_with (go_at_call 45; refine (pwithin_any _ _ _ _ (by first | exact Q0.out | exact Q1.out | exact Q2.out | exact Q3.out) _).mono ?_; rintro e w1 ⟨rfl, rfl⟩)
          go_ret
          refine ⟨rfl, ?_⟩
          rw [← HW.out]
          exact HB.out
        case true =>
          have Q3 := Lib.hid q3
          clear q3
          cases q4 : inB t.day 0 99999
          case false =>
            have Q4 := Lib.hid q4
            clear q4
            have hb : b = false := by rw [← HV.out, hbB, Q0.out, Q1.out, Q2.out, Q3.out, Q4.out]; try rfl
            subst hb
            go_enter Try.func44, Try.ntmps44
            go_wp2_with (go_at_call 45; refine (pwithin_any _ _ _ _ (by first | exact Q0.out | exact Q1.out | exact Q2.out | exact Q3.out | exact Q4.out) _).mono ?_; rintro e w1 ⟨rfl, rfl⟩)
            go_ret
            refine ⟨rfl, ?_⟩
            rw [← HW.out]
            exact HB.out
          case true =>
            have Q4 := Lib.hid q4
            clear q4
            cases q5 : inB t.days 1 999
            case false =>
              have Q5 := Lib.hid q5
              clear q5
              have hb : b = false := by rw [← HV.out, hbB, Q0.out, Q1.out, Q2.out, Q3.out, Q4.out, Q5.out]; try rfl
              subst hb
              go_enter Try.func44, Try.ntmps44
              go_wp2_with (go_at_call 45; refine (pwithin_any _ _ _ _ (by first | exact Q0.out | exact Q1.out | exact Q2.out | exact Q3.out | exact Q4.out | exact Q5.out) _).mono ?_; rintro e w1 ⟨rfl, rfl⟩)
              go_ret
              refine ⟨rfl, ?_⟩
              rw [← HW.out]
              exact HB.out
            case true =>
              have Q5 := Lib.hid q5
              clear q5
              have h4 := inB_iff.1 Q4.out
              have h5 := inB_iff.1 Q5.out
              have v1 : IntKind.i64.wrap (t.day + t.days) = t.day + t.days := IntWalk.i64_in _ (by omega)
              have v2 : IntKind.i64.wrap (t.day + t.days - 1) = t.day + t.days - 1 := IntWalk.i64_in _ (by omega)
              clear h4 h5
              cases q6 : decide (t.day + t.days - 1 ≤ 99999)
              case false =>
                have Q6 := Lib.hid q6
                have hb : b = false := by rw [← HV.out, hbB, Q0.out, Q1.out, Q2.out, Q3.out, Q4.out, Q5.out, Q6.out]; try rfl
                subst hb
                go_enter Try.func44, Try.ntmps44
                go_wp2_with (go_at_call 45; refine (pwithin_any _ _ _ _ (by first | exact Q0.out | exact Q1.out | exact Q2.out | exact Q3.out | exact Q4.out | exact Q5.out) _).mono ?_; rintro e w1 ⟨rfl, rfl⟩)
                go_ret
                refine ⟨rfl, ?_⟩
                rw [← HW.out]
                exact HB.out
              case true =>
                have Q6 := Lib.hid q6
                cases q7 : inB t.epoch 0 9
                case false =>
                  have Q7 := Lib.hid q7
                  clear q7
                  have hb : b = false := by rw [← HV.out, hbB, Q0.out, Q1.out, Q2.out, Q3.out, Q4.out, Q5.out, Q6.out, Q7.out]; try rfl
                  subst hb
                  go_enter Try.func44, Try.ntmps44
                  go_wp2_with (go_at_call 45; refine (pwithin_any _ _ _ _ (by first | exact Q0.out | exact Q1.out | exact Q2.out | exact Q3.out | exact Q4.out | exact Q5.out | exact Q7.out) _).mono ?_; rintro e w1 ⟨rfl, rfl⟩)
                  go_ret
                  refine ⟨rfl, ?_⟩
                  rw [← HW.out]
                  exact HB.out
                case true =>
                  have Q7 := Lib.hid q7
                  clear q7
                  have hb : b = true := by rw [← HV.out, hbB, Q0.out, Q1.out, Q2.out, Q3.out, Q4.out, Q5.out, Q6.out, Q7.out]; try rfl
                  subst hb
                  go_enter Try.func44, Try.ntmps44
                  go_wp2_with (go_at_call 45; refine (pwithin_any _ _ _ _ (by first | exact Q0.out | exact Q1.out | exact Q2.out | exact Q3.out | exact Q4.out | exact Q5.out | exact Q7.out) _).mono ?_; rintro e w1 ⟨rfl, rfl⟩)
                  go_ret
                  refine ⟨rfl, ?_⟩
                  rw [← HW.out]
                  exact HB.out
set_option linter.unusedVariables false
open Go.ChangeShapes Go.WideShapes Go.ChangeAt Go.RowKit


theorem bcell {W w1 : World} (hb : Below W.heap.size W w1) : (∀ b o, b < W.heap.size → w1.cell? ⟨b, o, none⟩ = W.cell? ⟨b, o, none⟩) ∧ (∀ b o, b < W.heap.size → w1.frozen? ⟨b, o, none⟩ = W.frozen? ⟨b, o, none⟩) :=
  ⟨fun b o h => hb.cell (p := ⟨b, o, none⟩) h, fun b o h => hb.frozen (p := ⟨b, o, none⟩) h⟩
theorem okT_bounds (t : Tk) : okT t = (hbB t && (inB t.kind 1 4 && (placeB t && usesB t))) := by
  rw [Bool.eq_iff_iff, okT_iff, numsB_iff, daysB_iff]
  simp only [hbB, Bool.and_eq_true, inB_iff, decide_eq_true_eq]
  constructor
  · rintro ⟨h1, h2, h3, h4⟩; exact ⟨by omega, by omega, h3, h4⟩
  · rintro ⟨h1, h2, h3, h4⟩; exact ⟨by omega, by omega, h3, h4⟩
theorem no_of {a b c o : Bool} {P : Prop} (e : o = (a && (b && c))) (h : o = false) (h1 : a = false → P) (h2 : a = true → b = false → P) (h3 : a = true → b = true → c = false → P) : P := by
  cases a
  · exact h1 rfl
  · cases b
    · exact h2 rfl rfl
    · cases c
      · exact h3 rfl rfl rfl
      · rw [h] at e; cases e
theorem infoKd : (Try.prog.info? 66).map (·.size) = some 5 := by kernel_rfl
theorem kd_one (x y : Int) (a b c : Value) (ha : a.oneCell' = true) (hb : b.oneCell' = true) (hc : c.oneCell' = true) : (#[Value.int .i64 x, Value.int .i64 y, a, b, c] : Array Value).all (·.oneCell') = true := by
  rw [Array.all_eq_true_iff_forall_mem]
  intro u hu
  simp at hu
  rcases hu with rfl | rfl | rfl | rfl | rfl
  · rfl
  · rfl
  · exact ha
  · exact hb
  · exact hc
theorem okT_1 {t : Tk} (hk : t.kind = 1) : okT t = (hbB t && (inB t.uses 1 1 && wayB t)) := by
  have e1 : inB t.kind 1 4 = true := by rw [inB_iff]; omega
  have e2 : placeB t = wayB t := by rw [placeB, if_neg (by omega)]; rfl
  have e3 : usesB t = inB t.uses 1 1 := by
    rw [Bool.eq_iff_iff, inB_iff, usesB]
    rw [hk]
    simp
    try omega
  rw [okT_bounds, e1, e2, e3, Bool.true_and, Bool.and_comm (wayB t)]
theorem okT_2 {t : Tk} (hk : t.kind = 2) : okT t = (hbB t && (inB t.uses 2 2 && wayB t)) := by
  have e1 : inB t.kind 1 4 = true := by rw [inB_iff]; omega
  have e2 : placeB t = wayB t := by rw [placeB, if_neg (by omega)]; rfl
  have e3 : usesB t = inB t.uses 2 2 := by
    rw [Bool.eq_iff_iff, inB_iff, usesB]
    rw [hk]
    simp
    try omega
  rw [okT_bounds, e1, e2, e3, Bool.true_and, Bool.and_comm (wayB t)]
theorem okT_3 {t : Tk} (hk : t.kind = 3) : okT t = (hbB t && (inB t.uses 0 0 && zonesB t)) := by
  have e1 : inB t.kind 1 4 = true := by rw [inB_iff]; omega
  have e2 : placeB t = zonesB t := by rw [placeB, if_pos hk]; rfl
  have e3 : usesB t = inB t.uses 0 0 := by
    rw [Bool.eq_iff_iff, inB_iff, usesB]
    rw [hk]
    simp
    try omega
  rw [okT_bounds, e1, e2, e3, Bool.true_and, Bool.and_comm (zonesB t)]
theorem okT_4 {t : Tk} (hk : t.kind = 4) : okT t = (hbB t && (inB t.uses 2 20 && wayB t)) := by
  have e1 : inB t.kind 1 4 = true := by rw [inB_iff]; omega
  have e2 : placeB t = wayB t := by rw [placeB, if_neg (by omega)]; rfl
  have e3 : usesB t = inB t.uses 2 20 := by
    rw [Bool.eq_iff_iff, inB_iff, usesB]
    rw [hk]
    simp
    try omega
  rw [okT_bounds, e1, e2, e3, Bool.true_and, Bool.and_comm (wayB t)]
end Go.Proofs.Ytaldpioahnbkgaa
