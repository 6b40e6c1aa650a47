/-
  Lines, fares and tickets, plainly; a ticket in its box.
-/
import Derived.KernelRfl
import Derived.Test.YtpniolinndlepaaGreatDoorBase
namespace Go.Proofs.YtpniolinndlepaaGreatDoor

def isN (s : Int) : Bool := decide (0 ≤ s) && decide (s ≤ 39)
theorem isN_iff (s : Int) : isN s = true ↔ 0 ≤ s ∧ s ≤ 39 := by simp [isN]
/-- The zone of a station. -/
def zn (s : Int) : Int := if s < 20 then 1 + (20 - s) / 4 else 1 + (s - 20) / 4
/-- A ticket's eleven numbers. -/
structure Tk where
  ser : Int
  kind : Int
  frm : Int
  till : Int
  cls : Int
  card : Int
  seat : Int
  day : Int
  days : Int
  uses : Int
  epoch : Int
def placeB (t : Tk) : Bool := if t.kind = 3 then decide (1 ≤ t.frm) && (decide (t.frm ≤ t.till) && decide (t.till ≤ 6)) else isN t.frm && (isN t.till && (t.frm != t.till))
def usesB (t : Tk) : Bool := if t.kind = 4 then decide (2 ≤ t.uses) && decide (t.uses ≤ 20) else t.uses == t.kind.tmod 3
def numsB (t : Tk) : Bool := decide (1 ≤ t.ser) && (decide (t.ser ≤ 1099511627776) && (decide (1 ≤ t.kind) && (decide (t.kind ≤ 4) && (decide (1 ≤ t.cls) && (decide (t.cls ≤ 2) && (decide (0 ≤ t.card) && (decide (t.card ≤ 3) && (decide (0 ≤ t.seat) && decide (t.seat ≤ 999)))))))))
def daysB (t : Tk) : Bool := decide (0 ≤ t.day) && (decide (t.day ≤ 99999) && (decide (1 ≤ t.days) && (decide (t.days ≤ 999) && (decide (t.day + t.days ≤ 100000) && (decide (0 ≤ t.epoch) && decide (t.epoch ≤ 9))))))
def okT (t : Tk) : Bool := numsB t && (daysB t && (placeB t && usesB t))
theorem numsB_iff (t : Tk) : numsB t = true ↔ 1 ≤ t.ser ∧ t.ser ≤ 1099511627776 ∧ 1 ≤ t.kind ∧ t.kind ≤ 4 ∧ 1 ≤ t.cls ∧ t.cls ≤ 2 ∧ 0 ≤ t.card ∧ t.card ≤ 3 ∧ 0 ≤ t.seat ∧ t.seat ≤ 999 := by simp [numsB]
theorem daysB_iff (t : Tk) : daysB t = true ↔ 0 ≤ t.day ∧ t.day ≤ 99999 ∧ 1 ≤ t.days ∧ t.days ≤ 999 ∧ t.day + t.days ≤ 100000 ∧ 0 ≤ t.epoch ∧ t.epoch ≤ 9 := by simp [daysB]
theorem okT_iff (t : Tk) : okT t = true ↔ numsB t = true ∧ daysB t = true ∧ placeB t = true ∧ usesB t = true := by simp [okT]
theorem way_of {t : Tk} (h : okT t = true) (hk : t.kind ≠ 3) : isN t.frm = true ∧ isN t.till = true ∧ t.frm ≠ t.till := by
  have hp := ((okT_iff t).1 h).2.2.1
  rw [placeB, if_neg hk] at hp
  simpa using hp
theorem zones_of {t : Tk} (h : okT t = true) (hk : t.kind = 3) : 1 ≤ t.frm ∧ t.frm ≤ t.till ∧ t.till ≤ 6 := by
  have hp := ((okT_iff t).1 h).2.2.1
  rw [placeB, if_pos hk] at hp
  simpa using hp
theorem uses_of {t : Tk} (h : okT t = true) : (t.kind = 4 → 2 ≤ t.uses ∧ t.uses ≤ 20) ∧ (t.kind ≠ 4 → t.uses = t.kind.tmod 3) := by
  have hu := ((okT_iff t).1 h).2.2.2
  constructor
  · intro hk
    rw [usesB, if_pos hk] at hu
    simpa using hu
  · intro hk
    rw [usesB, if_neg hk] at hu
    simpa using hu
set_option linter.unusedVariables false
open Go.ChangeShapes Go.WideShapes Go.ChangeAt Go.RowKit

def TBox (w : World) (b : Nat) (t : Tk) : Prop := w.heap[b]? = some (.cells #[.int .i64 t.ser, .int .i64 t.kind, .int .i64 t.frm, .int .i64 t.till, .int .i64 t.cls, .int .i64 t.card, .int .i64 t.seat, .int .i64 t.day, .int .i64 t.days, .int .i64 t.uses, .int .i64 t.epoch] 24 (0, 0))
theorem TBox.lt {w : World} {b : Nat} {t : Tk} (h : TBox w b t) : b < w.heap.size := (Array.getElem?_eq_some_iff.1 h).1
theorem TBox.next {w w' : World} {b : Nat} {t : Tk} (h : TBox w b t) (hb : Below w.heap.size w w') : TBox w' b t := (hb.block _ h.lt).trans h
theorem TBox.cells {w : World} {b : Nat} {t : Tk} (h : TBox w b t) : w.cell? ⟨b, 0, none⟩ = some (.int .i64 t.ser) ∧ w.cell? ⟨b, 1, none⟩ = some (.int .i64 t.kind) ∧ w.cell? ⟨b, 2, none⟩ = some (.int .i64 t.frm) ∧ w.cell? ⟨b, 3, none⟩ = some (.int .i64 t.till) ∧ w.cell? ⟨b, 4, none⟩ = some (.int .i64 t.cls) ∧ w.cell? ⟨b, 5, none⟩ = some (.int .i64 t.card) ∧ w.cell? ⟨b, 6, none⟩ = some (.int .i64 t.seat) ∧ w.cell? ⟨b, 7, none⟩ = some (.int .i64 t.day) ∧ w.cell? ⟨b, 8, none⟩ = some (.int .i64 t.days) ∧ w.cell? ⟨b, 9, none⟩ = some (.int .i64 t.uses) ∧ w.cell? ⟨b, 10, none⟩ = some (.int .i64 t.epoch) :=
  ⟨by rw [cell_of_row w b 0 _ _ (0, 0) h]; rfl, by rw [cell_of_row w b 1 _ _ (0, 0) h]; rfl, by rw [cell_of_row w b 2 _ _ (0, 0) h]; rfl, by rw [cell_of_row w b 3 _ _ (0, 0) h]; rfl, by rw [cell_of_row w b 4 _ _ (0, 0) h]; rfl, by rw [cell_of_row w b 5 _ _ (0, 0) h]; rfl, by rw [cell_of_row w b 6 _ _ (0, 0) h]; rfl, by rw [cell_of_row w b 7 _ _ (0, 0) h]; rfl, by rw [cell_of_row w b 8 _ _ (0, 0) h]; rfl, by rw [cell_of_row w b 9 _ _ (0, 0) h]; rfl, by rw [cell_of_row w b 10 _ _ (0, 0) h]; rfl⟩
theorem TBox.frozen {w : World} {b : Nat} {t : Tk} (h : TBox w b t) (j : Nat) : w.frozen? ⟨b, j, none⟩ = false := frozen_of_row w b j _ _ h
theorem TBox.new (w : World) (t : Tk) : TBox (w.alloc (.cells #[.int .i64 t.ser, .int .i64 t.kind, .int .i64 t.frm, .int .i64 t.till, .int .i64 t.cls, .int .i64 t.card, .int .i64 t.seat, .int .i64 t.day, .int .i64 t.days, .int .i64 t.uses, .int .i64 t.epoch] 24)) w.heap.size t := heap_alloc_new w _
end Go.Proofs.YtpniolinndlepaaGreatDoor
