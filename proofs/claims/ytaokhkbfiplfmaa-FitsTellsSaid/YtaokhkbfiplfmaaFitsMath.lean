/-
  Which media a ticket has room on, plainly. No program; conditions: none.
-/
import Derived.Test.YtaokhkbfiplfmaaTicketMath
namespace Go.Proofs.Ytaokhkbfiplfmaa
set_option linter.unusedVariables false

/-- The least version that has room for a ticket; whether a barcode has room; whether a stripe has. -/
def leastV (t : Tk) : Int := if t.seat ≠ 0 then 3 else if t.card ≠ 0 then 2 else 1
def roomB (t : Tk) (v : Int) : Bool := okT t && (decide (leastV t ≤ v) && decide (v ≤ 3))
def roomS (t : Tk) : Bool := okT t && (decide (t.ser ≤ 9999999) && (t.seat == 0))
theorem roomB_iff (t : Tk) (v : Int) : roomB t v = true ↔ okT t = true ∧ leastV t ≤ v ∧ v ≤ 3 := by simp [roomB]
theorem roomS_iff (t : Tk) : roomS t = true ↔ okT t = true ∧ t.ser ≤ 9999999 ∧ t.seat = 0 := by simp [roomS]
theorem leastV_in (t : Tk) : 1 ≤ leastV t ∧ leastV t ≤ 3 := by
  unfold leastV
  split
  · omega
  · split <;> omega
/-- Who has room on a version has room on each greater one; who has room on a stripe has room on version 2. -/
theorem room_more {t : Tk} {v u : Int} (h : roomB t v = true) (hu : v ≤ u) (h3 : u ≤ 3) : roomB t u = true := by
  have := (roomB_iff t v).1 h
  exact (roomB_iff t u).2 ⟨this.1, by omega, h3⟩
theorem room_stripe {t : Tk} (h : roomS t = true) : roomB t 2 = true ∧ roomB t 3 = true := by
  have := (roomS_iff t).1 h
  have h2 : leastV t ≤ 2 := by
    rw [leastV, if_neg (by omega)]
    split <;> omega
  exact ⟨(roomB_iff t 2).2 ⟨this.1, h2, by omega⟩, (roomB_iff t 3).2 ⟨this.1, by omega, by omega⟩⟩
theorem room_in {t : Tk} {v : Int} (h : roomB t v = true) : 1 ≤ v ∧ v ≤ 3 := by
  have := (roomB_iff t v).1 h
  have := leastV_in t
  omega
end Go.Proofs.Ytaokhkbfiplfmaa
