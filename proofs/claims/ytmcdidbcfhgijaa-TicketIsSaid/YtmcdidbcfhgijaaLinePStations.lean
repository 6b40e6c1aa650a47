/-
  Contract for the landed Stations, at any two numbers. Conditions: none.
-/
import Derived.Test.YtmcdidbcfhgijaaLinePList
import Derived.Test.YtmcdidbcfhgijaaNats
namespace Go.Proofs.Ytmcdidbcfhgijaa
set_option linter.unusedVariables false
set_option linter.unusedSimpArgs false
open Go.ChangeShapes Go.WideShapes Go.ChangeAt Go.RowKit

theorem pstations_any (low high E : Int) (l : List Nat) (n : Nat) (w : World) (hl : stV low high = l) (hn : n = l.length) (hE : stE low high = E) : Calls Try.prog 14 #[.int .i64 low, .int .i64 high] w fun e w' => ∃ A c, e = .returned (.tuple #[.slice A n c, .int .i64 E]) ∧ Ns w' w'.heap.size l A c ∧ Below w.heap.size w w' := by
  have HL := Lib.hid hl
  have HN := Lib.hid hn
  have HE := Lib.hid hE
  clear hl hn hE
  by_cases hok : okZ low high = true
  · have e0 : E = 0 := by rw [← HE.out, stE, if_pos hok]
    subst e0
    exact callsIn_wide.1 (list_in 4 (by omega) low high hok l (by rw [← HL.out, stV, if_pos hok]) n HN.out w)
  · have e0 : E = 1 := by rw [← HE.out, stE, if_neg hok]
    have e1 : l = [] := by rw [← HL.out, stV, if_neg hok]
    have e2 : n = 0 := by rw [HN.out, e1]; rfl
    subst e0 e1 e2
    have hno : low < 1 ∨ (¬ low < 1 ∧ high < low) ∨ (¬ low < 1 ∧ ¬ high < low ∧ 6 < high) := by
      have : ¬ (1 ≤ low ∧ low ≤ high ∧ high ≤ 6) := fun h => hok ((okZ_iff _ _).2 h)
      omega
    clear hok
    have hend : ∀ w' : World, Below w.heap.size w w' → ∃ A c, Ending.returned (Value.tuple #[.slice none 0 0, .int .i64 1]) = .returned (.tuple #[.slice A 0 c, .int .i64 1]) ∧ Ns w' w'.heap.size [] A c ∧ Below w.heap.size w w' :=
      fun w' hb => ⟨none, 0, rfl, ⟨by intro k u hu; simp [N64] at hu, fun _ => rfl, by simp, by omega⟩, hb⟩
    have HEND := Lib.hid hend
    clear hend
    have hb2 : Below w.heap.size w ((w.alloc (.cells #[.int .i64 low] 3)).alloc (.cells #[.int .i64 high] 3)) := ((Below.refl _ w).alloc (Nat.le_refl _) _).alloc (by simp) _
    rcases hno with h | ⟨h, h2⟩ | ⟨h, h2, h4⟩
    all_goals
      go_enter Try.func14, Try.ntmps14
      go_wp2
      go_ret2
      exact HEND.out _ hb2
end Go.Proofs.Ytmcdidbcfhgijaa
