/-
  How a slice of bytes, and an int, that lie in cells are opened. Conditions: none.
-/
import Derived.Test.YtaldpioahnbkgaaBsEmpty
import Derived.Test.YtaldpioahnbkgaaBase
import Derived.Deep.Slices
import Derived.Deep.Fields
import Derived.Lib.SmallJoins
namespace Go.Proofs.Ytaldpioahnbkgaa
set_option maxRecDepth 100000
set_option linter.unusedVariables false
open Go.ChangeShapes Go.WideShapes Go.ChangeAt Go.RowKit Go.Deep

section
variable {H : Type} {enc : TypeId × Value → H}
theorem bs_of_cells {W : World} {fuel : Nat} {v : Value} {y : DataW H × List MemPlace} (h : DataW.trod enc Try.prog W 0 (fun _ => true) true fuel 52 [v] = some y) :
    ∃ S s c, v = .slice S (List.length s) c ∧ Bs W W.heap.size s S c := by
  rcases open_ints Try.underlying52 Try.underlying5 Try.cellsU8 h with ⟨hcs, _⟩ | ⟨a, len, cap, zs, hcs, _, h1, h2, hz, _, hcell, hwf⟩
  · simp at hcs
    exact ⟨none, [], 0, hcs, Bs.empty _ _⟩
  · simp at hcs hz
    have hl : ((zs.take len).map Int.toNat).length = len := by simp; omega
    refine ⟨some a, (zs.take len).map Int.toNat, cap, by rw [hl]; exact hcs, ⟨?_, by simp, by rw [hl]; exact h1, by unfold maxLen at h2; exact h2, ?_⟩⟩
    · intro j u hu
      simp only [U8, List.getElem?_map, Option.map_eq_some_iff] at hu
      obtain ⟨x, ⟨z, hz1, rfl⟩, rfl⟩ := hu
      have hj : j < len := by
        rcases Nat.lt_or_ge j len with h | h
        · exact h
        · rw [List.getElem?_eq_none (by simp; omega)] at hz1; cases hz1
      have hcj := hcell j (by omega)
      rw [List.getElem?_take, if_pos hj] at hz1
      rw [List.getD_eq_getElem?_getD, hz1, Option.getD_some] at hcj
      have hzw := wf_u8 z (hwf z (List.mem_of_getElem? hz1))
      refine ⟨a, rfl, ?_, ?_⟩
      · have := lt_of_cell hcj
        rwa [add_block] at this
      · rw [hcj]
        congr 2
        omega
    · intro x hx
      simp only [List.mem_map] at hx
      obtain ⟨z, hz1, rfl⟩ := hx
      have := wf_u8 z (hwf z (List.mem_of_mem_take hz1))
      omega
theorem int_of_cells {W : World} {fuel : Nat} {v : Value} {y : DataW H × List MemPlace} (h : DataW.trod enc Try.prog W 0 (fun _ => true) true fuel 3 [v] = some y) : ∃ z : Int, v = .int .i64 z ∧ -9223372036854775808 ≤ z ∧ z ≤ 9223372036854775807 := by
  obtain ⟨z, e1, _, wz⟩ := DataW.trod_int Try.underlying3 h
  simp at e1
  exact ⟨z, e1, wf_i64 z wz⟩
end
end Go.Proofs.Ytaldpioahnbkgaa
