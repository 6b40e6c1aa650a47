/-
  How slices of bits and of bytes that came in are opened. Conditions: none.
-/
import Derived.Test.YtjlcaobffhihhaaBools
import Derived.Test.YtjlcaobffhihhaaBsRow
import Derived.Test.YtjlcaobffhihhaaLaw
import Derived.Test.YtjlcaobffhihhaaOpenArr
import Derived.Deep.Grids
namespace Go.Proofs.Ytjlcaobffhihhaa
set_option linter.unusedVariables false
open Go.ChangeShapes Go.WideShapes Go.ChangeAt Go.RowKit

section
variable {H : Type} {enc : TypeId × Value → H}
theorem open_vs {W : World} {r : Reach} {b0 : Nat} {v : Value} {d : DataW H} {ps : List MemPlace} (hval : Value.okWide Try.prog W r b0 32 v) (hd : DataW.Trod enc Try.prog W 0 (fun _ => true) true 32 v d ps) :
    ∃ (A : Option Addr) (l : List Bool) (c : Nat), v = .slice A l.length c ∧ Vs W W.heap.size l A c := by
  obtain ⟨a0, len, cap, rfl⟩ := okWide_slice Try.underlying32 hval
  obtain ⟨fuel, hf⟩ := hd
  rcases Go.Deep.open_bools Try.underlying32 Try.underlying4 (by kernel_rfl) hf with ⟨hcs, _⟩ | ⟨a, len', cap', B, hcs, _, h1, h2, _, hcell⟩
  · simp [Value.cells] at hcs
    obtain ⟨rfl, rfl, rfl⟩ := hcs
    exact ⟨none, [], 0, rfl, ⟨by intro k u hu; simp [BL] at hu, fun _ => rfl, by simp, by omega⟩⟩
  · simp [Value.cells] at hcs
    obtain ⟨rfl, rfl, rfl⟩ := hcs
    refine ⟨some a, (List.range len).map B, cap, by simp, ⟨?_, by simp, by simpa using h1, by unfold maxLen at h2; omega⟩⟩
    intro j u hu
    simp only [BL, List.map_map, List.getElem?_map, Option.map_eq_some_iff] at hu
    obtain ⟨z, hz1, rfl⟩ := hu
    have hj : j < len := by
      rcases Nat.lt_or_ge j len with h | h
      · exact h
      · rw [List.getElem?_eq_none (by simp; omega)] at hz1; cases hz1
    rw [List.getElem?_range hj] at hz1
    cases hz1
    have hcj := hcell j (by omega)
    refine ⟨a, rfl, ?_, hcj⟩
    have := lt_of_cell hcj
    rwa [add_block] at this
theorem open_bs {W : World} {r : Reach} {b0 : Nat} {v : Value} {d : DataW H} {ps : List MemPlace} (hval : Value.okWide Try.prog W r b0 22 v) (hd : DataW.Trod enc Try.prog W 0 (fun _ => true) true 22 v d ps) :
    ∃ (A : Option Addr) (s : List Nat) (c : Nat), v = .slice A s.length c ∧ Bs W W.heap.size s A c := by
  obtain ⟨A, l, c, h1, h2, h3, h4, h5, h6, _⟩ := open_nats_full Try.underlying22 Try.underlying5 Try.cellsU8 wf_u8 hval hd
  exact ⟨A, l, c, h1, ⟨h2, h6, h4, by unfold maxLen at h5; omega, h3⟩⟩
end
end Go.Proofs.Ytjlcaobffhihhaa
