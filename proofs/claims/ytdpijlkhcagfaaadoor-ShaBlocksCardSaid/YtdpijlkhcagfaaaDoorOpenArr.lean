/-
  How an array of integers that came in by value is opened: it reads as a list of numbers. No program of its own; conditions: none.
-/
import Derived.Test.YtdpijlkhcagfaaaDoorLaw
import Derived.OpenShut
namespace Go.Proofs.YtdpijlkhcagfaaaDoor
set_option linter.unusedVariables false
open Go.ChangeShapes Go.WideShapes Go.ChangeAt Go.RowKit

section
variable {H : Type} {enc : TypeId × Value → H} {P : Program}
/-- The number that a cell holds. -/
def cellNat : Value → Nat
  | .int _ z => z.toNat
  | _ => 0
theorem open_nat_array {W : World} {t e : TypeId} {k : IntKind} {r : Reach} {b0 n m : Nat} {v : Value} {d : DataW H} {ps : List MemPlace} (ht : P.underlying t = some (.array n e)) (he : P.underlying e = some (.int k)) (hc : P.cellsOf e = 1) (hct : P.cellsOf t = n)
    (hm : ∀ z, (Lit.int k z).wf = true → 0 ≤ z ∧ z < m) (hval : Value.okWide P W r b0 t v) (hd : DataW.Trod enc P W 0 (fun _ => true) true t v d ps) :
    ∃ l : List Nat, v = .agg (l.map fun x : Nat => Value.int k (x : Int)).toArray ∧ l.length = n ∧ ∀ x ∈ l, x < m := by
  obtain ⟨cs, rfl, hsz⟩ : ∃ cs, v = .agg cs ∧ cs.size = P.cellsOf t := by
    simp only [Value.okWide, ht] at hval
    obtain ⟨cs, h1, h2, _⟩ := hval
    exact ⟨cs, h1, h2⟩
  rw [hct] at hsz
  obtain ⟨fuel, hf⟩ := hd
  obtain ⟨xs, q, _, _, _, hl, hel⟩ := DataW.trod_array ht hf
  have hcell : ∀ i, i < n → ∃ z, cs.toList[i]? = some (.int k z) ∧ (Lit.int k z).wf = true := by
    intro i hi
    have hE := hel i hi
    rw [hc, Nat.mul_one, List.getElem?_eq_getElem (by omega)] at hE
    obtain ⟨z, e1, _, wz⟩ := DataW.trod_int he hE
    refine ⟨z, ?_, wz⟩
    have h0 : ((cs.toList.drop i).take 1)[0]? = some (.int k z) := by
      have e1' : (cs.toList.drop i).take 1 = [.int k z] := e1
      rw [e1']; rfl
    simpa using h0
  refine ⟨cs.toList.map cellNat, ?_, by simp [hsz], ?_⟩
  · congr 1
    apply Array.ext'
    rw [List.map_map]
    simp only
    apply List.ext_getElem?
    intro i
    by_cases hi : i < n
    · obtain ⟨z, h1, h2⟩ := hcell i hi
      have hz := hm z h2
      rw [List.getElem?_map, h1]
      simp [cellNat, Int.toNat_of_nonneg hz.1]
    · rw [List.getElem?_eq_none (by simp; omega), List.getElem?_eq_none (by simp; omega)]
  · intro x hx
    simp only [List.mem_map] at hx
    obtain ⟨v, hv, rfl⟩ := hx
    obtain ⟨i, hi⟩ := List.mem_iff_getElem?.1 hv
    have hin : i < n := by
      rcases Nat.lt_or_ge i n with h | h
      · exact h
      · rw [List.getElem?_eq_none (by simp; omega)] at hi; cases hi
    obtain ⟨z, h1, h2⟩ := hcell i hin
    rw [h1] at hi
    cases hi
    have hz := hm z h2
    simp only [cellNat]
    omega
end
end Go.Proofs.YtdpijlkhcagfaaaDoor
