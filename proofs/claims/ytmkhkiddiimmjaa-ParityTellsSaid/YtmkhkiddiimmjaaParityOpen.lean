/-
  How five bits that came in by value are opened. Conditions: none.
-/
import Derived.Test.YtmkhkiddiimmjaaInts
import Derived.Test.YtmkhkiddiimmjaaBitsBox
namespace Go.Proofs.Ytmkhkiddiimmjaa
set_option linter.unusedVariables false
open Go.ChangeShapes Go.WideShapes Go.ChangeAt Go.RowKit

section
variable {H : Type} {enc : TypeId × Value → H}
theorem array5 {α : Type} {cs : Array α} (h : cs.size = 5) : ∃ c0 c1 c2 c3 c4, cs = #[c0, c1, c2, c3, c4] := by
  obtain ⟨l⟩ := cs
  match l, h with
  | [c0, c1, c2, c3, c4], _ => exact ⟨c0, c1, c2, c3, c4, rfl⟩
theorem open_bools {W : World} {P : Program} {t e : TypeId} {r : Reach} {b0 n : Nat} {v : Value} {d : DataW H} {ps : List MemPlace} (ht : P.underlying t = some (.array n e)) (he : P.underlying e = some .bool) (hc : P.cellsOf e = 1) (hct : P.cellsOf t = n)
    (hval : Value.okWide P W r b0 t v) (hd : DataW.Trod enc P W 0 (fun _ => true) true t v d ps) :
    ∃ cs, v = .agg cs ∧ cs.size = n ∧ ∀ i, i < n → ∃ z : Bool, cs[i]? = some (.bool z) := by
  obtain ⟨cs, rfl, hsz⟩ : ∃ cs, v = .agg cs ∧ cs.size = P.cellsOf t := by
    simp only [Value.okWide, ht] at hval
    obtain ⟨cs, h1, h2, _⟩ := hval
    exact ⟨cs, h1, h2⟩
  rw [hct] at hsz
  obtain ⟨fuel, hf⟩ := hd
  obtain ⟨xs, q, _, _, _, hl, hel⟩ := DataW.trod_array ht hf
  refine ⟨cs, rfl, hsz, fun i hi => ?_⟩
  have hE := hel i hi
  rw [hc, Nat.mul_one, List.getElem?_eq_getElem (by omega)] at hE
  obtain ⟨z, e1, _⟩ := DataW.trod_bool he hE
  refine ⟨z, ?_⟩
  have h0 : ((cs.toList.drop i).take 1)[0]? = some (.bool z) := by
    have e1' : (cs.toList.drop i).take 1 = [.bool z] := e1
    rw [e1']; rfl
  simpa using h0
theorem open_b5 {W : World} {r : Reach} {b0 : Nat} {v : Value} {d : DataW H} {ps : List MemPlace} (hval : Value.okWide Try.prog W r b0 28 v) (hd : DataW.Trod enc Try.prog W 0 (fun _ => true) true 28 v d ps) :
    ∃ b : B5, v = .agg #[.bool b.b0, .bool b.b1, .bool b.b2, .bool b.b3, .bool b.b4] := by
  obtain ⟨cs, rfl, hsz, hz⟩ := open_bools Try.underlying28 Try.underlying4 (by kernel_rfl) (by kernel_rfl) hval hd
  obtain ⟨c0, c1, c2, c3, c4, rfl⟩ := array5 hsz
  obtain ⟨z0, e0⟩ := hz 0 (by omega)
  obtain rfl : c0 = .bool z0 := Option.some.inj e0
  obtain ⟨z1, e1⟩ := hz 1 (by omega)
  obtain rfl : c1 = .bool z1 := Option.some.inj e1
  obtain ⟨z2, e2⟩ := hz 2 (by omega)
  obtain rfl : c2 = .bool z2 := Option.some.inj e2
  obtain ⟨z3, e3⟩ := hz 3 (by omega)
  obtain rfl : c3 = .bool z3 := Option.some.inj e3
  obtain ⟨z4, e4⟩ := hz 4 (by omega)
  obtain rfl : c4 = .bool z4 := Option.some.inj e4
  exact ⟨⟨z0, z1, z2, z3, z4⟩, rfl⟩
theorem open_zs {W : World} {r : Reach} {b0 : Nat} {v : Value} {d : DataW H} {ps : List MemPlace} (hval : Value.okWide Try.prog W r b0 27 v) (hd : DataW.Trod enc Try.prog W 0 (fun _ => true) true 27 v d ps) :
    ∃ (A : Option Addr) (l : List Int) (c : Nat), v = .slice A l.length c ∧ (∀ z ∈ l, In64 z) ∧ Zs W W.heap.size l A c := by
  obtain ⟨A, l, c, h1, h2, h3, h4, h5, h6, _⟩ := open_ints_full Try.underlying27 Try.underlying3 (by kernel_rfl) hval hd
  exact ⟨A, l, c, h1, h3, h2, h6, h4, by unfold maxLen at h5; omega⟩
end
end Go.Proofs.Ytmkhkiddiimmjaa
