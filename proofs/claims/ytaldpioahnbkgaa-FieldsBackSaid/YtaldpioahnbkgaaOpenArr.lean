/-
  How an array of integers that came in by value is opened: it reads as a list of numbers. No program of its own; conditions: none.
-/
import Derived.Test.YtaldpioahnbkgaaBase
import Derived.OpenShut
import Derived.SizedLaws
namespace Go.Proofs.Ytaldpioahnbkgaa
set_option linter.unusedVariables false
open Go.ChangeShapes Go.WideShapes Go.ChangeAt Go.RowKit

section
variable {H : Type} {enc : TypeId × Value → H} {P : Program}
/-- The number that a cell holds. -/
def cellNat : Value → Nat
  | .int _ z => z.toNat
  | _ => 0
theorem open_nat_array {W : World} {t e : TypeId} {k : IntKind} {r : Reach} {b0 n m : Nat} {v : Value} {d : DataW H} {ps : List MemPlace} (ht : P.underlying t = some (.array n e)) (he : P.underlying e = some (.int k)) (hc : P.cellsOf e = 1) (hct : P.cellsOf t = n)
    (hm : ∀ z, (Lit.int k z).wf = true → 0 ≤ z ∧ z < m) (hval : Value.okWide P W r b0 t v) (hd : DataW.Trod enc P W 0 (fun _ => true) true t v d ps) :
    ∃ l : List Nat, v = .agg (l.map fun x : Nat => Value.int k (x : Int)).toArray ∧ l.length = n ∧ ∀ x ∈ l, x < m := by
  obtain ⟨cs, rfl, hsz⟩ : ∃ cs, v = .agg cs ∧ cs.size = P.cellsOf t := by
    simp only [Value.okWide, ht] at hval
    obtain ⟨cs, h1, h2, _⟩ := hval
    exact ⟨cs, h1, h2⟩
  rw [hct] at hsz
  obtain ⟨fuel, hf⟩ := hd
  obtain ⟨xs, q, _, _, _, hl, hel⟩ := DataW.trod_array ht hf
  have hcell : ∀ i, i < n → ∃ z, cs.toList[i]? = some (.int k z) ∧ (Lit.int k z).wf = true := by
    intro i hi
    have hE := hel i hi
    rw [hc, Nat.mul_one, List.getElem?_eq_getElem (by omega)] at hE
    obtain ⟨z, e1, _, wz⟩ := DataW.trod_int he hE
    refine ⟨z, ?_, wz⟩
    have h0 : ((cs.toList.drop i).take 1)[0]? = some (.int k z) := by
      have e1' : (cs.toList.drop i).take 1 = [.int k z] := e1
      rw [e1']; rfl
    simpa using h0
  refine ⟨cs.toList.map cellNat, ?_, by simp [hsz], ?_⟩
  · congr 1
    apply Array.ext'
    rw [List.map_map]
    simp only
    apply List.ext_getElem?
    intro i
    by_cases hi : i < n
    · obtain ⟨z, h1, h2⟩ := hcell i hi
      have hz := hm z h2
      rw [List.getElem?_map, h1]
      simp [cellNat, Int.toNat_of_nonneg hz.1]
    · rw [List.getElem?_eq_none (by simp; omega), List.getElem?_eq_none (by simp; omega)]
  · intro x hx
    simp only [List.mem_map] at hx
    obtain ⟨v, hv, rfl⟩ := hx
    obtain ⟨i, hi⟩ := List.mem_iff_getElem?.1 hv
    have hin : i < n := by
      rcases Nat.lt_or_ge i n with h | h
      · exact h
      · rw [List.getElem?_eq_none (by simp; omega)] at hi; cases hi
    obtain ⟨z, h1, h2⟩ := hcell i hin
    rw [h1] at hi
    cases hi
    have hz := hm z h2
    simp only [cellNat]
    omega
/-- A slice of integers that came in, not negative and below m: it reads as a list of numbers; its capacity, and what that weighs. -/
theorem open_nats_full {W : World} {t e : TypeId} {k : IntKind} {r : Reach} {b0 m : Nat} {v : Value} {d : DataW H} {ps : List MemPlace} (ht : P.underlying t = some (.slice e)) (he : P.underlying e = some (.int k)) (hc : P.cellsOf e = 1)
    (hm : ∀ z, (Lit.int k z).wf = true → 0 ≤ z ∧ z < m) (hval : Value.okWide P W r b0 t v) (hd : DataW.Trod enc P W 0 (fun _ => true) true t v d ps) :
    ∃ (A : Option Addr) (l : List Nat) (c : Nat), v = .slice A l.length c ∧ Rd W W.heap.size A (l.map fun x : Nat => Value.int k (x : Int)) ∧ (∀ x ∈ l, x < m) ∧ l.length ≤ c ∧ c ≤ maxLen ∧ (A = none → c = 0) ∧
      ∀ b, (d.weights P t).all (· ≤ b) = true → c * P.bytesOf e ≤ b := by
  obtain ⟨a0, len, cap, rfl⟩ := okWide_slice ht hval
  obtain ⟨fuel, hf⟩ := hd
  rcases open_ints ht he hc hf with ⟨hcs, _⟩ | ⟨a, len', cap', zs, hcs, _, h1, h2, hz, hx, hcell, hwf⟩
  · simp [Value.cells] at hcs
    obtain ⟨rfl, rfl, rfl⟩ := hcs
    exact ⟨none, [], 0, rfl, by intro k u hu; simp at hu, by simp, by simp, by simp, by simp, by simp⟩
  · simp [Value.cells] at hcs
    obtain ⟨rfl, rfl, rfl⟩ := hcs
    simp at hz
    refine ⟨some a, (zs.take len).map Int.toNat, cap, by simp; omega, ?_, ?_, by simp; omega, h2, by simp, ?_⟩
    · intro j u hu
      simp only [List.getElem?_map, Option.map_eq_some_iff] at hu
      obtain ⟨x, ⟨z, hz1, rfl⟩, rfl⟩ := hu
      have hj : j < len := by
        rcases Nat.lt_or_ge j len with h | h
        · exact h
        · rw [List.getElem?_eq_none (by simp; omega)] at hz1; cases hz1
      have hcj := hcell j (by omega)
      rw [List.getElem?_take, if_pos hj] at hz1
      rw [List.getD_eq_getElem?_getD, hz1, Option.getD_some] at hcj
      have hzw := hm z (hwf z (List.mem_of_getElem? hz1))
      refine ⟨a, rfl, ?_, ?_⟩
      · have := lt_of_cell hcj
        rwa [add_block] at this
      · rw [hcj]
        congr 2
        omega
    · intro x hx
      simp only [List.mem_map] at hx
      obtain ⟨z, hz1, rfl⟩ := hx
      have := hm z (hwf z (List.mem_of_mem_take hz1))
      omega
    · intro b hb
      obtain ⟨rfl, _⟩ := Prod.mk.inj hx
      simp only [DataW.weights, ht, List.all_cons, Bool.and_eq_true, decide_eq_true_eq] at hb
      have h3 := hb.1
      simp [lits] at h3
      have h4 : min len zs.length + (zs.length - len) = cap := by omega
      rw [h4] at h3
      exact h3
theorem weights_of_each {ts : List TypeId} {ds : List (DataW H)} {b : Nat} (h : (DataW.weightsEach P ts ds).all (· ≤ b) = true) (j : Nat) {t : TypeId} {d : DataW H} (ht : ts[j]? = some t) (hd : ds[j]? = some d) : (d.weights P t).all (· ≤ b) = true :=
  List.all_eq_true.2 fun n hn => List.all_eq_true.1 h n (DataW.weights_mem_each ht hd n hn)
end
end Go.Proofs.Ytaldpioahnbkgaa
