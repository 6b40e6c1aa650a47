/-
  How a slice of fields that came in is opened. Conditions: none.
-/
import Derived.Test.YtaldpioahnbkgaaTlvMem
import Derived.Test.YtaldpioahnbkgaaOpenCells
namespace Go.Proofs.Ytaldpioahnbkgaa
set_option maxRecDepth 100000
set_option linter.unusedVariables false
open Go.ChangeShapes Go.WideShapes Go.ChangeAt Go.RowKit Go.Deep

section
variable {H : Type} {enc : TypeId × Value → H}
theorem cellsField : Try.prog.cellsOf 56 = 2 := by kernel_rfl
/-- A slice of fields that came in. -/
theorem open_fields {W : World} {r : Reach} {b0 : Nat} {v : Value} {d : DataW H} {ps : List MemPlace} (hval : Value.okWide Try.prog W r b0 28 v) (hd : DataW.Trod enc Try.prog W 0 (fun _ => true) true 28 v d ps) :
    ∃ (A : Option Addr) (l : List Tf) (c : Nat), v = .slice A l.length c ∧ Ts W W.heap.size l A c := by
  obtain ⟨a0, len, cap, rfl⟩ := okWide_slice Try.underlying28 hval
  obtain ⟨fuel, hf⟩ := hd
  rcases open_slice Try.underlying28 hf with ⟨hcs, _⟩ | ⟨a, len', cap', m, n, D, Pl, hcs, _, hl, hm, hmm, _, hel⟩
  · simp [Value.cells] at hcs
    obtain ⟨rfl, rfl, rfl⟩ := hcs
    exact ⟨none, [], 0, rfl, Ts.empty _ _⟩
  · simp [Value.cells] at hcs
    obtain ⟨rfl, rfl, rfl⟩ := hcs
    simp at hmm
    have hone : ∀ i, i < len → ∃ (k : Tf) (S : Option Addr) (c : Nat), a.block < W.heap.size ∧ TAt W W.heap.size (a.add (i * 2)) k S c := by
      intro i hi
      obtain ⟨cs', hc, ht⟩ := hel i (by omega)
      rw [cellsField] at hc
      obtain ⟨_, hcl, hat⟩ := World.cells?_some hc
      obtain ⟨y0, y1, n', _, _, h0, h1⟩ := trod_struct2 Try.underlying56 ht
      match cs', hcl with
      | [c0, c1], _ =>
        have e3 : Try.prog.cellsOf 3 = 1 := by kernel_rfl
        have e24 : Try.prog.cellsOf 52 = 1 := by kernel_rfl
        simp only [e3, e24, List.drop_zero, List.drop_succ_cons, List.take_succ_cons, List.take_zero] at h0 h1
        obtain ⟨z0, rfl, _, _⟩ := int_of_cells h0
        obtain ⟨S, s, c, rfl, hb⟩ := bs_of_cells h1
        have g0 := hat 0 (by omega)
        have g1 := hat 1 (by omega)
        simp at g0 g1
        refine ⟨⟨z0, s⟩, S, c, ?_, ⟨g0, g1, hb⟩⟩
        have := lt_of_cell g0
        rwa [add_block, add_block] at this
    have hall : ∀ k, k ≤ len → ∃ l : List Tf, l.length = k ∧ ∀ i, i < l.length → ∃ ad S cc, some a = some ad ∧ ad.block < W.heap.size ∧ TAt W W.heap.size (ad.add (i * 2)) (l.getD i TF0) S cc := by
      intro k
      induction k with
      | zero => intro _; exact ⟨[], rfl, by intro i hi; simp at hi⟩
      | succ k ih =>
        intro hk
        obtain ⟨l, h1, h2⟩ := ih (by omega)
        obtain ⟨x, S, c, hlt, hx⟩ := hone k (by omega)
        refine ⟨l ++ [x], by simp [h1], ?_⟩
        intro i hi
        rcases Nat.lt_or_ge i k with h | h
        · obtain ⟨ad, S', c', e, hlt', hk'⟩ := h2 i (by omega)
          refine ⟨ad, S', c', e, hlt', ?_⟩
          have : (l ++ [x]).getD i TF0 = l.getD i TF0 := by rw [List.getD_eq_getElem?_getD, List.getD_eq_getElem?_getD, List.getElem?_append_left (by omega)]
          rw [this]; exact hk'
        · have e : i = k := by simp [h1] at hi; omega
          subst e
          have : (l ++ [x]).getD i TF0 = x := by rw [List.getD_eq_getElem?_getD, List.getElem?_append_right (by omega), h1]; simp
          exact ⟨a, S, c, rfl, hlt, by rw [this]; exact hx⟩
    obtain ⟨l, h1, h2⟩ := hall len (Nat.le_refl _)
    unfold maxLen at hm
    exact ⟨some a, l, cap, by rw [h1], ⟨h2, by simp, by omega, hm⟩⟩
end
end Go.Proofs.Ytaldpioahnbkgaa
