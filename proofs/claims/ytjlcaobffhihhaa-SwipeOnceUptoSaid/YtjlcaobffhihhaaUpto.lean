/-
  What the bound of a statement of the second form gives: how long a slice of bytes is. Conditions: none.
-/
import Derived.Test.YtjlcaobffhihhaaTrackOpen
import Derived.JoinedCond
namespace Go.Proofs.Ytjlcaobffhihhaa
set_option linter.unusedVariables false
open Go.ChangeShapes Go.WideShapes Go.ChangeAt Go.RowKit

theorem bulk_one {H : Type} (d : DataW H) : 1 ≤ Rows.uptoBulk d := by
  cases d with
  | lit l => cases l <;> simp [Rows.uptoBulk]
  | nil => simp [Rows.uptoBulk]
  | ptr d => simp [Rows.uptoBulk]
  | slice elems spare => simp [Rows.uptoBulk]
  | agg parts => simp [Rows.uptoBulk]
  | iface t d => simp [Rows.uptoBulk]
  | map entries => simp [Rows.uptoBulk]
  | held h => simp [Rows.uptoBulk]
theorem bulk_len {H : Type} : ∀ l : List (DataW H), l.length ≤ Rows.uptoBulkAll l
  | [] => by simp
  | x :: r => by
    have h1 := bulk_one x
    have h2 := bulk_len r
    simp only [Rows.uptoBulkAll, List.length_cons]
    omega
theorem bulk_part {H : Type} {d : DataW H} : ∀ {l : List (DataW H)}, d ∈ l → Rows.uptoBulk d ≤ Rows.uptoBulkAll l
  | x :: r, h => by
    simp only [Rows.uptoBulkAll]
    rcases List.mem_cons.1 h with rfl | h
    · omega
    · have := bulk_part h
      omega
theorem bulk_bound {H : Type} {l : List (DataW H)} (hk : Rows.uptoSmall H l = true) : Rows.uptoBulkAll l ≤ 1048576 := of_decide_eq_true hk
section
variable {H : Type} {enc : TypeId × Value → H}
theorem open_bs_upto {W : World} {r : Reach} {b0 : Nat} {v : Value} {d : DataW H} {ps : List MemPlace} (hval : Value.okWide Try.prog W r b0 22 v) (hd : DataW.Trod enc Try.prog W 0 (fun _ => true) true 22 v d ps) :
    ∃ (A : Option Addr) (s : List Nat) (c : Nat), v = .slice A s.length c ∧ Bs W W.heap.size s A c ∧ s.length ≤ Rows.uptoBulk d := by
  obtain ⟨A, s, c, rfl, h⟩ := open_bs hval hd
  refine ⟨A, s, c, rfl, h, ?_⟩
  obtain ⟨fuel, hf⟩ := hd
  rcases open_ints Try.underlying22 Try.underlying5 Try.cellsU8 hf with ⟨hcs, _⟩ | ⟨a, len', cap', zs, hcs, _, h1, h2, hz, hx, _, _⟩
  · simp [Value.cells] at hcs
    have h0 : s.length = 0 := by simp [hcs]
    omega
  · simp [Value.cells] at hcs
    obtain ⟨_, h0, h3⟩ := hcs
    obtain ⟨rfl, _⟩ := Prod.mk.inj hx
    simp at hz
    simp only [Rows.uptoBulk]
    refine Nat.le_trans ?_ (Nat.le_trans (bulk_len _) (Nat.le_trans (Nat.le_add_right _ _) (Nat.le_add_right _ _)))
    simp [lits]
    omega
end
end Go.Proofs.Ytjlcaobffhihhaa
