/-
  A whole array out of its box, in a region that draws its order. No program of its own; conditions: the box lies in every world that the region passes.
-/
import Derived.Test.YtghepddfjdillaaArr
import Derived.BigQuiet
namespace Go.Proofs.Ytghepddfjdillaa
set_option linter.unusedVariables false
open Go.ChangeShapes Go.WideShapes Go.ChangeAt Go.RowKit

/-- A whole array out of its box, in a region that draws its order. -/
theorem yields_row {P : Program} {ops : Array Oper} {S : World → Prop} {op : Oper} {a : Act} (hw : Region.wanted op (yielded ops a.tmps) = true) (ty : TypeId) (x : Operand) (ho : op.op = .load ty x) (b : Nat) (hx : a.eval x = .pointer (some ⟨b, 0, none⟩)) (F : Array Value) (d : TypeDesc)
    (hS : ∀ w, S w → ∃ t, w.heap[b]? = some (.cells F t (0, 0))) (hu : P.underlying ty = some d) (hd : d.isRow = true) (hi : (P.info? ty).map (·.size) = some F.size) : YieldsIf P ops S op (.agg F) a := by
  have h := yieldsIf_load_mid (S := S) hw ty x ho b 0 hx F.toList d (fun w h => by
    obtain ⟨t, h1⟩ := hS w h
    intro i v hv
    rw [cell_of_row w b _ _ _ (0, 0) h1]
    simpa using hv) hu hd (by simpa using hi)
  simpa using h
end Go.Proofs.Ytghepddfjdillaa
