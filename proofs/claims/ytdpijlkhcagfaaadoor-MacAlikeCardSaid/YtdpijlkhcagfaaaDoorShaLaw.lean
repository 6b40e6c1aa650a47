/-
  What the laws of layer 2 share: the listed tables give what the walks ask; a world for the witness. Conditions: none of its own.
-/
import Derived.Test.YtdpijlkhcagfaaaDoorTie
import Derived.Test.YtdpijlkhcagfaaaDoorCards
import Derived.Test.YtdpijlkhcagfaaaDoorLaw
import Derived.Test.YtdpijlkhcagfaaaDoorShaSummed
import Derived.LaidMore
import Derived.Lib.LaidTab
import Derived.Stop.Joined
import Derived.Stop.LaidErr
namespace Go.Proofs.YtdpijlkhcagfaaaDoor
set_option linter.unusedVariables false
open Go.ChangeShapes Go.WideShapes Go.ChangeAt Go.RowKit

/-- What the seat's rows list: the two tables. -/
def laidL {H : Type} : List (String × DataW H) := [("gateline/sha.constants", Rows.laid_gateline_sha_constants), ("gateline/sha.beginning", Rows.laid_gateline_sha_beginning)]
theorem gConst : Tryd.prog.globalNamed "gateline/sha.constants" = some 0 := by kernel_rfl
theorem gBegin : Tryd.prog.globalNamed "gateline/sha.beginning" = some 1 := by kernel_rfl
theorem gConstT : (Tryd.prog.globals[0]?).map (·.type) = some 44 := by kernel_rfl
theorem gBeginT : (Tryd.prog.globals[1]?).map (·.type) = some 23 := by kernel_rfl
theorem cells64 : Tryd.prog.cellsOf 44 = 64 := by kernel_rfl
theorem cellsOf8 : Tryd.prog.cellsOf 23 = 8 := by kernel_rfl

theorem rd_tab {W : World} {g : Nat} {name : String} {l : List Nat} (hg : Tryd.prog.globalNamed name = some g) (h : Lib.TabIs Tryd.prog W name .u32 (l.map fun x : Nat => (x : Int))) : Rd W W.heap.size (some ⟨g, 0, none⟩) (U32 l) := by
  intro k u hu
  have hk : k < l.length := by
    rcases Nat.lt_or_ge k l.length with h' | h'
    · exact h'
    · rw [List.getElem?_eq_none (by rw [U32_length]; exact h')] at hu; cases hu
  have hc := h.cell hg k (by simpa using hk)
  rw [U32_at l k hk] at hu
  cases hu
  have hlt : g < W.heap.size := lt_of_cell hc
  refine ⟨_, rfl, hlt, ?_⟩
  rw [at_add, hc]
  simp [List.getD, hk]
theorem tabs_of_laid {W : World} (h : laidMetH Tryd.prog laidL W) : Tabs W := by
  have h' : laidMet Tryd.prog laidL W := h
  exact ⟨rd_tab gConst (Lib.tabIs_of_head (zs := kTab.map fun x : Nat => (x : Int)) gConst gConstT Tryd.underlying44 Tryd.underlying22 Tryd.cellsU32 cells64 h'),
    rd_tab gBegin (Lib.tabIs_of_head (zs := beginN.list.map fun x : Nat => (x : Int)) gBegin gBeginT Tryd.underlying23 Tryd.underlying22 Tryd.cellsU32 cellsOf8 (laidMet.tail h'))⟩
theorem door_met (os : Os) (args : Array Value) : laidMetH Tryd.prog laidL ((World.doorLaid Tryd.prog 400 os).forCall (fun _ _ => 0) ⟨#[], args, []⟩).memory :=
  laidMetH_of_parts3 (fuel := 8) (laidMet_of_run' 8 (by kernel_rfl) (by kernel_rfl)) (by kernel_rfl) (by kernel_rfl)
end Go.Proofs.YtdpijlkhcagfaaaDoor
