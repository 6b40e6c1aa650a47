/-
  The contracts of the landed package day, all four. Conditions: none.
-/
import Derived.Test.YtiekfcpinljcjaaDayPDate
import Derived.Test.YtiekfcpinljcjaaDayPOf
namespace Go.Proofs.Ytiekfcpinljcjaa
set_option linter.unusedVariables false
open Go.ChangeShapes Go.WideShapes Go.ChangeAt Go.RowKit
theorem day_contracts : DC :=
  { leap := fun y b w _ hb => (pleap_same y b hb w).mono fun e w' h => ⟨h.1, by rw [h.2]; exact Below.refl _ _⟩
    date := fun n d E w _ hd hE => pdate_any n d E hd hE w
    of := fun d n E w _ _ _ hd hE => pof_any d n E hd hE w
    week := fun n E w hI hE => pweek_any n E w hI hE }
end Go.Proofs.Ytiekfcpinljcjaa
