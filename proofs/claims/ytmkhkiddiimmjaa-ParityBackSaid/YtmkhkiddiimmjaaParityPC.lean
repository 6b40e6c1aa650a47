/-
  What the laws want of package parity, landed. Conditions: none.
-/
import Derived.Test.YtmkhkiddiimmjaaParityC
import Derived.Test.YtmkhkiddiimmjaaParityPBits
import Derived.Test.YtmkhkiddiimmjaaParityPSum
import Derived.Test.YtmkhkiddiimmjaaParityPValue
namespace Go.Proofs.Ytmkhkiddiimmjaa
set_option linter.unusedVariables false
open Go.ChangeShapes Go.WideShapes Go.ChangeAt Go.RowKit

theorem parity_contracts : PC where
  char := fun v x E w _ hv hE => pchar_any v x E hv hE w
  value := fun c x E w _ hv hE => pvalue_any c x E hv hE w
  sum := fun l n A c x E w hn _ hv hE hA => (psum_any l n hn A c x E hv hE w hA).mono (by rintro e w' ⟨h1, rfl⟩; exact ⟨h1, Below.refl _ _⟩)
  bits := fun c b E w _ hb hE => pbits_any c b E hb hE w
  of := fun b v w hv => pof_any b v hv w
end Go.Proofs.Ytmkhkiddiimmjaa
