/-
  The contracts of packages fare and line that layer 8's laws ask. Conditions: none.
-/
import Derived.Test.YtniffcjcnjhehaaFarePBack
import Derived.Test.YtniffcjcnjhehaaFarePSingle
import Derived.Test.YtniffcjcnjhehaaLinePBet
import Derived.Test.YtniffcjcnjhehaaFareC
namespace Go.Proofs.Ytniffcjcnjhehaa
open Go.ChangeShapes Go.WideShapes Go.ChangeAt Go.RowKit
theorem fare_contracts : FC :=
  ⟨fun z v E w _ hv hE => pbase_any z v E hv hE w,
   fun p c v E w _ _ hv hE => pcut_any p c v E hv hE w,
   fun f t cl c v E w _ _ _ _ hv hE => psingle_any f t cl c v E hv hE w,
   fun p l a v E w _ _ _ hv hE => pback_any p l a v E hv hE w,
   fun a b s v E w _ _ _ hv hE => (pbetween_any a b s v E hv hE w).mono (fun e w' h => ⟨h.1, by rw [h.2]; exact Below.refl _ _⟩)⟩
end Go.Proofs.Ytniffcjcnjhehaa
