/-
  The contracts of packages ticket, line and fare that layer 9's laws ask. Conditions: none.
-/
import Derived.Test.YtmcdidbcfhgijaaTicketPEnds
import Derived.Test.YtmcdidbcfhgijaaLinePStations
import Derived.Test.YtmcdidbcfhgijaaTicketC
namespace Go.Proofs.Ytmcdidbcfhgijaa
open Go.ChangeShapes Go.WideShapes Go.ChangeAt Go.RowKit
theorem ticket_contracts : TC :=
  ⟨fun t b w _ hb => pis9_any t b hb w,
   fun t v E w _ hv hE => plast_any t v E hv hE w,
   fun t s b E w _ hs hv hE => pcovers_any t s b E hs hv hE w,
   fun t v E w _ hv hE => pprice9_any t v E hv hE w,
   fun low high E l n w _ _ hl hn hE => pstations_any low high E l n w hl hn hE,
   fun f t cl c v E w _ _ _ _ hv hE => psingle_any f t cl c v E hv hE w⟩
end Go.Proofs.Ytmcdidbcfhgijaa
