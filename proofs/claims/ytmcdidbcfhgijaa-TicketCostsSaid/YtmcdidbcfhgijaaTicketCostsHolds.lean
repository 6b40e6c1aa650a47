/-
  TicketCosts: proved of the landed packages ticket, fare and line, for all arguments; conditions: none but the statement's own.
-/
import Derived.Test.YtmcdidbcfhgijaaTicketCostsOf
import Derived.Test.YtmcdidbcfhgijaaTicketPC
namespace Go.Proofs.Ytmcdidbcfhgijaa
theorem ticketCosts_holds : Rows.TicketCostsSaid := ticketCosts_of ticket_contracts
end Go.Proofs.Ytmcdidbcfhgijaa
