/-
  TicketIs: proved of the landed packages ticket, fare and line, for all arguments; conditions: none but the statement's own.
-/
import Derived.Test.YtmcdidbcfhgijaaTicketIsOf
import Derived.Test.YtmcdidbcfhgijaaTicketPC
namespace Go.Proofs.Ytmcdidbcfhgijaa
theorem ticketIs_holds : Rows.TicketIsSaid := ticketIs_of ticket_contracts
end Go.Proofs.Ytmcdidbcfhgijaa
