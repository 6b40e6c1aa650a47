/-
  TicketWay: proved of the landed packages ticket, fare and line, for all arguments; conditions: none but the statement's own.
-/
import Derived.Test.YtmcdidbcfhgijaaTicketWayOf
import Derived.Test.YtmcdidbcfhgijaaTicketPC
namespace Go.Proofs.Ytmcdidbcfhgijaa
theorem ticketWay_holds : Rows.TicketWaySaid := ticketWay_of ticket_contracts
end Go.Proofs.Ytmcdidbcfhgijaa
