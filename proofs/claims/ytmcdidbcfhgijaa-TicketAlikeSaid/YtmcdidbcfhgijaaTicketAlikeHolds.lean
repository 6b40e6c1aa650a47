/-
  TicketAlike: proved of the landed packages ticket, fare and line, for all arguments; conditions: none but the statement's own.
-/
import Derived.Test.YtmcdidbcfhgijaaTicketAlikeOf
import Derived.Test.YtmcdidbcfhgijaaTicketPC
namespace Go.Proofs.Ytmcdidbcfhgijaa
theorem ticketAlike_holds : Rows.TicketAlikeSaid := ticketAlike_of ticket_contracts
end Go.Proofs.Ytmcdidbcfhgijaa
