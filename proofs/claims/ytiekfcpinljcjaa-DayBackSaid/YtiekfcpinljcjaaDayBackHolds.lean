/-
  DayBack: proved of the landed package day, for all arguments; conditions: none but the statement's own.
-/
import Derived.Test.YtiekfcpinljcjaaDayBackOf
import Derived.Test.YtiekfcpinljcjaaDayPC
namespace Go.Proofs.Ytiekfcpinljcjaa
theorem dayBack_holds : Rows.DayBackSaid := dayBack_of day_contracts
end Go.Proofs.Ytiekfcpinljcjaa
