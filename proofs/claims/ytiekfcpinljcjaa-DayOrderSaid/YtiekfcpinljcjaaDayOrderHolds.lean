/-
  DayOrder: proved of the landed package day, for all arguments; conditions: none but the statement's own.
-/
import Derived.Test.YtiekfcpinljcjaaDayOrderOf
import Derived.Test.YtiekfcpinljcjaaDayPC
namespace Go.Proofs.Ytiekfcpinljcjaa
theorem dayOrder_holds : Rows.DayOrderSaid := dayOrder_of day_contracts
end Go.Proofs.Ytiekfcpinljcjaa
