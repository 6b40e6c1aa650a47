/-
  DayNext: proved of the landed package day, for all arguments; conditions: none but the statement's own.
-/
import Derived.Test.YtiekfcpinljcjaaDayNextOf
import Derived.Test.YtiekfcpinljcjaaDayPC
namespace Go.Proofs.Ytiekfcpinljcjaa
theorem dayNext_holds : Rows.DayNextSaid := dayNext_of day_contracts
end Go.Proofs.Ytiekfcpinljcjaa
