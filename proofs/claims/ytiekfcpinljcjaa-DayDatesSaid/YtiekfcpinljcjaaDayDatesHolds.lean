/-
  DayDates: proved of the landed package day, for all arguments; conditions: none but the statement's own.
-/
import Derived.Test.YtiekfcpinljcjaaDayDatesOf
import Derived.Test.YtiekfcpinljcjaaDayPC
namespace Go.Proofs.Ytiekfcpinljcjaa
theorem dayDates_holds : Rows.DayDatesSaid := dayDates_of day_contracts
end Go.Proofs.Ytiekfcpinljcjaa
