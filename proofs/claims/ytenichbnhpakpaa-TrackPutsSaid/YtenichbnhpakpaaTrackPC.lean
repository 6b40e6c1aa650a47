/-
  What the laws want of package track, landed. Conditions: none.
-/
import Derived.Test.YtenichbnhpakpaaTrackC
import Derived.Test.YtenichbnhpakpaaTrackPPut
import Derived.Test.YtenichbnhpakpaaTrackPPack
import Derived.Test.YtenichbnhpakpaaTrackPGet
namespace Go.Proofs.Ytenichbnhpakpaa
set_option linter.unusedVariables false
open Go.ChangeShapes Go.WideShapes Go.ChangeAt Go.RowKit

theorem track_contracts : TC where
  pack := fun l n A c w hn hn2 hA => ppack_any l n hn hn2 A c w hA
  unpack := fun b n A c w hn hn2 hA => punpack_any b n hn (by omega) A c w hA
  put := fun d n E p A c w hn hn2 hE hP hA => pput_any d n hn hn2 E hE p hP A c w hA
  get := fun b n E p A c w hn hn2 hE hP hA => pget_any b n hn hn2 E hE p hP A c w hA
end Go.Proofs.Ytenichbnhpakpaa
