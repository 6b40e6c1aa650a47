import Derived.Test.YtmdbfogjfbbpjaaGreatDoorMem
set_option linter.unusedVariables false
namespace Go.Proofs.YtmdbfogjfbbpjaaGreatDoor
open Go.ChangeShapes Go.WideShapes Go.ChangeAt Go.RowKit
theorem tS: Tryz.prog.bytesOf 5 =1:=by kernel_rfl
end Go.Proofs.YtmdbfogjfbbpjaaGreatDoor
