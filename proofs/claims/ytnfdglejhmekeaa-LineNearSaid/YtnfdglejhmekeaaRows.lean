/-
  No cell of these rows narrows 'for every input' (looked for: loops, veiled, ifaces, maps, wideKeys, modest, calm, conditions, laid).
  DERIVED. THE GIVEN ROWS OF THIS SEAT. 5 by the template 'for every input the law returns true; each argument reads behind the call as it read before'; 0 by the template 'total and deterministic' (their statements: YtnfdglejhmekeaaTotals.lean).
  GIVEN WITH THE SEED: the statements are not yours to turn. If you find one false, say at which input.
  Laid BY PROGRAM, IN A SANDBOX (cutbox-rows.mjs): the forced cells as the released guide's own fill.sh prints them over the translation cb3bc83a588ba3bc… (all of the seat's roots in one cut). By AI agents, Wed Nov 11 2026. No macro, syntax, notation, axiom, sorry.
-/
import Derived.Test.YtnfdglejhmekeaaChecked
import GoSem.Claim
import GoSem.ClaimJoined
import GoSem.ClaimMapViews
import Derived.JoinedTies
import Derived.KernelRfl
namespace Go.Proofs.Ytnfdglejhmekeaa
/- THE CELL 'sum', in the pinned program and in every row, IS THE sha256 OF THE DUMP (.gsa) THAT YtnfdglejhmekeaaProg.lean LOADS. Nothing in Lean hashes anything: it is a label: what it is worth is what the hold of that sum in a sandbox is worth. -/
noncomputable def Try.pinned : Pinned := { name := "ytnfdglejhmekeaa", sum := "cb3bc83a588ba3bc57248c48fc89a947f022581c8bd33f5b7892ab3d6d6fe962", checked := Try.checked }
namespace Rows
def none {H : Type} : Left H := { results := [], args := [] }

/-- 'gatelinelaw07.LineTells': WHATEVER THE INPUT: true; the input reads as it did. -/
def lineTellsSpec : ChangeSpec := { name := "lineTells", fn := fun _ => fun
  | [d1, d2, d3] => { results := [.lit (.bool true)], args := [d1, d2, d3] }
  | _ => none }
def lineTellsRow : OpenClaim := { program := "ytnfdglejhmekeaa", sum := "cb3bc83a588ba3bc57248c48fc89a947f022581c8bd33f5b7892ab3d6d6fe962", func := "gateline/gatelinelaw07.LineTells", spec := "lineTells", unfollowed := true, recurses := true, apart := false }
def LineTellsSaid : Prop := lineTellsRow.holds Try.pinned (OpenSpec.ofChange lineTellsSpec)

/-- ITS FALSE NEIGHBOUR: 'it returns false'. Refute it at one input. -/
def lineTellsWrong : ChangeSpec := { name := "lineTells", fn := fun _ => fun
  | [d1, d2, d3] => { results := [.lit (.bool false)], args := [d1, d2, d3] }
  | _ => none }
def LineTellsWrongFalsely : Prop := lineTellsRow.holds Try.pinned (OpenSpec.ofChange lineTellsWrong)

/-- 'gatelinelaw07.LineZones': WHATEVER THE INPUT: true; the input reads as it did. -/
def lineZonesSpec : ChangeSpec := { name := "lineZones", fn := fun _ => fun
  | [d1, d2] => { results := [.lit (.bool true)], args := [d1, d2] }
  | _ => none }
def lineZonesRow : OpenClaim := { program := "ytnfdglejhmekeaa", sum := "cb3bc83a588ba3bc57248c48fc89a947f022581c8bd33f5b7892ab3d6d6fe962", func := "gateline/gatelinelaw07.LineZones", spec := "lineZones", unfollowed := true, recurses := true, apart := false }
def LineZonesSaid : Prop := lineZonesRow.holds Try.pinned (OpenSpec.ofChange lineZonesSpec)

/-- ITS FALSE NEIGHBOUR: 'it returns false'. Refute it at one input. -/
def lineZonesWrong : ChangeSpec := { name := "lineZones", fn := fun _ => fun
  | [d1, d2] => { results := [.lit (.bool false)], args := [d1, d2] }
  | _ => none }
def LineZonesWrongFalsely : Prop := lineZonesRow.holds Try.pinned (OpenSpec.ofChange lineZonesWrong)

/-- 'gatelinelaw07.LineWays': WHATEVER THE INPUT: true; the input reads as it did. -/
def lineWaysSpec : ChangeSpec := { name := "lineWays", fn := fun _ => fun
  | [d1, d2, d3] => { results := [.lit (.bool true)], args := [d1, d2, d3] }
  | _ => none }
def lineWaysRow : OpenClaim := { program := "ytnfdglejhmekeaa", sum := "cb3bc83a588ba3bc57248c48fc89a947f022581c8bd33f5b7892ab3d6d6fe962", func := "gateline/gatelinelaw07.LineWays", spec := "lineWays", unfollowed := true, recurses := true, apart := false }
def LineWaysSaid : Prop := lineWaysRow.holds Try.pinned (OpenSpec.ofChange lineWaysSpec)

/-- ITS FALSE NEIGHBOUR: 'it returns false'. Refute it at one input. -/
def lineWaysWrong : ChangeSpec := { name := "lineWays", fn := fun _ => fun
  | [d1, d2, d3] => { results := [.lit (.bool false)], args := [d1, d2, d3] }
  | _ => none }
def LineWaysWrongFalsely : Prop := lineWaysRow.holds Try.pinned (OpenSpec.ofChange lineWaysWrong)

/-- 'gatelinelaw07.LineStations': WHATEVER THE INPUT: true; the input reads as it did. -/
def lineStationsSpec : ChangeSpec := { name := "lineStations", fn := fun _ => fun
  | [d1, d2, d3] => { results := [.lit (.bool true)], args := [d1, d2, d3] }
  | _ => none }
def lineStationsRow : OpenClaim := { program := "ytnfdglejhmekeaa", sum := "cb3bc83a588ba3bc57248c48fc89a947f022581c8bd33f5b7892ab3d6d6fe962", func := "gateline/gatelinelaw07.LineStations", spec := "lineStations", unfollowed := true, recurses := true, apart := false }
def LineStationsSaid : Prop := lineStationsRow.holds Try.pinned (OpenSpec.ofChange lineStationsSpec)

/-- ITS FALSE NEIGHBOUR: 'it returns false'. Refute it at one input. -/
def lineStationsWrong : ChangeSpec := { name := "lineStations", fn := fun _ => fun
  | [d1, d2, d3] => { results := [.lit (.bool false)], args := [d1, d2, d3] }
  | _ => none }
def LineStationsWrongFalsely : Prop := lineStationsRow.holds Try.pinned (OpenSpec.ofChange lineStationsWrong)

/-- 'gatelinelaw07.LineNear': WHATEVER THE INPUT: true; the input reads as it did. -/
def lineNearSpec : ChangeSpec := { name := "lineNear", fn := fun _ => fun
  | [d] => { results := [.lit (.bool true)], args := [d] }
  | _ => none }
def lineNearRow : OpenClaim := { program := "ytnfdglejhmekeaa", sum := "cb3bc83a588ba3bc57248c48fc89a947f022581c8bd33f5b7892ab3d6d6fe962", func := "gateline/gatelinelaw07.LineNear", spec := "lineNear", unfollowed := true, recurses := true, apart := false }
def LineNearSaid : Prop := lineNearRow.holds Try.pinned (OpenSpec.ofChange lineNearSpec)

/-- ITS FALSE NEIGHBOUR: 'it returns false'. Refute it at one input. -/
def lineNearWrong : ChangeSpec := { name := "lineNear", fn := fun _ => fun
  | [d] => { results := [.lit (.bool false)], args := [d] }
  | _ => none }
def LineNearWrongFalsely : Prop := lineNearRow.holds Try.pinned (OpenSpec.ofChange lineNearWrong)

/- THE SECOND FORM. 'bulk': how many values and letters a reading holds, each counted each time it is reached (what is shared counts as often as it is met; a slice's spare places count too). A statement '..UptoSaid' is the law's where the arguments, and the package variables that the reading takes, are together of bulk at most 1048576: NARROWER than '..Said'. Prove '..Said' where nothing that the law and all that it calls make is longer than what came in: it says more and counts as full. Else prove '..UptoSaid'. A law counts once. -/
mutual
def uptoBulk {H : Type} : DataW H → Nat
  | .lit (.string bytes) => bytes.length + 1
  | .lit _ => 1
  | .nil => 1
  | .ptr d => uptoBulk d + 1
  | .slice elems spare => uptoBulkAll elems + uptoBulkAll spare + 1
  | .agg parts => uptoBulkAll parts + 1
  | .iface _ d => uptoBulk d + 1
  | .map entries => uptoBulkEntries entries + 1
  | .held _ => 1
def uptoBulkAll {H : Type} : List (DataW H) → Nat
  | [] => 0
  | d :: r => uptoBulk d + uptoBulkAll r
def uptoBulkEntries {H : Type} : List (Lit × DataW H) → Nat
  | [] => 0
  | x :: r => uptoBulkEntry x + uptoBulkEntries r
def uptoBulkEntry {H : Type} : Lit × DataW H → Nat
  | (.string bytes, d) => bytes.length + uptoBulk d + 1
  | (_, d) => uptoBulk d + 1
 end
def uptoSmall : (H : Type) → List (DataW H) → Bool := fun _ ds => decide (uptoBulkAll ds ≤ 1048576)
def OpenSpec.upto (s : _root_.Go.ChangeSpec) : _root_.Go.OpenSpec := { _root_.Go.OpenSpec.ofChange s with cond := some uptoSmall }

/-- 'gatelinelaw07.LineTells', WHERE WHAT IT READS IS OF BULK AT MOST 1048576: true; the input reads as it did. -/
def lineTellsUptoRow : OpenClaim := { program := "ytnfdglejhmekeaa", sum := "cb3bc83a588ba3bc57248c48fc89a947f022581c8bd33f5b7892ab3d6d6fe962", func := "gateline/gatelinelaw07.LineTells", spec := "lineTells", unfollowed := true, recurses := true, apart := false, narrowed := true }
def LineTellsUptoSaid : Prop := lineTellsUptoRow.holds Try.pinned (OpenSpec.upto lineTellsSpec)

/-- 'gatelinelaw07.LineZones', WHERE WHAT IT READS IS OF BULK AT MOST 1048576: true; the input reads as it did. -/
def lineZonesUptoRow : OpenClaim := { program := "ytnfdglejhmekeaa", sum := "cb3bc83a588ba3bc57248c48fc89a947f022581c8bd33f5b7892ab3d6d6fe962", func := "gateline/gatelinelaw07.LineZones", spec := "lineZones", unfollowed := true, recurses := true, apart := false, narrowed := true }
def LineZonesUptoSaid : Prop := lineZonesUptoRow.holds Try.pinned (OpenSpec.upto lineZonesSpec)

/-- 'gatelinelaw07.LineWays', WHERE WHAT IT READS IS OF BULK AT MOST 1048576: true; the input reads as it did. -/
def lineWaysUptoRow : OpenClaim := { program := "ytnfdglejhmekeaa", sum := "cb3bc83a588ba3bc57248c48fc89a947f022581c8bd33f5b7892ab3d6d6fe962", func := "gateline/gatelinelaw07.LineWays", spec := "lineWays", unfollowed := true, recurses := true, apart := false, narrowed := true }
def LineWaysUptoSaid : Prop := lineWaysUptoRow.holds Try.pinned (OpenSpec.upto lineWaysSpec)

/-- 'gatelinelaw07.LineStations', WHERE WHAT IT READS IS OF BULK AT MOST 1048576: true; the input reads as it did. -/
def lineStationsUptoRow : OpenClaim := { program := "ytnfdglejhmekeaa", sum := "cb3bc83a588ba3bc57248c48fc89a947f022581c8bd33f5b7892ab3d6d6fe962", func := "gateline/gatelinelaw07.LineStations", spec := "lineStations", unfollowed := true, recurses := true, apart := false, narrowed := true }
def LineStationsUptoSaid : Prop := lineStationsUptoRow.holds Try.pinned (OpenSpec.upto lineStationsSpec)

/-- 'gatelinelaw07.LineNear', WHERE WHAT IT READS IS OF BULK AT MOST 1048576: true; the input reads as it did. -/
def lineNearUptoRow : OpenClaim := { program := "ytnfdglejhmekeaa", sum := "cb3bc83a588ba3bc57248c48fc89a947f022581c8bd33f5b7892ab3d6d6fe962", func := "gateline/gatelinelaw07.LineNear", spec := "lineNear", unfollowed := true, recurses := true, apart := false, narrowed := true }
def LineNearUptoSaid : Prop := lineNearUptoRow.holds Try.pinned (OpenSpec.upto lineNearSpec)

end Rows
end Go.Proofs.Ytnfdglejhmekeaa
