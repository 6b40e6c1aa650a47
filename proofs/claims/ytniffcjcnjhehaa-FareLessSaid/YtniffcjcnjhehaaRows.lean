/-
  No cell of these rows narrows 'for every input' (looked for: loops, veiled, ifaces, maps, wideKeys, modest, calm, conditions, laid).
  DERIVED. THE GIVEN ROWS OF THIS SEAT. 6 by the template 'for every input the law returns true; each argument reads behind the call as it read before'; 0 by the template 'total and deterministic' (their statements: YtniffcjcnjhehaaTotals.lean).
  GIVEN WITH THE SEED: the statements are not yours to turn. If you find one false, say at which input.
  Laid BY PROGRAM, IN A SANDBOX (cutbox-rows.mjs): the forced cells as the released guide's own fill.sh prints them over the translation 1c029f467322b6aa… (all of the seat's roots in one cut). By AI agents, Wed Nov 11 2026. No macro, syntax, notation, axiom, sorry.
-/
import Derived.Test.YtniffcjcnjhehaaChecked
import GoSem.Claim
import GoSem.ClaimJoined
import GoSem.ClaimMapViews
import Derived.JoinedTies
import Derived.KernelRfl
namespace Go.Proofs.Ytniffcjcnjhehaa
/- THE CELL 'sum', in the pinned program and in every row, IS THE sha256 OF THE DUMP (.gsa) THAT YtniffcjcnjhehaaProg.lean LOADS. Nothing in Lean hashes anything: it is a label: what it is worth is what the hold of that sum in a sandbox is worth. -/
noncomputable def Try.pinned : Pinned := { name := "ytniffcjcnjhehaa", sum := "1c029f467322b6aaa444b3035c4ccf56f2eaa2f30d0b114cc7d2013b8622287e", checked := Try.checked }
namespace Rows
def none {H : Type} : Left H := { results := [], args := [] }

/-- 'gatelinelaw08.FareCuts': WHATEVER THE INPUT: true; the input reads as it did. -/
def fareCutsSpec : ChangeSpec := { name := "fareCuts", fn := fun _ => fun
  | [d1, d2, d3] => { results := [.lit (.bool true)], args := [d1, d2, d3] }
  | _ => none }
def fareCutsRow : OpenClaim := { program := "ytniffcjcnjhehaa", sum := "1c029f467322b6aaa444b3035c4ccf56f2eaa2f30d0b114cc7d2013b8622287e", func := "gateline/gatelinelaw08.FareCuts", spec := "fareCuts", unfollowed := true, recurses := true, apart := false }
def FareCutsSaid : Prop := fareCutsRow.holds Try.pinned (OpenSpec.ofChange fareCutsSpec)

/-- ITS FALSE NEIGHBOUR: 'it returns false'. Refute it at one input. -/
def fareCutsWrong : ChangeSpec := { name := "fareCuts", fn := fun _ => fun
  | [d1, d2, d3] => { results := [.lit (.bool false)], args := [d1, d2, d3] }
  | _ => none }
def FareCutsWrongFalsely : Prop := fareCutsRow.holds Try.pinned (OpenSpec.ofChange fareCutsWrong)

/-- 'gatelinelaw08.FareSingles': WHATEVER THE INPUT: true; the input reads as it did. -/
def fareSinglesSpec : ChangeSpec := { name := "fareSingles", fn := fun _ => fun
  | [d1, d2, d3, d4] => { results := [.lit (.bool true)], args := [d1, d2, d3, d4] }
  | _ => none }
def fareSinglesRow : OpenClaim := { program := "ytniffcjcnjhehaa", sum := "1c029f467322b6aaa444b3035c4ccf56f2eaa2f30d0b114cc7d2013b8622287e", func := "gateline/gatelinelaw08.FareSingles", spec := "fareSingles", unfollowed := true, recurses := true, apart := false }
def FareSinglesSaid : Prop := fareSinglesRow.holds Try.pinned (OpenSpec.ofChange fareSinglesSpec)

/-- ITS FALSE NEIGHBOUR: 'it returns false'. Refute it at one input. -/
def fareSinglesWrong : ChangeSpec := { name := "fareSingles", fn := fun _ => fun
  | [d1, d2, d3, d4] => { results := [.lit (.bool false)], args := [d1, d2, d3, d4] }
  | _ => none }
def FareSinglesWrongFalsely : Prop := fareSinglesRow.holds Try.pinned (OpenSpec.ofChange fareSinglesWrong)

/-- 'gatelinelaw08.FareBacks': WHATEVER THE INPUT: true; the input reads as it did. -/
def fareBacksSpec : ChangeSpec := { name := "fareBacks", fn := fun _ => fun
  | [d1, d2, d3] => { results := [.lit (.bool true)], args := [d1, d2, d3] }
  | _ => none }
def fareBacksRow : OpenClaim := { program := "ytniffcjcnjhehaa", sum := "1c029f467322b6aaa444b3035c4ccf56f2eaa2f30d0b114cc7d2013b8622287e", func := "gateline/gatelinelaw08.FareBacks", spec := "fareBacks", unfollowed := true, recurses := true, apart := false }
def FareBacksSaid : Prop := fareBacksRow.holds Try.pinned (OpenSpec.ofChange fareBacksSpec)

/-- ITS FALSE NEIGHBOUR: 'it returns false'. Refute it at one input. -/
def fareBacksWrong : ChangeSpec := { name := "fareBacks", fn := fun _ => fun
  | [d1, d2, d3] => { results := [.lit (.bool false)], args := [d1, d2, d3] }
  | _ => none }
def FareBacksWrongFalsely : Prop := fareBacksRow.holds Try.pinned (OpenSpec.ofChange fareBacksWrong)

/-- 'gatelinelaw08.FareOrder': WHATEVER THE INPUT: true; the input reads as it did. -/
def fareOrderSpec : ChangeSpec := { name := "fareOrder", fn := fun _ => fun
  | [d1, d2, d3, d4] => { results := [.lit (.bool true)], args := [d1, d2, d3, d4] }
  | _ => none }
def fareOrderRow : OpenClaim := { program := "ytniffcjcnjhehaa", sum := "1c029f467322b6aaa444b3035c4ccf56f2eaa2f30d0b114cc7d2013b8622287e", func := "gateline/gatelinelaw08.FareOrder", spec := "fareOrder", unfollowed := true, recurses := true, apart := false }
def FareOrderSaid : Prop := fareOrderRow.holds Try.pinned (OpenSpec.ofChange fareOrderSpec)

/-- ITS FALSE NEIGHBOUR: 'it returns false'. Refute it at one input. -/
def fareOrderWrong : ChangeSpec := { name := "fareOrder", fn := fun _ => fun
  | [d1, d2, d3, d4] => { results := [.lit (.bool false)], args := [d1, d2, d3, d4] }
  | _ => none }
def FareOrderWrongFalsely : Prop := fareOrderRow.holds Try.pinned (OpenSpec.ofChange fareOrderWrong)

/-- 'gatelinelaw08.FareLess': WHATEVER THE INPUT: true; the input reads as it did. -/
def fareLessSpec : ChangeSpec := { name := "fareLess", fn := fun _ => fun
  | [d1, d2, d3] => { results := [.lit (.bool true)], args := [d1, d2, d3] }
  | _ => none }
def fareLessRow : OpenClaim := { program := "ytniffcjcnjhehaa", sum := "1c029f467322b6aaa444b3035c4ccf56f2eaa2f30d0b114cc7d2013b8622287e", func := "gateline/gatelinelaw08.FareLess", spec := "fareLess", unfollowed := true, recurses := true, apart := false }
def FareLessSaid : Prop := fareLessRow.holds Try.pinned (OpenSpec.ofChange fareLessSpec)

/-- ITS FALSE NEIGHBOUR: 'it returns false'. Refute it at one input. -/
def fareLessWrong : ChangeSpec := { name := "fareLess", fn := fun _ => fun
  | [d1, d2, d3] => { results := [.lit (.bool false)], args := [d1, d2, d3] }
  | _ => none }
def FareLessWrongFalsely : Prop := fareLessRow.holds Try.pinned (OpenSpec.ofChange fareLessWrong)

/-- 'gatelinelaw08.FareFar': WHATEVER THE INPUT: true; the input reads as it did. -/
def fareFarSpec : ChangeSpec := { name := "fareFar", fn := fun _ => fun
  | [d1, d2, d3, d4, d5, d6] => { results := [.lit (.bool true)], args := [d1, d2, d3, d4, d5, d6] }
  | _ => none }
def fareFarRow : OpenClaim := { program := "ytniffcjcnjhehaa", sum := "1c029f467322b6aaa444b3035c4ccf56f2eaa2f30d0b114cc7d2013b8622287e", func := "gateline/gatelinelaw08.FareFar", spec := "fareFar", unfollowed := true, recurses := true, apart := false }
def FareFarSaid : Prop := fareFarRow.holds Try.pinned (OpenSpec.ofChange fareFarSpec)

/-- ITS FALSE NEIGHBOUR: 'it returns false'. Refute it at one input. -/
def fareFarWrong : ChangeSpec := { name := "fareFar", fn := fun _ => fun
  | [d1, d2, d3, d4, d5, d6] => { results := [.lit (.bool false)], args := [d1, d2, d3, d4, d5, d6] }
  | _ => none }
def FareFarWrongFalsely : Prop := fareFarRow.holds Try.pinned (OpenSpec.ofChange fareFarWrong)

/- THE SECOND FORM. 'bulk': how many values and letters a reading holds, each counted each time it is reached (what is shared counts as often as it is met; a slice's spare places count too). A statement '..UptoSaid' is the law's where the arguments, and the package variables that the reading takes, are together of bulk at most 1048576: NARROWER than '..Said'. Prove '..Said' where nothing that the law and all that it calls make is longer than what came in: it says more and counts as full. Else prove '..UptoSaid'. A law counts once. -/
mutual
def uptoBulk {H : Type} : DataW H → Nat
  | .lit (.string bytes) => bytes.length + 1
  | .lit _ => 1
  | .nil => 1
  | .ptr d => uptoBulk d + 1
  | .slice elems spare => uptoBulkAll elems + uptoBulkAll spare + 1
  | .agg parts => uptoBulkAll parts + 1
  | .iface _ d => uptoBulk d + 1
  | .map entries => uptoBulkEntries entries + 1
  | .held _ => 1
def uptoBulkAll {H : Type} : List (DataW H) → Nat
  | [] => 0
  | d :: r => uptoBulk d + uptoBulkAll r
def uptoBulkEntries {H : Type} : List (Lit × DataW H) → Nat
  | [] => 0
  | x :: r => uptoBulkEntry x + uptoBulkEntries r
def uptoBulkEntry {H : Type} : Lit × DataW H → Nat
  | (.string bytes, d) => bytes.length + uptoBulk d + 1
  | (_, d) => uptoBulk d + 1
 end
def uptoSmall : (H : Type) → List (DataW H) → Bool := fun _ ds => decide (uptoBulkAll ds ≤ 1048576)
def OpenSpec.upto (s : _root_.Go.ChangeSpec) : _root_.Go.OpenSpec := { _root_.Go.OpenSpec.ofChange s with cond := some uptoSmall }

/-- 'gatelinelaw08.FareCuts', WHERE WHAT IT READS IS OF BULK AT MOST 1048576: true; the input reads as it did. -/
def fareCutsUptoRow : OpenClaim := { program := "ytniffcjcnjhehaa", sum := "1c029f467322b6aaa444b3035c4ccf56f2eaa2f30d0b114cc7d2013b8622287e", func := "gateline/gatelinelaw08.FareCuts", spec := "fareCuts", unfollowed := true, recurses := true, apart := false, narrowed := true }
def FareCutsUptoSaid : Prop := fareCutsUptoRow.holds Try.pinned (OpenSpec.upto fareCutsSpec)

/-- 'gatelinelaw08.FareSingles', WHERE WHAT IT READS IS OF BULK AT MOST 1048576: true; the input reads as it did. -/
def fareSinglesUptoRow : OpenClaim := { program := "ytniffcjcnjhehaa", sum := "1c029f467322b6aaa444b3035c4ccf56f2eaa2f30d0b114cc7d2013b8622287e", func := "gateline/gatelinelaw08.FareSingles", spec := "fareSingles", unfollowed := true, recurses := true, apart := false, narrowed := true }
def FareSinglesUptoSaid : Prop := fareSinglesUptoRow.holds Try.pinned (OpenSpec.upto fareSinglesSpec)

/-- 'gatelinelaw08.FareBacks', WHERE WHAT IT READS IS OF BULK AT MOST 1048576: true; the input reads as it did. -/
def fareBacksUptoRow : OpenClaim := { program := "ytniffcjcnjhehaa", sum := "1c029f467322b6aaa444b3035c4ccf56f2eaa2f30d0b114cc7d2013b8622287e", func := "gateline/gatelinelaw08.FareBacks", spec := "fareBacks", unfollowed := true, recurses := true, apart := false, narrowed := true }
def FareBacksUptoSaid : Prop := fareBacksUptoRow.holds Try.pinned (OpenSpec.upto fareBacksSpec)

/-- 'gatelinelaw08.FareOrder', WHERE WHAT IT READS IS OF BULK AT MOST 1048576: true; the input reads as it did. -/
def fareOrderUptoRow : OpenClaim := { program := "ytniffcjcnjhehaa", sum := "1c029f467322b6aaa444b3035c4ccf56f2eaa2f30d0b114cc7d2013b8622287e", func := "gateline/gatelinelaw08.FareOrder", spec := "fareOrder", unfollowed := true, recurses := true, apart := false, narrowed := true }
def FareOrderUptoSaid : Prop := fareOrderUptoRow.holds Try.pinned (OpenSpec.upto fareOrderSpec)

/-- 'gatelinelaw08.FareLess', WHERE WHAT IT READS IS OF BULK AT MOST 1048576: true; the input reads as it did. -/
def fareLessUptoRow : OpenClaim := { program := "ytniffcjcnjhehaa", sum := "1c029f467322b6aaa444b3035c4ccf56f2eaa2f30d0b114cc7d2013b8622287e", func := "gateline/gatelinelaw08.FareLess", spec := "fareLess", unfollowed := true, recurses := true, apart := false, narrowed := true }
def FareLessUptoSaid : Prop := fareLessUptoRow.holds Try.pinned (OpenSpec.upto fareLessSpec)

/-- 'gatelinelaw08.FareFar', WHERE WHAT IT READS IS OF BULK AT MOST 1048576: true; the input reads as it did. -/
def fareFarUptoRow : OpenClaim := { program := "ytniffcjcnjhehaa", sum := "1c029f467322b6aaa444b3035c4ccf56f2eaa2f30d0b114cc7d2013b8622287e", func := "gateline/gatelinelaw08.FareFar", spec := "fareFar", unfollowed := true, recurses := true, apart := false, narrowed := true }
def FareFarUptoSaid : Prop := fareFarUptoRow.holds Try.pinned (OpenSpec.upto fareFarSpec)

end Rows
end Go.Proofs.Ytniffcjcnjhehaa
