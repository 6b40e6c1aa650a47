/-
  No cell of these rows narrows 'for every input' (looked for: loops, veiled, ifaces, maps, wideKeys, modest, calm, conditions, laid).
  DERIVED. THE GIVEN ROWS OF THIS SEAT. 5 by the template 'for every input the law returns true; each argument reads behind the call as it read before'; 0 by the template 'total and deterministic' (their statements: YtekgoleadblhhaaTotals.lean).
  GIVEN WITH THE SEED: the statements are not yours to turn. If you find one false, say at which input.
  Laid BY PROGRAM, IN A SANDBOX (cutbox-rows.mjs): the forced cells as the released guide's own fill.sh prints them over the translation 95c7110e2a00409d… (all of the seat's roots in one cut). By AI agents, Wed Nov 11 2026. No macro, syntax, notation, axiom, sorry.
-/
import Derived.Test.YtekgoleadblhhaaChecked
import GoSem.Claim
import GoSem.ClaimJoined
import GoSem.ClaimMapViews
import Derived.JoinedTies
import Derived.KernelRfl
namespace Go.Proofs.Ytekgoleadblhhaa
/- THE CELL 'sum', in the pinned program and in every row, IS THE sha256 OF THE DUMP (.gsa) THAT YtekgoleadblhhaaProg.lean LOADS. Nothing in Lean hashes anything: it is a label: what it is worth is what the hold of that sum in a sandbox is worth. -/
noncomputable def Try.pinned : Pinned := { name := "ytekgoleadblhhaa", sum := "95c7110e2a00409dc6f276a86fa131ed614b66a100c48b8eb66b004d29bd7543", checked := Try.checked }
namespace Rows
def none {H : Type} : Left H := { results := [], args := [] }

/-- 'gatelinelaw12.BcdNumbers': WHATEVER THE INPUT: true; the input reads as it did. -/
def bcdNumbersSpec : ChangeSpec := { name := "bcdNumbers", fn := fun _ => fun
  | [d1, d2, d3] => { results := [.lit (.bool true)], args := [d1, d2, d3] }
  | _ => none }
def bcdNumbersRow : OpenClaim := { program := "ytekgoleadblhhaa", sum := "95c7110e2a00409dc6f276a86fa131ed614b66a100c48b8eb66b004d29bd7543", func := "gateline/gatelinelaw12.BcdNumbers", spec := "bcdNumbers", unfollowed := true, recurses := true, apart := false }
def BcdNumbersSaid : Prop := bcdNumbersRow.holds Try.pinned (OpenSpec.ofChange bcdNumbersSpec)

/-- ITS FALSE NEIGHBOUR: 'it returns false'. Refute it at one input. -/
def bcdNumbersWrong : ChangeSpec := { name := "bcdNumbers", fn := fun _ => fun
  | [d1, d2, d3] => { results := [.lit (.bool false)], args := [d1, d2, d3] }
  | _ => none }
def BcdNumbersWrongFalsely : Prop := bcdNumbersRow.holds Try.pinned (OpenSpec.ofChange bcdNumbersWrong)

/-- 'gatelinelaw12.BcdJoins': WHATEVER THE INPUT: true; the input reads as it did. -/
def bcdJoinsSpec : ChangeSpec := { name := "bcdJoins", fn := fun _ => fun
  | [d1, d2, d3] => { results := [.lit (.bool true)], args := [d1, d2, d3] }
  | _ => none }
def bcdJoinsRow : OpenClaim := { program := "ytekgoleadblhhaa", sum := "95c7110e2a00409dc6f276a86fa131ed614b66a100c48b8eb66b004d29bd7543", func := "gateline/gatelinelaw12.BcdJoins", spec := "bcdJoins", unfollowed := true, recurses := true, apart := false }
def BcdJoinsSaid : Prop := bcdJoinsRow.holds Try.pinned (OpenSpec.ofChange bcdJoinsSpec)

/-- ITS FALSE NEIGHBOUR: 'it returns false'. Refute it at one input. -/
def bcdJoinsWrong : ChangeSpec := { name := "bcdJoins", fn := fun _ => fun
  | [d1, d2, d3] => { results := [.lit (.bool false)], args := [d1, d2, d3] }
  | _ => none }
def BcdJoinsWrongFalsely : Prop := bcdJoinsRow.holds Try.pinned (OpenSpec.ofChange bcdJoinsWrong)

/-- 'gatelinelaw12.BcdBack': WHATEVER THE INPUT: true; the input reads as it did. -/
def bcdBackSpec : ChangeSpec := { name := "bcdBack", fn := fun _ => fun
  | [d1, d2, d3] => { results := [.lit (.bool true)], args := [d1, d2, d3] }
  | _ => none }
def bcdBackRow : OpenClaim := { program := "ytekgoleadblhhaa", sum := "95c7110e2a00409dc6f276a86fa131ed614b66a100c48b8eb66b004d29bd7543", func := "gateline/gatelinelaw12.BcdBack", spec := "bcdBack", unfollowed := true, recurses := true, apart := false }
def BcdBackSaid : Prop := bcdBackRow.holds Try.pinned (OpenSpec.ofChange bcdBackSpec)

/-- ITS FALSE NEIGHBOUR: 'it returns false'. Refute it at one input. -/
def bcdBackWrong : ChangeSpec := { name := "bcdBack", fn := fun _ => fun
  | [d1, d2, d3] => { results := [.lit (.bool false)], args := [d1, d2, d3] }
  | _ => none }
def BcdBackWrongFalsely : Prop := bcdBackRow.holds Try.pinned (OpenSpec.ofChange bcdBackWrong)

/-- 'gatelinelaw12.BcdSplits': WHATEVER THE INPUT: true; the input reads as it did. -/
def bcdSplitsSpec : ChangeSpec := { name := "bcdSplits", fn := fun _ => fun
  | [d1, d2, d3] => { results := [.lit (.bool true)], args := [d1, d2, d3] }
  | _ => none }
def bcdSplitsRow : OpenClaim := { program := "ytekgoleadblhhaa", sum := "95c7110e2a00409dc6f276a86fa131ed614b66a100c48b8eb66b004d29bd7543", func := "gateline/gatelinelaw12.BcdSplits", spec := "bcdSplits", unfollowed := true, recurses := true, apart := false }
def BcdSplitsSaid : Prop := bcdSplitsRow.holds Try.pinned (OpenSpec.ofChange bcdSplitsSpec)

/-- ITS FALSE NEIGHBOUR: 'it returns false'. Refute it at one input. -/
def bcdSplitsWrong : ChangeSpec := { name := "bcdSplits", fn := fun _ => fun
  | [d1, d2, d3] => { results := [.lit (.bool false)], args := [d1, d2, d3] }
  | _ => none }
def BcdSplitsWrongFalsely : Prop := bcdSplitsRow.holds Try.pinned (OpenSpec.ofChange bcdSplitsWrong)

/-- 'gatelinelaw12.BcdOrder': WHATEVER THE INPUT: true; the input reads as it did. -/
def bcdOrderSpec : ChangeSpec := { name := "bcdOrder", fn := fun _ => fun
  | [d1, d2, d3] => { results := [.lit (.bool true)], args := [d1, d2, d3] }
  | _ => none }
def bcdOrderRow : OpenClaim := { program := "ytekgoleadblhhaa", sum := "95c7110e2a00409dc6f276a86fa131ed614b66a100c48b8eb66b004d29bd7543", func := "gateline/gatelinelaw12.BcdOrder", spec := "bcdOrder", unfollowed := true, recurses := true, apart := false }
def BcdOrderSaid : Prop := bcdOrderRow.holds Try.pinned (OpenSpec.ofChange bcdOrderSpec)

/-- ITS FALSE NEIGHBOUR: 'it returns false'. Refute it at one input. -/
def bcdOrderWrong : ChangeSpec := { name := "bcdOrder", fn := fun _ => fun
  | [d1, d2, d3] => { results := [.lit (.bool false)], args := [d1, d2, d3] }
  | _ => none }
def BcdOrderWrongFalsely : Prop := bcdOrderRow.holds Try.pinned (OpenSpec.ofChange bcdOrderWrong)

/- THE SECOND FORM. 'bulk': how many values and letters a reading holds, each counted each time it is reached (what is shared counts as often as it is met; a slice's spare places count too). A statement '..UptoSaid' is the law's where the arguments, and the package variables that the reading takes, are together of bulk at most 1048576: NARROWER than '..Said'. Prove '..Said' where nothing that the law and all that it calls make is longer than what came in: it says more and counts as full. Else prove '..UptoSaid'. A law counts once. -/
mutual
def uptoBulk {H : Type} : DataW H → Nat
  | .lit (.string bytes) => bytes.length + 1
  | .lit _ => 1
  | .nil => 1
  | .ptr d => uptoBulk d + 1
  | .slice elems spare => uptoBulkAll elems + uptoBulkAll spare + 1
  | .agg parts => uptoBulkAll parts + 1
  | .iface _ d => uptoBulk d + 1
  | .map entries => uptoBulkEntries entries + 1
  | .held _ => 1
def uptoBulkAll {H : Type} : List (DataW H) → Nat
  | [] => 0
  | d :: r => uptoBulk d + uptoBulkAll r
def uptoBulkEntries {H : Type} : List (Lit × DataW H) → Nat
  | [] => 0
  | x :: r => uptoBulkEntry x + uptoBulkEntries r
def uptoBulkEntry {H : Type} : Lit × DataW H → Nat
  | (.string bytes, d) => bytes.length + uptoBulk d + 1
  | (_, d) => uptoBulk d + 1
 end
def uptoSmall : (H : Type) → List (DataW H) → Bool := fun _ ds => decide (uptoBulkAll ds ≤ 1048576)
def OpenSpec.upto (s : _root_.Go.ChangeSpec) : _root_.Go.OpenSpec := { _root_.Go.OpenSpec.ofChange s with cond := some uptoSmall }

/-- 'gatelinelaw12.BcdNumbers', WHERE WHAT IT READS IS OF BULK AT MOST 1048576: true; the input reads as it did. -/
def bcdNumbersUptoRow : OpenClaim := { program := "ytekgoleadblhhaa", sum := "95c7110e2a00409dc6f276a86fa131ed614b66a100c48b8eb66b004d29bd7543", func := "gateline/gatelinelaw12.BcdNumbers", spec := "bcdNumbers", unfollowed := true, recurses := true, apart := false, narrowed := true }
def BcdNumbersUptoSaid : Prop := bcdNumbersUptoRow.holds Try.pinned (OpenSpec.upto bcdNumbersSpec)

/-- 'gatelinelaw12.BcdJoins', WHERE WHAT IT READS IS OF BULK AT MOST 1048576: true; the input reads as it did. -/
def bcdJoinsUptoRow : OpenClaim := { program := "ytekgoleadblhhaa", sum := "95c7110e2a00409dc6f276a86fa131ed614b66a100c48b8eb66b004d29bd7543", func := "gateline/gatelinelaw12.BcdJoins", spec := "bcdJoins", unfollowed := true, recurses := true, apart := false, narrowed := true }
def BcdJoinsUptoSaid : Prop := bcdJoinsUptoRow.holds Try.pinned (OpenSpec.upto bcdJoinsSpec)

/-- 'gatelinelaw12.BcdBack', WHERE WHAT IT READS IS OF BULK AT MOST 1048576: true; the input reads as it did. -/
def bcdBackUptoRow : OpenClaim := { program := "ytekgoleadblhhaa", sum := "95c7110e2a00409dc6f276a86fa131ed614b66a100c48b8eb66b004d29bd7543", func := "gateline/gatelinelaw12.BcdBack", spec := "bcdBack", unfollowed := true, recurses := true, apart := false, narrowed := true }
def BcdBackUptoSaid : Prop := bcdBackUptoRow.holds Try.pinned (OpenSpec.upto bcdBackSpec)

/-- 'gatelinelaw12.BcdSplits', WHERE WHAT IT READS IS OF BULK AT MOST 1048576: true; the input reads as it did. -/
def bcdSplitsUptoRow : OpenClaim := { program := "ytekgoleadblhhaa", sum := "95c7110e2a00409dc6f276a86fa131ed614b66a100c48b8eb66b004d29bd7543", func := "gateline/gatelinelaw12.BcdSplits", spec := "bcdSplits", unfollowed := true, recurses := true, apart := false, narrowed := true }
def BcdSplitsUptoSaid : Prop := bcdSplitsUptoRow.holds Try.pinned (OpenSpec.upto bcdSplitsSpec)

/-- 'gatelinelaw12.BcdOrder', WHERE WHAT IT READS IS OF BULK AT MOST 1048576: true; the input reads as it did. -/
def bcdOrderUptoRow : OpenClaim := { program := "ytekgoleadblhhaa", sum := "95c7110e2a00409dc6f276a86fa131ed614b66a100c48b8eb66b004d29bd7543", func := "gateline/gatelinelaw12.BcdOrder", spec := "bcdOrder", unfollowed := true, recurses := true, apart := false, narrowed := true }
def BcdOrderUptoSaid : Prop := bcdOrderUptoRow.holds Try.pinned (OpenSpec.upto bcdOrderSpec)

end Rows
end Go.Proofs.Ytekgoleadblhhaa
