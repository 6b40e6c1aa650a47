/-
  No cell of these rows narrows 'for every input' (looked for: loops, veiled, ifaces, maps, wideKeys, modest, calm, conditions, laid).
  DERIVED. THE GIVEN ROWS OF THIS SEAT. 5 by the template 'for every input the law returns true; each argument reads behind the call as it read before'; 0 by the template 'total and deterministic' (their statements: YtmedfelkoknadaaTotals.lean).
  GIVEN WITH THE SEED: the statements are not yours to turn. If you find one false, say at which input.
  Laid BY PROGRAM, IN A SANDBOX (cutbox-rows.mjs): the forced cells as the released guide's own fill.sh prints them over the translation d98525af6710cdba… (all of the seat's roots in one cut). By AI agents, Wed Nov 11 2026. No macro, syntax, notation, axiom, sorry.
-/
import Derived.Test.YtmedfelkoknadaaChecked
import GoSem.Claim
import GoSem.ClaimJoined
import GoSem.ClaimMapViews
import Derived.JoinedTies
import Derived.KernelRfl
namespace Go.Proofs.Ytmedfelkoknadaa
/- THE CELL 'sum', in the pinned program and in every row, IS THE sha256 OF THE DUMP (.gsa) THAT YtmedfelkoknadaaProg.lean LOADS. Nothing in Lean hashes anything: it is a label: what it is worth is what the hold of that sum in a sandbox is worth. -/
noncomputable def Try.pinned : Pinned := { name := "ytmedfelkoknadaa", sum := "d98525af6710cdbafb80d2f433fa425f9ca8c9e0deca2cf0c33ea9bcf595203f", checked := Try.checked }
namespace Rows
def none {H : Type} : Left H := { results := [], args := [] }

/-- 'gatelinelaw16.FortyPuts': WHATEVER THE INPUT: true; the input reads as it did. -/
def fortyPutsSpec : ChangeSpec := { name := "fortyPuts", fn := fun _ => fun
  | [d] => { results := [.lit (.bool true)], args := [d] }
  | _ => none }
def fortyPutsRow : OpenClaim := { program := "ytmedfelkoknadaa", sum := "d98525af6710cdbafb80d2f433fa425f9ca8c9e0deca2cf0c33ea9bcf595203f", func := "gateline/gatelinelaw16.FortyPuts", spec := "fortyPuts", unfollowed := true, recurses := true, apart := false }
def FortyPutsSaid : Prop := fortyPutsRow.holds Try.pinned (OpenSpec.ofChange fortyPutsSpec)

/-- ITS FALSE NEIGHBOUR: 'it returns false'. Refute it at one input. -/
def fortyPutsWrong : ChangeSpec := { name := "fortyPuts", fn := fun _ => fun
  | [d] => { results := [.lit (.bool false)], args := [d] }
  | _ => none }
def FortyPutsWrongFalsely : Prop := fortyPutsRow.holds Try.pinned (OpenSpec.ofChange fortyPutsWrong)

/-- 'gatelinelaw16.FortyGets': WHATEVER THE INPUT: true; the input reads as it did. -/
def fortyGetsSpec : ChangeSpec := { name := "fortyGets", fn := fun _ => fun
  | [d] => { results := [.lit (.bool true)], args := [d] }
  | _ => none }
def fortyGetsRow : OpenClaim := { program := "ytmedfelkoknadaa", sum := "d98525af6710cdbafb80d2f433fa425f9ca8c9e0deca2cf0c33ea9bcf595203f", func := "gateline/gatelinelaw16.FortyGets", spec := "fortyGets", unfollowed := true, recurses := true, apart := false }
def FortyGetsSaid : Prop := fortyGetsRow.holds Try.pinned (OpenSpec.ofChange fortyGetsSpec)

/-- ITS FALSE NEIGHBOUR: 'it returns false'. Refute it at one input. -/
def fortyGetsWrong : ChangeSpec := { name := "fortyGets", fn := fun _ => fun
  | [d] => { results := [.lit (.bool false)], args := [d] }
  | _ => none }
def FortyGetsWrongFalsely : Prop := fortyGetsRow.holds Try.pinned (OpenSpec.ofChange fortyGetsWrong)

/-- 'gatelinelaw16.FortyBack': WHATEVER THE INPUT: true; the input reads as it did. -/
def fortyBackSpec : ChangeSpec := { name := "fortyBack", fn := fun _ => fun
  | [d1, d2] => { results := [.lit (.bool true)], args := [d1, d2] }
  | _ => none }
def fortyBackRow : OpenClaim := { program := "ytmedfelkoknadaa", sum := "d98525af6710cdbafb80d2f433fa425f9ca8c9e0deca2cf0c33ea9bcf595203f", func := "gateline/gatelinelaw16.FortyBack", spec := "fortyBack", unfollowed := true, recurses := true, apart := false }
def FortyBackSaid : Prop := fortyBackRow.holds Try.pinned (OpenSpec.ofChange fortyBackSpec)

/-- ITS FALSE NEIGHBOUR: 'it returns false'. Refute it at one input. -/
def fortyBackWrong : ChangeSpec := { name := "fortyBack", fn := fun _ => fun
  | [d1, d2] => { results := [.lit (.bool false)], args := [d1, d2] }
  | _ => none }
def FortyBackWrongFalsely : Prop := fortyBackRow.holds Try.pinned (OpenSpec.ofChange fortyBackWrong)

/-- 'gatelinelaw16.FortyJoins': WHATEVER THE INPUT: true; the input reads as it did. -/
def fortyJoinsSpec : ChangeSpec := { name := "fortyJoins", fn := fun _ => fun
  | [d1, d2] => { results := [.lit (.bool true)], args := [d1, d2] }
  | _ => none }
def fortyJoinsRow : OpenClaim := { program := "ytmedfelkoknadaa", sum := "d98525af6710cdbafb80d2f433fa425f9ca8c9e0deca2cf0c33ea9bcf595203f", func := "gateline/gatelinelaw16.FortyJoins", spec := "fortyJoins", unfollowed := true, recurses := true, apart := false }
def FortyJoinsSaid : Prop := fortyJoinsRow.holds Try.pinned (OpenSpec.ofChange fortyJoinsSpec)

/-- ITS FALSE NEIGHBOUR: 'it returns false'. Refute it at one input. -/
def fortyJoinsWrong : ChangeSpec := { name := "fortyJoins", fn := fun _ => fun
  | [d1, d2] => { results := [.lit (.bool false)], args := [d1, d2] }
  | _ => none }
def FortyJoinsWrongFalsely : Prop := fortyJoinsRow.holds Try.pinned (OpenSpec.ofChange fortyJoinsWrong)

/-- 'gatelinelaw16.FortyUnlike': WHATEVER THE INPUT: true; the input reads as it did. -/
def fortyUnlikeSpec : ChangeSpec := { name := "fortyUnlike", fn := fun _ => fun
  | [d1, d2] => { results := [.lit (.bool true)], args := [d1, d2] }
  | _ => none }
def fortyUnlikeRow : OpenClaim := { program := "ytmedfelkoknadaa", sum := "d98525af6710cdbafb80d2f433fa425f9ca8c9e0deca2cf0c33ea9bcf595203f", func := "gateline/gatelinelaw16.FortyUnlike", spec := "fortyUnlike", unfollowed := true, recurses := true, apart := false }
def FortyUnlikeSaid : Prop := fortyUnlikeRow.holds Try.pinned (OpenSpec.ofChange fortyUnlikeSpec)

/-- ITS FALSE NEIGHBOUR: 'it returns false'. Refute it at one input. -/
def fortyUnlikeWrong : ChangeSpec := { name := "fortyUnlike", fn := fun _ => fun
  | [d1, d2] => { results := [.lit (.bool false)], args := [d1, d2] }
  | _ => none }
def FortyUnlikeWrongFalsely : Prop := fortyUnlikeRow.holds Try.pinned (OpenSpec.ofChange fortyUnlikeWrong)

/- THE SECOND FORM. 'bulk': how many values and letters a reading holds, each counted each time it is reached (what is shared counts as often as it is met; a slice's spare places count too). A statement '..UptoSaid' is the law's where the arguments, and the package variables that the reading takes, are together of bulk at most 1048576: NARROWER than '..Said'. Prove '..Said' where nothing that the law and all that it calls make is longer than what came in: it says more and counts as full. Else prove '..UptoSaid'. A law counts once. -/
mutual
def uptoBulk {H : Type} : DataW H → Nat
  | .lit (.string bytes) => bytes.length + 1
  | .lit _ => 1
  | .nil => 1
  | .ptr d => uptoBulk d + 1
  | .slice elems spare => uptoBulkAll elems + uptoBulkAll spare + 1
  | .agg parts => uptoBulkAll parts + 1
  | .iface _ d => uptoBulk d + 1
  | .map entries => uptoBulkEntries entries + 1
  | .held _ => 1
def uptoBulkAll {H : Type} : List (DataW H) → Nat
  | [] => 0
  | d :: r => uptoBulk d + uptoBulkAll r
def uptoBulkEntries {H : Type} : List (Lit × DataW H) → Nat
  | [] => 0
  | x :: r => uptoBulkEntry x + uptoBulkEntries r
def uptoBulkEntry {H : Type} : Lit × DataW H → Nat
  | (.string bytes, d) => bytes.length + uptoBulk d + 1
  | (_, d) => uptoBulk d + 1
 end
def uptoSmall : (H : Type) → List (DataW H) → Bool := fun _ ds => decide (uptoBulkAll ds ≤ 1048576)
def OpenSpec.upto (s : _root_.Go.ChangeSpec) : _root_.Go.OpenSpec := { _root_.Go.OpenSpec.ofChange s with cond := some uptoSmall }

/-- 'gatelinelaw16.FortyPuts', WHERE WHAT IT READS IS OF BULK AT MOST 1048576: true; the input reads as it did. -/
def fortyPutsUptoRow : OpenClaim := { program := "ytmedfelkoknadaa", sum := "d98525af6710cdbafb80d2f433fa425f9ca8c9e0deca2cf0c33ea9bcf595203f", func := "gateline/gatelinelaw16.FortyPuts", spec := "fortyPuts", unfollowed := true, recurses := true, apart := false, narrowed := true }
def FortyPutsUptoSaid : Prop := fortyPutsUptoRow.holds Try.pinned (OpenSpec.upto fortyPutsSpec)

/-- 'gatelinelaw16.FortyGets', WHERE WHAT IT READS IS OF BULK AT MOST 1048576: true; the input reads as it did. -/
def fortyGetsUptoRow : OpenClaim := { program := "ytmedfelkoknadaa", sum := "d98525af6710cdbafb80d2f433fa425f9ca8c9e0deca2cf0c33ea9bcf595203f", func := "gateline/gatelinelaw16.FortyGets", spec := "fortyGets", unfollowed := true, recurses := true, apart := false, narrowed := true }
def FortyGetsUptoSaid : Prop := fortyGetsUptoRow.holds Try.pinned (OpenSpec.upto fortyGetsSpec)

/-- 'gatelinelaw16.FortyBack', WHERE WHAT IT READS IS OF BULK AT MOST 1048576: true; the input reads as it did. -/
def fortyBackUptoRow : OpenClaim := { program := "ytmedfelkoknadaa", sum := "d98525af6710cdbafb80d2f433fa425f9ca8c9e0deca2cf0c33ea9bcf595203f", func := "gateline/gatelinelaw16.FortyBack", spec := "fortyBack", unfollowed := true, recurses := true, apart := false, narrowed := true }
def FortyBackUptoSaid : Prop := fortyBackUptoRow.holds Try.pinned (OpenSpec.upto fortyBackSpec)

/-- 'gatelinelaw16.FortyJoins', WHERE WHAT IT READS IS OF BULK AT MOST 1048576: true; the input reads as it did. -/
def fortyJoinsUptoRow : OpenClaim := { program := "ytmedfelkoknadaa", sum := "d98525af6710cdbafb80d2f433fa425f9ca8c9e0deca2cf0c33ea9bcf595203f", func := "gateline/gatelinelaw16.FortyJoins", spec := "fortyJoins", unfollowed := true, recurses := true, apart := false, narrowed := true }
def FortyJoinsUptoSaid : Prop := fortyJoinsUptoRow.holds Try.pinned (OpenSpec.upto fortyJoinsSpec)

/-- 'gatelinelaw16.FortyUnlike', WHERE WHAT IT READS IS OF BULK AT MOST 1048576: true; the input reads as it did. -/
def fortyUnlikeUptoRow : OpenClaim := { program := "ytmedfelkoknadaa", sum := "d98525af6710cdbafb80d2f433fa425f9ca8c9e0deca2cf0c33ea9bcf595203f", func := "gateline/gatelinelaw16.FortyUnlike", spec := "fortyUnlike", unfollowed := true, recurses := true, apart := false, narrowed := true }
def FortyUnlikeUptoSaid : Prop := fortyUnlikeUptoRow.holds Try.pinned (OpenSpec.upto fortyUnlikeSpec)

end Rows
end Go.Proofs.Ytmedfelkoknadaa
