/-
  No cell of these rows narrows 'for every input' (looked for: loops, veiled, ifaces, maps, wideKeys, modest, calm, conditions, laid).
  DERIVED. THE GIVEN ROWS OF THIS SEAT. 5 by the template 'for every input the law returns true; each argument reads behind the call as it read before'; 0 by the template 'total and deterministic' (their statements: YtaldpioahnbkgaaTotals.lean).
  GIVEN WITH THE SEED: the statements are not yours to turn. If you find one false, say at which input.
  Laid BY PROGRAM, IN A SANDBOX (cutbox-rows.mjs): the forced cells as the released guide's own fill.sh prints them over the translation fc69fe610e9d2b02… (all of the seat's roots in one cut). By AI agents, Wed Nov 11 2026. No macro, syntax, notation, axiom, sorry.
-/
import Derived.Test.YtaldpioahnbkgaaChecked
import GoSem.Claim
import GoSem.ClaimJoined
import GoSem.ClaimMapViews
import Derived.JoinedTies
import Derived.KernelRfl
namespace Go.Proofs.Ytaldpioahnbkgaa
/- THE CELL 'sum', in the pinned program and in every row, IS THE sha256 OF THE DUMP (.gsa) THAT YtaldpioahnbkgaaProg.lean LOADS. Nothing in Lean hashes anything: it is a label: what it is worth is what the hold of that sum in a sandbox is worth. -/
noncomputable def Try.pinned : Pinned := { name := "ytaldpioahnbkgaa", sum := "fc69fe610e9d2b028e1c249a8a81476376c456cd1e3830c8393c0011005f1e27", checked := Try.checked }
namespace Rows
def none {H : Type} : Left H := { results := [], args := [] }

/-- 'gatelinelaw18.FieldsPut': WHATEVER THE INPUT: true; the input reads as it did. -/
def fieldsPutSpec : ChangeSpec := { name := "fieldsPut", fn := fun _ => fun
  | [d1, d2] => { results := [.lit (.bool true)], args := [d1, d2] }
  | _ => none }
def fieldsPutRow : OpenClaim := { program := "ytaldpioahnbkgaa", sum := "fc69fe610e9d2b028e1c249a8a81476376c456cd1e3830c8393c0011005f1e27", func := "gateline/gatelinelaw18.FieldsPut", spec := "fieldsPut", unfollowed := true, recurses := true, apart := false }
def FieldsPutSaid : Prop := fieldsPutRow.holds Try.pinned (OpenSpec.ofChange fieldsPutSpec)

/-- ITS FALSE NEIGHBOUR: 'it returns false'. Refute it at one input. -/
def fieldsPutWrong : ChangeSpec := { name := "fieldsPut", fn := fun _ => fun
  | [d1, d2] => { results := [.lit (.bool false)], args := [d1, d2] }
  | _ => none }
def FieldsPutWrongFalsely : Prop := fieldsPutRow.holds Try.pinned (OpenSpec.ofChange fieldsPutWrong)

/-- 'gatelinelaw18.FieldsGet': WHATEVER THE INPUT: true; the input reads as it did. -/
def fieldsGetSpec : ChangeSpec := { name := "fieldsGet", fn := fun _ => fun
  | [d] => { results := [.lit (.bool true)], args := [d] }
  | _ => none }
def fieldsGetRow : OpenClaim := { program := "ytaldpioahnbkgaa", sum := "fc69fe610e9d2b028e1c249a8a81476376c456cd1e3830c8393c0011005f1e27", func := "gateline/gatelinelaw18.FieldsGet", spec := "fieldsGet", unfollowed := true, recurses := true, apart := false }
def FieldsGetSaid : Prop := fieldsGetRow.holds Try.pinned (OpenSpec.ofChange fieldsGetSpec)

/-- ITS FALSE NEIGHBOUR: 'it returns false'. Refute it at one input. -/
def fieldsGetWrong : ChangeSpec := { name := "fieldsGet", fn := fun _ => fun
  | [d] => { results := [.lit (.bool false)], args := [d] }
  | _ => none }
def FieldsGetWrongFalsely : Prop := fieldsGetRow.holds Try.pinned (OpenSpec.ofChange fieldsGetWrong)

/-- 'gatelinelaw18.FieldsBack': WHATEVER THE INPUT: true; the input reads as it did. -/
def fieldsBackSpec : ChangeSpec := { name := "fieldsBack", fn := fun _ => fun
  | [d1, d2] => { results := [.lit (.bool true)], args := [d1, d2] }
  | _ => none }
def fieldsBackRow : OpenClaim := { program := "ytaldpioahnbkgaa", sum := "fc69fe610e9d2b028e1c249a8a81476376c456cd1e3830c8393c0011005f1e27", func := "gateline/gatelinelaw18.FieldsBack", spec := "fieldsBack", unfollowed := true, recurses := true, apart := false }
def FieldsBackSaid : Prop := fieldsBackRow.holds Try.pinned (OpenSpec.ofChange fieldsBackSpec)

/-- ITS FALSE NEIGHBOUR: 'it returns false'. Refute it at one input. -/
def fieldsBackWrong : ChangeSpec := { name := "fieldsBack", fn := fun _ => fun
  | [d1, d2] => { results := [.lit (.bool false)], args := [d1, d2] }
  | _ => none }
def FieldsBackWrongFalsely : Prop := fieldsBackRow.holds Try.pinned (OpenSpec.ofChange fieldsBackWrong)

/-- 'gatelinelaw18.FieldsMore': WHATEVER THE INPUT: true; the input reads as it did. -/
def fieldsMoreSpec : ChangeSpec := { name := "fieldsMore", fn := fun _ => fun
  | [d] => { results := [.lit (.bool true)], args := [d] }
  | _ => none }
def fieldsMoreRow : OpenClaim := { program := "ytaldpioahnbkgaa", sum := "fc69fe610e9d2b028e1c249a8a81476376c456cd1e3830c8393c0011005f1e27", func := "gateline/gatelinelaw18.FieldsMore", spec := "fieldsMore", unfollowed := true, recurses := true, apart := false }
def FieldsMoreSaid : Prop := fieldsMoreRow.holds Try.pinned (OpenSpec.ofChange fieldsMoreSpec)

/-- ITS FALSE NEIGHBOUR: 'it returns false'. Refute it at one input. -/
def fieldsMoreWrong : ChangeSpec := { name := "fieldsMore", fn := fun _ => fun
  | [d] => { results := [.lit (.bool false)], args := [d] }
  | _ => none }
def FieldsMoreWrongFalsely : Prop := fieldsMoreRow.holds Try.pinned (OpenSpec.ofChange fieldsMoreWrong)

/-- 'gatelinelaw18.FieldsUnlike': WHATEVER THE INPUT: true; the input reads as it did. -/
def fieldsUnlikeSpec : ChangeSpec := { name := "fieldsUnlike", fn := fun _ => fun
  | [d1, d2] => { results := [.lit (.bool true)], args := [d1, d2] }
  | _ => none }
def fieldsUnlikeRow : OpenClaim := { program := "ytaldpioahnbkgaa", sum := "fc69fe610e9d2b028e1c249a8a81476376c456cd1e3830c8393c0011005f1e27", func := "gateline/gatelinelaw18.FieldsUnlike", spec := "fieldsUnlike", unfollowed := true, recurses := true, apart := false }
def FieldsUnlikeSaid : Prop := fieldsUnlikeRow.holds Try.pinned (OpenSpec.ofChange fieldsUnlikeSpec)

/-- ITS FALSE NEIGHBOUR: 'it returns false'. Refute it at one input. -/
def fieldsUnlikeWrong : ChangeSpec := { name := "fieldsUnlike", fn := fun _ => fun
  | [d1, d2] => { results := [.lit (.bool false)], args := [d1, d2] }
  | _ => none }
def FieldsUnlikeWrongFalsely : Prop := fieldsUnlikeRow.holds Try.pinned (OpenSpec.ofChange fieldsUnlikeWrong)

/- THE SECOND FORM. 'bulk': how many values and letters a reading holds, each counted each time it is reached (what is shared counts as often as it is met; a slice's spare places count too). A statement '..UptoSaid' is the law's where the arguments, and the package variables that the reading takes, are together of bulk at most 1048576: NARROWER than '..Said'. Prove '..Said' where nothing that the law and all that it calls make is longer than what came in: it says more and counts as full. Else prove '..UptoSaid'. A law counts once. -/
mutual
def uptoBulk {H : Type} : DataW H → Nat
  | .lit (.string bytes) => bytes.length + 1
  | .lit _ => 1
  | .nil => 1
  | .ptr d => uptoBulk d + 1
  | .slice elems spare => uptoBulkAll elems + uptoBulkAll spare + 1
  | .agg parts => uptoBulkAll parts + 1
  | .iface _ d => uptoBulk d + 1
  | .map entries => uptoBulkEntries entries + 1
  | .held _ => 1
def uptoBulkAll {H : Type} : List (DataW H) → Nat
  | [] => 0
  | d :: r => uptoBulk d + uptoBulkAll r
def uptoBulkEntries {H : Type} : List (Lit × DataW H) → Nat
  | [] => 0
  | x :: r => uptoBulkEntry x + uptoBulkEntries r
def uptoBulkEntry {H : Type} : Lit × DataW H → Nat
  | (.string bytes, d) => bytes.length + uptoBulk d + 1
  | (_, d) => uptoBulk d + 1
 end
def uptoSmall : (H : Type) → List (DataW H) → Bool := fun _ ds => decide (uptoBulkAll ds ≤ 1048576)
def OpenSpec.upto (s : _root_.Go.ChangeSpec) : _root_.Go.OpenSpec := { _root_.Go.OpenSpec.ofChange s with cond := some uptoSmall }

/-- 'gatelinelaw18.FieldsPut', WHERE WHAT IT READS IS OF BULK AT MOST 1048576: true; the input reads as it did. -/
def fieldsPutUptoRow : OpenClaim := { program := "ytaldpioahnbkgaa", sum := "fc69fe610e9d2b028e1c249a8a81476376c456cd1e3830c8393c0011005f1e27", func := "gateline/gatelinelaw18.FieldsPut", spec := "fieldsPut", unfollowed := true, recurses := true, apart := false, narrowed := true }
def FieldsPutUptoSaid : Prop := fieldsPutUptoRow.holds Try.pinned (OpenSpec.upto fieldsPutSpec)

/-- 'gatelinelaw18.FieldsGet', WHERE WHAT IT READS IS OF BULK AT MOST 1048576: true; the input reads as it did. -/
def fieldsGetUptoRow : OpenClaim := { program := "ytaldpioahnbkgaa", sum := "fc69fe610e9d2b028e1c249a8a81476376c456cd1e3830c8393c0011005f1e27", func := "gateline/gatelinelaw18.FieldsGet", spec := "fieldsGet", unfollowed := true, recurses := true, apart := false, narrowed := true }
def FieldsGetUptoSaid : Prop := fieldsGetUptoRow.holds Try.pinned (OpenSpec.upto fieldsGetSpec)

/-- 'gatelinelaw18.FieldsBack', WHERE WHAT IT READS IS OF BULK AT MOST 1048576: true; the input reads as it did. -/
def fieldsBackUptoRow : OpenClaim := { program := "ytaldpioahnbkgaa", sum := "fc69fe610e9d2b028e1c249a8a81476376c456cd1e3830c8393c0011005f1e27", func := "gateline/gatelinelaw18.FieldsBack", spec := "fieldsBack", unfollowed := true, recurses := true, apart := false, narrowed := true }
def FieldsBackUptoSaid : Prop := fieldsBackUptoRow.holds Try.pinned (OpenSpec.upto fieldsBackSpec)

/-- 'gatelinelaw18.FieldsMore', WHERE WHAT IT READS IS OF BULK AT MOST 1048576: true; the input reads as it did. -/
def fieldsMoreUptoRow : OpenClaim := { program := "ytaldpioahnbkgaa", sum := "fc69fe610e9d2b028e1c249a8a81476376c456cd1e3830c8393c0011005f1e27", func := "gateline/gatelinelaw18.FieldsMore", spec := "fieldsMore", unfollowed := true, recurses := true, apart := false, narrowed := true }
def FieldsMoreUptoSaid : Prop := fieldsMoreUptoRow.holds Try.pinned (OpenSpec.upto fieldsMoreSpec)

/-- 'gatelinelaw18.FieldsUnlike', WHERE WHAT IT READS IS OF BULK AT MOST 1048576: true; the input reads as it did. -/
def fieldsUnlikeUptoRow : OpenClaim := { program := "ytaldpioahnbkgaa", sum := "fc69fe610e9d2b028e1c249a8a81476376c456cd1e3830c8393c0011005f1e27", func := "gateline/gatelinelaw18.FieldsUnlike", spec := "fieldsUnlike", unfollowed := true, recurses := true, apart := false, narrowed := true }
def FieldsUnlikeUptoSaid : Prop := fieldsUnlikeUptoRow.holds Try.pinned (OpenSpec.upto fieldsUnlikeSpec)

end Rows
end Go.Proofs.Ytaldpioahnbkgaa
