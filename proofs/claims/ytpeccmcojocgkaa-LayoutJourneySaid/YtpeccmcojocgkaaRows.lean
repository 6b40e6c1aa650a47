/-
  No cell of these rows narrows 'for every input' (looked for: loops, veiled, ifaces, maps, wideKeys, modest, calm, conditions, laid).
  DERIVED. THE GIVEN ROWS OF THIS SEAT. 5 by the template 'for every input the law returns true; each argument reads behind the call as it read before'; 0 by the template 'total and deterministic' (their statements: YtpeccmcojocgkaaTotals.lean).
  GIVEN WITH THE SEED: the statements are not yours to turn. If you find one false, say at which input.
  Laid BY PROGRAM, IN A SANDBOX (cutbox-rows.mjs): the forced cells as the released guide's own fill.sh prints them over the translation 2ce5c1a87d203aca… (all of the seat's roots in one cut). By AI agents, Wed Nov 11 2026. No macro, syntax, notation, axiom, sorry.
-/
import Derived.Test.YtpeccmcojocgkaaChecked
import GoSem.Claim
import GoSem.ClaimJoined
import GoSem.ClaimMapViews
import Derived.JoinedTies
import Derived.KernelRfl
namespace Go.Proofs.Ytpeccmcojocgkaa
/- THE CELL 'sum', in the pinned program and in every row, IS THE sha256 OF THE DUMP (.gsa) THAT YtpeccmcojocgkaaProg.lean LOADS. Nothing in Lean hashes anything: it is a label: what it is worth is what the hold of that sum in a sandbox is worth. -/
noncomputable def Try.pinned : Pinned := { name := "ytpeccmcojocgkaa", sum := "2ce5c1a87d203acae5c88f33be53de093ca74a97af59f3d0b2deb2617daa7a86", checked := Try.checked }
namespace Rows
def none {H : Type} : Left H := { results := [], args := [] }

/-- 'gatelinelaw13.LayoutPuts': WHATEVER THE INPUT: true; the input reads as it did. -/
def layoutPutsSpec : ChangeSpec := { name := "layoutPuts", fn := fun _ => fun
  | [d1, d2] => { results := [.lit (.bool true)], args := [d1, d2] }
  | _ => none }
def layoutPutsRow : OpenClaim := { program := "ytpeccmcojocgkaa", sum := "2ce5c1a87d203acae5c88f33be53de093ca74a97af59f3d0b2deb2617daa7a86", func := "gateline/gatelinelaw13.LayoutPuts", spec := "layoutPuts", unfollowed := true, recurses := true, apart := false }
def LayoutPutsSaid : Prop := layoutPutsRow.holds Try.pinned (OpenSpec.ofChange layoutPutsSpec)

/-- ITS FALSE NEIGHBOUR: 'it returns false'. Refute it at one input. -/
def layoutPutsWrong : ChangeSpec := { name := "layoutPuts", fn := fun _ => fun
  | [d1, d2] => { results := [.lit (.bool false)], args := [d1, d2] }
  | _ => none }
def LayoutPutsWrongFalsely : Prop := layoutPutsRow.holds Try.pinned (OpenSpec.ofChange layoutPutsWrong)

/-- 'gatelinelaw13.LayoutGets': WHATEVER THE INPUT: true; the input reads as it did. -/
def layoutGetsSpec : ChangeSpec := { name := "layoutGets", fn := fun _ => fun
  | [d] => { results := [.lit (.bool true)], args := [d] }
  | _ => none }
def layoutGetsRow : OpenClaim := { program := "ytpeccmcojocgkaa", sum := "2ce5c1a87d203acae5c88f33be53de093ca74a97af59f3d0b2deb2617daa7a86", func := "gateline/gatelinelaw13.LayoutGets", spec := "layoutGets", unfollowed := true, recurses := true, apart := false }
def LayoutGetsSaid : Prop := layoutGetsRow.holds Try.pinned (OpenSpec.ofChange layoutGetsSpec)

/-- ITS FALSE NEIGHBOUR: 'it returns false'. Refute it at one input. -/
def layoutGetsWrong : ChangeSpec := { name := "layoutGets", fn := fun _ => fun
  | [d] => { results := [.lit (.bool false)], args := [d] }
  | _ => none }
def LayoutGetsWrongFalsely : Prop := layoutGetsRow.holds Try.pinned (OpenSpec.ofChange layoutGetsWrong)

/-- 'gatelinelaw13.LayoutBack': WHATEVER THE INPUT: true; the input reads as it did. -/
def layoutBackSpec : ChangeSpec := { name := "layoutBack", fn := fun _ => fun
  | [d1, d2] => { results := [.lit (.bool true)], args := [d1, d2] }
  | _ => none }
def layoutBackRow : OpenClaim := { program := "ytpeccmcojocgkaa", sum := "2ce5c1a87d203acae5c88f33be53de093ca74a97af59f3d0b2deb2617daa7a86", func := "gateline/gatelinelaw13.LayoutBack", spec := "layoutBack", unfollowed := true, recurses := true, apart := false }
def LayoutBackSaid : Prop := layoutBackRow.holds Try.pinned (OpenSpec.ofChange layoutBackSpec)

/-- ITS FALSE NEIGHBOUR: 'it returns false'. Refute it at one input. -/
def layoutBackWrong : ChangeSpec := { name := "layoutBack", fn := fun _ => fun
  | [d1, d2] => { results := [.lit (.bool false)], args := [d1, d2] }
  | _ => none }
def LayoutBackWrongFalsely : Prop := layoutBackRow.holds Try.pinned (OpenSpec.ofChange layoutBackWrong)

/-- 'gatelinelaw13.LayoutUnlike': WHATEVER THE INPUT: true; the input reads as it did. -/
def layoutUnlikeSpec : ChangeSpec := { name := "layoutUnlike", fn := fun _ => fun
  | [d1, d2] => { results := [.lit (.bool true)], args := [d1, d2] }
  | _ => none }
def layoutUnlikeRow : OpenClaim := { program := "ytpeccmcojocgkaa", sum := "2ce5c1a87d203acae5c88f33be53de093ca74a97af59f3d0b2deb2617daa7a86", func := "gateline/gatelinelaw13.LayoutUnlike", spec := "layoutUnlike", unfollowed := true, recurses := true, apart := false }
def LayoutUnlikeSaid : Prop := layoutUnlikeRow.holds Try.pinned (OpenSpec.ofChange layoutUnlikeSpec)

/-- ITS FALSE NEIGHBOUR: 'it returns false'. Refute it at one input. -/
def layoutUnlikeWrong : ChangeSpec := { name := "layoutUnlike", fn := fun _ => fun
  | [d1, d2] => { results := [.lit (.bool false)], args := [d1, d2] }
  | _ => none }
def LayoutUnlikeWrongFalsely : Prop := layoutUnlikeRow.holds Try.pinned (OpenSpec.ofChange layoutUnlikeWrong)

/-- 'gatelinelaw13.LayoutJourney': WHATEVER THE INPUT: true; the input reads as it did. -/
def layoutJourneySpec : ChangeSpec := { name := "layoutJourney", fn := fun _ => fun
  | [d1, d2] => { results := [.lit (.bool true)], args := [d1, d2] }
  | _ => none }
def layoutJourneyRow : OpenClaim := { program := "ytpeccmcojocgkaa", sum := "2ce5c1a87d203acae5c88f33be53de093ca74a97af59f3d0b2deb2617daa7a86", func := "gateline/gatelinelaw13.LayoutJourney", spec := "layoutJourney", unfollowed := true, recurses := true, apart := false }
def LayoutJourneySaid : Prop := layoutJourneyRow.holds Try.pinned (OpenSpec.ofChange layoutJourneySpec)

/-- ITS FALSE NEIGHBOUR: 'it returns false'. Refute it at one input. -/
def layoutJourneyWrong : ChangeSpec := { name := "layoutJourney", fn := fun _ => fun
  | [d1, d2] => { results := [.lit (.bool false)], args := [d1, d2] }
  | _ => none }
def LayoutJourneyWrongFalsely : Prop := layoutJourneyRow.holds Try.pinned (OpenSpec.ofChange layoutJourneyWrong)

/- THE SECOND FORM. 'bulk': how many values and letters a reading holds, each counted each time it is reached (what is shared counts as often as it is met; a slice's spare places count too). A statement '..UptoSaid' is the law's where the arguments, and the package variables that the reading takes, are together of bulk at most 1048576: NARROWER than '..Said'. Prove '..Said' where nothing that the law and all that it calls make is longer than what came in: it says more and counts as full. Else prove '..UptoSaid'. A law counts once. -/
mutual
def uptoBulk {H : Type} : DataW H → Nat
  | .lit (.string bytes) => bytes.length + 1
  | .lit _ => 1
  | .nil => 1
  | .ptr d => uptoBulk d + 1
  | .slice elems spare => uptoBulkAll elems + uptoBulkAll spare + 1
  | .agg parts => uptoBulkAll parts + 1
  | .iface _ d => uptoBulk d + 1
  | .map entries => uptoBulkEntries entries + 1
  | .held _ => 1
def uptoBulkAll {H : Type} : List (DataW H) → Nat
  | [] => 0
  | d :: r => uptoBulk d + uptoBulkAll r
def uptoBulkEntries {H : Type} : List (Lit × DataW H) → Nat
  | [] => 0
  | x :: r => uptoBulkEntry x + uptoBulkEntries r
def uptoBulkEntry {H : Type} : Lit × DataW H → Nat
  | (.string bytes, d) => bytes.length + uptoBulk d + 1
  | (_, d) => uptoBulk d + 1
 end
def uptoSmall : (H : Type) → List (DataW H) → Bool := fun _ ds => decide (uptoBulkAll ds ≤ 1048576)
def OpenSpec.upto (s : _root_.Go.ChangeSpec) : _root_.Go.OpenSpec := { _root_.Go.OpenSpec.ofChange s with cond := some uptoSmall }

/-- 'gatelinelaw13.LayoutPuts', WHERE WHAT IT READS IS OF BULK AT MOST 1048576: true; the input reads as it did. -/
def layoutPutsUptoRow : OpenClaim := { program := "ytpeccmcojocgkaa", sum := "2ce5c1a87d203acae5c88f33be53de093ca74a97af59f3d0b2deb2617daa7a86", func := "gateline/gatelinelaw13.LayoutPuts", spec := "layoutPuts", unfollowed := true, recurses := true, apart := false, narrowed := true }
def LayoutPutsUptoSaid : Prop := layoutPutsUptoRow.holds Try.pinned (OpenSpec.upto layoutPutsSpec)

/-- 'gatelinelaw13.LayoutGets', WHERE WHAT IT READS IS OF BULK AT MOST 1048576: true; the input reads as it did. -/
def layoutGetsUptoRow : OpenClaim := { program := "ytpeccmcojocgkaa", sum := "2ce5c1a87d203acae5c88f33be53de093ca74a97af59f3d0b2deb2617daa7a86", func := "gateline/gatelinelaw13.LayoutGets", spec := "layoutGets", unfollowed := true, recurses := true, apart := false, narrowed := true }
def LayoutGetsUptoSaid : Prop := layoutGetsUptoRow.holds Try.pinned (OpenSpec.upto layoutGetsSpec)

/-- 'gatelinelaw13.LayoutBack', WHERE WHAT IT READS IS OF BULK AT MOST 1048576: true; the input reads as it did. -/
def layoutBackUptoRow : OpenClaim := { program := "ytpeccmcojocgkaa", sum := "2ce5c1a87d203acae5c88f33be53de093ca74a97af59f3d0b2deb2617daa7a86", func := "gateline/gatelinelaw13.LayoutBack", spec := "layoutBack", unfollowed := true, recurses := true, apart := false, narrowed := true }
def LayoutBackUptoSaid : Prop := layoutBackUptoRow.holds Try.pinned (OpenSpec.upto layoutBackSpec)

/-- 'gatelinelaw13.LayoutUnlike', WHERE WHAT IT READS IS OF BULK AT MOST 1048576: true; the input reads as it did. -/
def layoutUnlikeUptoRow : OpenClaim := { program := "ytpeccmcojocgkaa", sum := "2ce5c1a87d203acae5c88f33be53de093ca74a97af59f3d0b2deb2617daa7a86", func := "gateline/gatelinelaw13.LayoutUnlike", spec := "layoutUnlike", unfollowed := true, recurses := true, apart := false, narrowed := true }
def LayoutUnlikeUptoSaid : Prop := layoutUnlikeUptoRow.holds Try.pinned (OpenSpec.upto layoutUnlikeSpec)

/-- 'gatelinelaw13.LayoutJourney', WHERE WHAT IT READS IS OF BULK AT MOST 1048576: true; the input reads as it did. -/
def layoutJourneyUptoRow : OpenClaim := { program := "ytpeccmcojocgkaa", sum := "2ce5c1a87d203acae5c88f33be53de093ca74a97af59f3d0b2deb2617daa7a86", func := "gateline/gatelinelaw13.LayoutJourney", spec := "layoutJourney", unfollowed := true, recurses := true, apart := false, narrowed := true }
def LayoutJourneyUptoSaid : Prop := layoutJourneyUptoRow.holds Try.pinned (OpenSpec.upto layoutJourneySpec)

end Rows
end Go.Proofs.Ytpeccmcojocgkaa
