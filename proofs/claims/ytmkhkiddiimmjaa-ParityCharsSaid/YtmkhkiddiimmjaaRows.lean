/-
  No cell of these rows narrows 'for every input' (looked for: loops, veiled, ifaces, maps, wideKeys, modest, calm, conditions, laid).
  DERIVED. THE GIVEN ROWS OF THIS SEAT. 5 by the template 'for every input the law returns true; each argument reads behind the call as it read before'; 0 by the template 'total and deterministic' (their statements: YtmkhkiddiimmjaaTotals.lean).
  GIVEN WITH THE SEED: the statements are not yours to turn. If you find one false, say at which input.
  Laid BY PROGRAM, IN A SANDBOX (cutbox-rows.mjs): the forced cells as the released guide's own fill.sh prints them over the translation 00d27181338d085c… (all of the seat's roots in one cut). By AI agents, Wed Nov 11 2026. No macro, syntax, notation, axiom, sorry.
-/
import Derived.Test.YtmkhkiddiimmjaaChecked
import GoSem.Claim
import GoSem.ClaimJoined
import GoSem.ClaimMapViews
import Derived.JoinedTies
import Derived.KernelRfl
namespace Go.Proofs.Ytmkhkiddiimmjaa
/- THE CELL 'sum', in the pinned program and in every row, IS THE sha256 OF THE DUMP (.gsa) THAT YtmkhkiddiimmjaaProg.lean LOADS. Nothing in Lean hashes anything: it is a label: what it is worth is what the hold of that sum in a sandbox is worth. -/
noncomputable def Try.pinned : Pinned := { name := "ytmkhkiddiimmjaa", sum := "00d27181338d085cbc959c63c8cd71e2377639f52b78b861df84d8f810c30c6d", checked := Try.checked }
namespace Rows
def none {H : Type} : Left H := { results := [], args := [] }

/-- 'gatelinelaw10.ParityChars': WHATEVER THE INPUT: true; the input reads as it did. -/
def parityCharsSpec : ChangeSpec := { name := "parityChars", fn := fun _ => fun
  | [d1, d2] => { results := [.lit (.bool true)], args := [d1, d2] }
  | _ => none }
def parityCharsRow : OpenClaim := { program := "ytmkhkiddiimmjaa", sum := "00d27181338d085cbc959c63c8cd71e2377639f52b78b861df84d8f810c30c6d", func := "gateline/gatelinelaw10.ParityChars", spec := "parityChars", unfollowed := true, recurses := true, apart := false }
def ParityCharsSaid : Prop := parityCharsRow.holds Try.pinned (OpenSpec.ofChange parityCharsSpec)

/-- ITS FALSE NEIGHBOUR: 'it returns false'. Refute it at one input. -/
def parityCharsWrong : ChangeSpec := { name := "parityChars", fn := fun _ => fun
  | [d1, d2] => { results := [.lit (.bool false)], args := [d1, d2] }
  | _ => none }
def ParityCharsWrongFalsely : Prop := parityCharsRow.holds Try.pinned (OpenSpec.ofChange parityCharsWrong)

/-- 'gatelinelaw10.ParitySums': WHATEVER THE INPUT: true; the input reads as it did. -/
def paritySumsSpec : ChangeSpec := { name := "paritySums", fn := fun _ => fun
  | [d1, d2, d3] => { results := [.lit (.bool true)], args := [d1, d2, d3] }
  | _ => none }
def paritySumsRow : OpenClaim := { program := "ytmkhkiddiimmjaa", sum := "00d27181338d085cbc959c63c8cd71e2377639f52b78b861df84d8f810c30c6d", func := "gateline/gatelinelaw10.ParitySums", spec := "paritySums", unfollowed := true, recurses := true, apart := false }
def ParitySumsSaid : Prop := paritySumsRow.holds Try.pinned (OpenSpec.ofChange paritySumsSpec)

/-- ITS FALSE NEIGHBOUR: 'it returns false'. Refute it at one input. -/
def paritySumsWrong : ChangeSpec := { name := "paritySums", fn := fun _ => fun
  | [d1, d2, d3] => { results := [.lit (.bool false)], args := [d1, d2, d3] }
  | _ => none }
def ParitySumsWrongFalsely : Prop := paritySumsRow.holds Try.pinned (OpenSpec.ofChange paritySumsWrong)

/-- 'gatelinelaw10.ParityBack': WHATEVER THE INPUT: true; the input reads as it did. -/
def parityBackSpec : ChangeSpec := { name := "parityBack", fn := fun _ => fun
  | [d1, d2] => { results := [.lit (.bool true)], args := [d1, d2] }
  | _ => none }
def parityBackRow : OpenClaim := { program := "ytmkhkiddiimmjaa", sum := "00d27181338d085cbc959c63c8cd71e2377639f52b78b861df84d8f810c30c6d", func := "gateline/gatelinelaw10.ParityBack", spec := "parityBack", unfollowed := true, recurses := true, apart := false }
def ParityBackSaid : Prop := parityBackRow.holds Try.pinned (OpenSpec.ofChange parityBackSpec)

/-- ITS FALSE NEIGHBOUR: 'it returns false'. Refute it at one input. -/
def parityBackWrong : ChangeSpec := { name := "parityBack", fn := fun _ => fun
  | [d1, d2] => { results := [.lit (.bool false)], args := [d1, d2] }
  | _ => none }
def ParityBackWrongFalsely : Prop := parityBackRow.holds Try.pinned (OpenSpec.ofChange parityBackWrong)

/-- 'gatelinelaw10.ParityFlips': WHATEVER THE INPUT: true; the input reads as it did. -/
def parityFlipsSpec : ChangeSpec := { name := "parityFlips", fn := fun _ => fun
  | [d1, d2] => { results := [.lit (.bool true)], args := [d1, d2] }
  | _ => none }
def parityFlipsRow : OpenClaim := { program := "ytmkhkiddiimmjaa", sum := "00d27181338d085cbc959c63c8cd71e2377639f52b78b861df84d8f810c30c6d", func := "gateline/gatelinelaw10.ParityFlips", spec := "parityFlips", unfollowed := true, recurses := true, apart := false }
def ParityFlipsSaid : Prop := parityFlipsRow.holds Try.pinned (OpenSpec.ofChange parityFlipsSpec)

/-- ITS FALSE NEIGHBOUR: 'it returns false'. Refute it at one input. -/
def parityFlipsWrong : ChangeSpec := { name := "parityFlips", fn := fun _ => fun
  | [d1, d2] => { results := [.lit (.bool false)], args := [d1, d2] }
  | _ => none }
def ParityFlipsWrongFalsely : Prop := parityFlipsRow.holds Try.pinned (OpenSpec.ofChange parityFlipsWrong)

/-- 'gatelinelaw10.ParityTells': WHATEVER THE INPUT: true; the input reads as it did. -/
def parityTellsSpec : ChangeSpec := { name := "parityTells", fn := fun _ => fun
  | [d1, d2, d3] => { results := [.lit (.bool true)], args := [d1, d2, d3] }
  | _ => none }
def parityTellsRow : OpenClaim := { program := "ytmkhkiddiimmjaa", sum := "00d27181338d085cbc959c63c8cd71e2377639f52b78b861df84d8f810c30c6d", func := "gateline/gatelinelaw10.ParityTells", spec := "parityTells", unfollowed := true, recurses := true, apart := false }
def ParityTellsSaid : Prop := parityTellsRow.holds Try.pinned (OpenSpec.ofChange parityTellsSpec)

/-- ITS FALSE NEIGHBOUR: 'it returns false'. Refute it at one input. -/
def parityTellsWrong : ChangeSpec := { name := "parityTells", fn := fun _ => fun
  | [d1, d2, d3] => { results := [.lit (.bool false)], args := [d1, d2, d3] }
  | _ => none }
def ParityTellsWrongFalsely : Prop := parityTellsRow.holds Try.pinned (OpenSpec.ofChange parityTellsWrong)

/- THE SECOND FORM. 'bulk': how many values and letters a reading holds, each counted each time it is reached (what is shared counts as often as it is met; a slice's spare places count too). A statement '..UptoSaid' is the law's where the arguments, and the package variables that the reading takes, are together of bulk at most 1048576: NARROWER than '..Said'. Prove '..Said' where nothing that the law and all that it calls make is longer than what came in: it says more and counts as full. Else prove '..UptoSaid'. A law counts once. -/
mutual
def uptoBulk {H : Type} : DataW H → Nat
  | .lit (.string bytes) => bytes.length + 1
  | .lit _ => 1
  | .nil => 1
  | .ptr d => uptoBulk d + 1
  | .slice elems spare => uptoBulkAll elems + uptoBulkAll spare + 1
  | .agg parts => uptoBulkAll parts + 1
  | .iface _ d => uptoBulk d + 1
  | .map entries => uptoBulkEntries entries + 1
  | .held _ => 1
def uptoBulkAll {H : Type} : List (DataW H) → Nat
  | [] => 0
  | d :: r => uptoBulk d + uptoBulkAll r
def uptoBulkEntries {H : Type} : List (Lit × DataW H) → Nat
  | [] => 0
  | x :: r => uptoBulkEntry x + uptoBulkEntries r
def uptoBulkEntry {H : Type} : Lit × DataW H → Nat
  | (.string bytes, d) => bytes.length + uptoBulk d + 1
  | (_, d) => uptoBulk d + 1
 end
def uptoSmall : (H : Type) → List (DataW H) → Bool := fun _ ds => decide (uptoBulkAll ds ≤ 1048576)
def OpenSpec.upto (s : _root_.Go.ChangeSpec) : _root_.Go.OpenSpec := { _root_.Go.OpenSpec.ofChange s with cond := some uptoSmall }

/-- 'gatelinelaw10.ParityChars', WHERE WHAT IT READS IS OF BULK AT MOST 1048576: true; the input reads as it did. -/
def parityCharsUptoRow : OpenClaim := { program := "ytmkhkiddiimmjaa", sum := "00d27181338d085cbc959c63c8cd71e2377639f52b78b861df84d8f810c30c6d", func := "gateline/gatelinelaw10.ParityChars", spec := "parityChars", unfollowed := true, recurses := true, apart := false, narrowed := true }
def ParityCharsUptoSaid : Prop := parityCharsUptoRow.holds Try.pinned (OpenSpec.upto parityCharsSpec)

/-- 'gatelinelaw10.ParitySums', WHERE WHAT IT READS IS OF BULK AT MOST 1048576: true; the input reads as it did. -/
def paritySumsUptoRow : OpenClaim := { program := "ytmkhkiddiimmjaa", sum := "00d27181338d085cbc959c63c8cd71e2377639f52b78b861df84d8f810c30c6d", func := "gateline/gatelinelaw10.ParitySums", spec := "paritySums", unfollowed := true, recurses := true, apart := false, narrowed := true }
def ParitySumsUptoSaid : Prop := paritySumsUptoRow.holds Try.pinned (OpenSpec.upto paritySumsSpec)

/-- 'gatelinelaw10.ParityBack', WHERE WHAT IT READS IS OF BULK AT MOST 1048576: true; the input reads as it did. -/
def parityBackUptoRow : OpenClaim := { program := "ytmkhkiddiimmjaa", sum := "00d27181338d085cbc959c63c8cd71e2377639f52b78b861df84d8f810c30c6d", func := "gateline/gatelinelaw10.ParityBack", spec := "parityBack", unfollowed := true, recurses := true, apart := false, narrowed := true }
def ParityBackUptoSaid : Prop := parityBackUptoRow.holds Try.pinned (OpenSpec.upto parityBackSpec)

/-- 'gatelinelaw10.ParityFlips', WHERE WHAT IT READS IS OF BULK AT MOST 1048576: true; the input reads as it did. -/
def parityFlipsUptoRow : OpenClaim := { program := "ytmkhkiddiimmjaa", sum := "00d27181338d085cbc959c63c8cd71e2377639f52b78b861df84d8f810c30c6d", func := "gateline/gatelinelaw10.ParityFlips", spec := "parityFlips", unfollowed := true, recurses := true, apart := false, narrowed := true }
def ParityFlipsUptoSaid : Prop := parityFlipsUptoRow.holds Try.pinned (OpenSpec.upto parityFlipsSpec)

/-- 'gatelinelaw10.ParityTells', WHERE WHAT IT READS IS OF BULK AT MOST 1048576: true; the input reads as it did. -/
def parityTellsUptoRow : OpenClaim := { program := "ytmkhkiddiimmjaa", sum := "00d27181338d085cbc959c63c8cd71e2377639f52b78b861df84d8f810c30c6d", func := "gateline/gatelinelaw10.ParityTells", spec := "parityTells", unfollowed := true, recurses := true, apart := false, narrowed := true }
def ParityTellsUptoSaid : Prop := parityTellsUptoRow.holds Try.pinned (OpenSpec.upto parityTellsSpec)

end Rows
end Go.Proofs.Ytmkhkiddiimmjaa
