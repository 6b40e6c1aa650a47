/-
  No cell of these rows narrows 'for every input' (looked for: loops, veiled, ifaces, maps, wideKeys, modest, calm, conditions, laid).
  DERIVED. THE GIVEN ROWS OF THIS SEAT. 4 by the template 'for every input the law returns true; each argument reads behind the call as it read before'; 0 by the template 'total and deterministic' (their statements: YtjlcaobffhihhaaTotals.lean).
  GIVEN WITH THE SEED: the statements are not yours to turn. If you find one false, say at which input.
  Laid BY PROGRAM, IN A SANDBOX (cutbox-rows.mjs): the forced cells as the released guide's own fill.sh prints them over the translation c9a90134377af8a1… (all of the seat's roots in one cut). By AI agents, Wed Nov 11 2026. No macro, syntax, notation, axiom, sorry.
-/
import Derived.Test.YtjlcaobffhihhaaChecked
import GoSem.Claim
import GoSem.ClaimJoined
import GoSem.ClaimMapViews
import Derived.JoinedTies
import Derived.KernelRfl
namespace Go.Proofs.Ytjlcaobffhihhaa
/- THE CELL 'sum', in the pinned program and in every row, IS THE sha256 OF THE DUMP (.gsa) THAT YtjlcaobffhihhaaProg.lean LOADS. Nothing in Lean hashes anything: it is a label: what it is worth is what the hold of that sum in a sandbox is worth. -/
noncomputable def Try.pinned : Pinned := { name := "ytjlcaobffhihhaa", sum := "c9a90134377af8a1132f3ab0d6d932ac05e8648f828dc177d4de8088e48ffee5", checked := Try.checked }
namespace Rows
def none {H : Type} : Left H := { results := [], args := [] }

/-- 'gatelinelaw14.SwipeTurns': WHATEVER THE INPUT: true; the input reads as it did. -/
def swipeTurnsSpec : ChangeSpec := { name := "swipeTurns", fn := fun _ => fun
  | [d] => { results := [.lit (.bool true)], args := [d] }
  | _ => none }
def swipeTurnsRow : OpenClaim := { program := "ytjlcaobffhihhaa", sum := "c9a90134377af8a1132f3ab0d6d932ac05e8648f828dc177d4de8088e48ffee5", func := "gateline/gatelinelaw14.SwipeTurns", spec := "swipeTurns", unfollowed := true, recurses := true, apart := false }
def SwipeTurnsSaid : Prop := swipeTurnsRow.holds Try.pinned (OpenSpec.ofChange swipeTurnsSpec)

/-- ITS FALSE NEIGHBOUR: 'it returns false'. Refute it at one input. -/
def swipeTurnsWrong : ChangeSpec := { name := "swipeTurns", fn := fun _ => fun
  | [d] => { results := [.lit (.bool false)], args := [d] }
  | _ => none }
def SwipeTurnsWrongFalsely : Prop := swipeTurnsRow.holds Try.pinned (OpenSpec.ofChange swipeTurnsWrong)

/-- 'gatelinelaw14.SwipeReads': WHATEVER THE INPUT: true; the input reads as it did. -/
def swipeReadsSpec : ChangeSpec := { name := "swipeReads", fn := fun _ => fun
  | [d] => { results := [.lit (.bool true)], args := [d] }
  | _ => none }
def swipeReadsRow : OpenClaim := { program := "ytjlcaobffhihhaa", sum := "c9a90134377af8a1132f3ab0d6d932ac05e8648f828dc177d4de8088e48ffee5", func := "gateline/gatelinelaw14.SwipeReads", spec := "swipeReads", unfollowed := true, recurses := true, apart := false }
def SwipeReadsSaid : Prop := swipeReadsRow.holds Try.pinned (OpenSpec.ofChange swipeReadsSpec)

/-- ITS FALSE NEIGHBOUR: 'it returns false'. Refute it at one input. -/
def swipeReadsWrong : ChangeSpec := { name := "swipeReads", fn := fun _ => fun
  | [d] => { results := [.lit (.bool false)], args := [d] }
  | _ => none }
def SwipeReadsWrongFalsely : Prop := swipeReadsRow.holds Try.pinned (OpenSpec.ofChange swipeReadsWrong)

/-- 'gatelinelaw14.SwipeBack': WHATEVER THE INPUT: true; the input reads as it did. -/
def swipeBackSpec : ChangeSpec := { name := "swipeBack", fn := fun _ => fun
  | [d] => { results := [.lit (.bool true)], args := [d] }
  | _ => none }
def swipeBackRow : OpenClaim := { program := "ytjlcaobffhihhaa", sum := "c9a90134377af8a1132f3ab0d6d932ac05e8648f828dc177d4de8088e48ffee5", func := "gateline/gatelinelaw14.SwipeBack", spec := "swipeBack", unfollowed := true, recurses := true, apart := false }
def SwipeBackSaid : Prop := swipeBackRow.holds Try.pinned (OpenSpec.ofChange swipeBackSpec)

/-- ITS FALSE NEIGHBOUR: 'it returns false'. Refute it at one input. -/
def swipeBackWrong : ChangeSpec := { name := "swipeBack", fn := fun _ => fun
  | [d] => { results := [.lit (.bool false)], args := [d] }
  | _ => none }
def SwipeBackWrongFalsely : Prop := swipeBackRow.holds Try.pinned (OpenSpec.ofChange swipeBackWrong)

/-- 'gatelinelaw14.SwipeOnce': WHATEVER THE INPUT: true; the input reads as it did. -/
def swipeOnceSpec : ChangeSpec := { name := "swipeOnce", fn := fun _ => fun
  | [d] => { results := [.lit (.bool true)], args := [d] }
  | _ => none }
def swipeOnceRow : OpenClaim := { program := "ytjlcaobffhihhaa", sum := "c9a90134377af8a1132f3ab0d6d932ac05e8648f828dc177d4de8088e48ffee5", func := "gateline/gatelinelaw14.SwipeOnce", spec := "swipeOnce", unfollowed := true, recurses := true, apart := false }
def SwipeOnceSaid : Prop := swipeOnceRow.holds Try.pinned (OpenSpec.ofChange swipeOnceSpec)

/-- ITS FALSE NEIGHBOUR: 'it returns false'. Refute it at one input. -/
def swipeOnceWrong : ChangeSpec := { name := "swipeOnce", fn := fun _ => fun
  | [d] => { results := [.lit (.bool false)], args := [d] }
  | _ => none }
def SwipeOnceWrongFalsely : Prop := swipeOnceRow.holds Try.pinned (OpenSpec.ofChange swipeOnceWrong)

/- THE SECOND FORM. 'bulk': how many values and letters a reading holds, each counted each time it is reached (what is shared counts as often as it is met; a slice's spare places count too). A statement '..UptoSaid' is the law's where the arguments, and the package variables that the reading takes, are together of bulk at most 1048576: NARROWER than '..Said'. Prove '..Said' where nothing that the law and all that it calls make is longer than what came in: it says more and counts as full. Else prove '..UptoSaid'. A law counts once. -/
mutual
def uptoBulk {H : Type} : DataW H → Nat
  | .lit (.string bytes) => bytes.length + 1
  | .lit _ => 1
  | .nil => 1
  | .ptr d => uptoBulk d + 1
  | .slice elems spare => uptoBulkAll elems + uptoBulkAll spare + 1
  | .agg parts => uptoBulkAll parts + 1
  | .iface _ d => uptoBulk d + 1
  | .map entries => uptoBulkEntries entries + 1
  | .held _ => 1
def uptoBulkAll {H : Type} : List (DataW H) → Nat
  | [] => 0
  | d :: r => uptoBulk d + uptoBulkAll r
def uptoBulkEntries {H : Type} : List (Lit × DataW H) → Nat
  | [] => 0
  | x :: r => uptoBulkEntry x + uptoBulkEntries r
def uptoBulkEntry {H : Type} : Lit × DataW H → Nat
  | (.string bytes, d) => bytes.length + uptoBulk d + 1
  | (_, d) => uptoBulk d + 1
 end
def uptoSmall : (H : Type) → List (DataW H) → Bool := fun _ ds => decide (uptoBulkAll ds ≤ 1048576)
def OpenSpec.upto (s : _root_.Go.ChangeSpec) : _root_.Go.OpenSpec := { _root_.Go.OpenSpec.ofChange s with cond := some uptoSmall }

/-- 'gatelinelaw14.SwipeTurns', WHERE WHAT IT READS IS OF BULK AT MOST 1048576: true; the input reads as it did. -/
def swipeTurnsUptoRow : OpenClaim := { program := "ytjlcaobffhihhaa", sum := "c9a90134377af8a1132f3ab0d6d932ac05e8648f828dc177d4de8088e48ffee5", func := "gateline/gatelinelaw14.SwipeTurns", spec := "swipeTurns", unfollowed := true, recurses := true, apart := false, narrowed := true }
def SwipeTurnsUptoSaid : Prop := swipeTurnsUptoRow.holds Try.pinned (OpenSpec.upto swipeTurnsSpec)

/-- 'gatelinelaw14.SwipeReads', WHERE WHAT IT READS IS OF BULK AT MOST 1048576: true; the input reads as it did. -/
def swipeReadsUptoRow : OpenClaim := { program := "ytjlcaobffhihhaa", sum := "c9a90134377af8a1132f3ab0d6d932ac05e8648f828dc177d4de8088e48ffee5", func := "gateline/gatelinelaw14.SwipeReads", spec := "swipeReads", unfollowed := true, recurses := true, apart := false, narrowed := true }
def SwipeReadsUptoSaid : Prop := swipeReadsUptoRow.holds Try.pinned (OpenSpec.upto swipeReadsSpec)

/-- 'gatelinelaw14.SwipeBack', WHERE WHAT IT READS IS OF BULK AT MOST 1048576: true; the input reads as it did. -/
def swipeBackUptoRow : OpenClaim := { program := "ytjlcaobffhihhaa", sum := "c9a90134377af8a1132f3ab0d6d932ac05e8648f828dc177d4de8088e48ffee5", func := "gateline/gatelinelaw14.SwipeBack", spec := "swipeBack", unfollowed := true, recurses := true, apart := false, narrowed := true }
def SwipeBackUptoSaid : Prop := swipeBackUptoRow.holds Try.pinned (OpenSpec.upto swipeBackSpec)

/-- 'gatelinelaw14.SwipeOnce', WHERE WHAT IT READS IS OF BULK AT MOST 1048576: true; the input reads as it did. -/
def swipeOnceUptoRow : OpenClaim := { program := "ytjlcaobffhihhaa", sum := "c9a90134377af8a1132f3ab0d6d932ac05e8648f828dc177d4de8088e48ffee5", func := "gateline/gatelinelaw14.SwipeOnce", spec := "swipeOnce", unfollowed := true, recurses := true, apart := false, narrowed := true }
def SwipeOnceUptoSaid : Prop := swipeOnceUptoRow.holds Try.pinned (OpenSpec.upto swipeOnceSpec)

end Rows
end Go.Proofs.Ytjlcaobffhihhaa
