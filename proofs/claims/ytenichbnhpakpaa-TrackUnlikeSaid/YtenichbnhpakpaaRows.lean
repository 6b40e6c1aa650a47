/-
  No cell of these rows narrows 'for every input' (looked for: loops, veiled, ifaces, maps, wideKeys, modest, calm, conditions, laid).
  DERIVED. THE GIVEN ROWS OF THIS SEAT. 5 by the template 'for every input the law returns true; each argument reads behind the call as it read before'; 0 by the template 'total and deterministic' (their statements: YtenichbnhpakpaaTotals.lean).
  GIVEN WITH THE SEED: the statements are not yours to turn. If you find one false, say at which input.
  Laid BY PROGRAM, IN A SANDBOX (cutbox-rows.mjs): the forced cells as the released guide's own fill.sh prints them over the translation e070bb4d030734f7… (all of the seat's roots in one cut). By AI agents, Wed Nov 11 2026. No macro, syntax, notation, axiom, sorry.
-/
import Derived.Test.YtenichbnhpakpaaChecked
import GoSem.Claim
import GoSem.ClaimJoined
import GoSem.ClaimMapViews
import Derived.JoinedTies
import Derived.KernelRfl
namespace Go.Proofs.Ytenichbnhpakpaa
/- THE CELL 'sum', in the pinned program and in every row, IS THE sha256 OF THE DUMP (.gsa) THAT YtenichbnhpakpaaProg.lean LOADS. Nothing in Lean hashes anything: it is a label: what it is worth is what the hold of that sum in a sandbox is worth. -/
noncomputable def Try.pinned : Pinned := { name := "ytenichbnhpakpaa", sum := "e070bb4d030734f75ea9e2a016916b9e1b2034df4be1346f166e4d2e5375044d", checked := Try.checked }
namespace Rows
def none {H : Type} : Left H := { results := [], args := [] }

/-- 'gatelinelaw11.TrackPacks': WHATEVER THE INPUT: true; the input reads as it did. -/
def trackPacksSpec : ChangeSpec := { name := "trackPacks", fn := fun _ => fun
  | [d1, d2] => { results := [.lit (.bool true)], args := [d1, d2] }
  | _ => none }
def trackPacksRow : OpenClaim := { program := "ytenichbnhpakpaa", sum := "e070bb4d030734f75ea9e2a016916b9e1b2034df4be1346f166e4d2e5375044d", func := "gateline/gatelinelaw11.TrackPacks", spec := "trackPacks", unfollowed := true, recurses := true, apart := false }
def TrackPacksSaid : Prop := trackPacksRow.holds Try.pinned (OpenSpec.ofChange trackPacksSpec)

/-- ITS FALSE NEIGHBOUR: 'it returns false'. Refute it at one input. -/
def trackPacksWrong : ChangeSpec := { name := "trackPacks", fn := fun _ => fun
  | [d1, d2] => { results := [.lit (.bool false)], args := [d1, d2] }
  | _ => none }
def TrackPacksWrongFalsely : Prop := trackPacksRow.holds Try.pinned (OpenSpec.ofChange trackPacksWrong)

/-- 'gatelinelaw11.TrackPuts': WHATEVER THE INPUT: true; the input reads as it did. -/
def trackPutsSpec : ChangeSpec := { name := "trackPuts", fn := fun _ => fun
  | [d] => { results := [.lit (.bool true)], args := [d] }
  | _ => none }
def trackPutsRow : OpenClaim := { program := "ytenichbnhpakpaa", sum := "e070bb4d030734f75ea9e2a016916b9e1b2034df4be1346f166e4d2e5375044d", func := "gateline/gatelinelaw11.TrackPuts", spec := "trackPuts", unfollowed := true, recurses := true, apart := false }
def TrackPutsSaid : Prop := trackPutsRow.holds Try.pinned (OpenSpec.ofChange trackPutsSpec)

/-- ITS FALSE NEIGHBOUR: 'it returns false'. Refute it at one input. -/
def trackPutsWrong : ChangeSpec := { name := "trackPuts", fn := fun _ => fun
  | [d] => { results := [.lit (.bool false)], args := [d] }
  | _ => none }
def TrackPutsWrongFalsely : Prop := trackPutsRow.holds Try.pinned (OpenSpec.ofChange trackPutsWrong)

/-- 'gatelinelaw11.TrackGets': WHATEVER THE INPUT: true; the input reads as it did. -/
def trackGetsSpec : ChangeSpec := { name := "trackGets", fn := fun _ => fun
  | [d] => { results := [.lit (.bool true)], args := [d] }
  | _ => none }
def trackGetsRow : OpenClaim := { program := "ytenichbnhpakpaa", sum := "e070bb4d030734f75ea9e2a016916b9e1b2034df4be1346f166e4d2e5375044d", func := "gateline/gatelinelaw11.TrackGets", spec := "trackGets", unfollowed := true, recurses := true, apart := false }
def TrackGetsSaid : Prop := trackGetsRow.holds Try.pinned (OpenSpec.ofChange trackGetsSpec)

/-- ITS FALSE NEIGHBOUR: 'it returns false'. Refute it at one input. -/
def trackGetsWrong : ChangeSpec := { name := "trackGets", fn := fun _ => fun
  | [d] => { results := [.lit (.bool false)], args := [d] }
  | _ => none }
def TrackGetsWrongFalsely : Prop := trackGetsRow.holds Try.pinned (OpenSpec.ofChange trackGetsWrong)

/-- 'gatelinelaw11.TrackBack': WHATEVER THE INPUT: true; the input reads as it did. -/
def trackBackSpec : ChangeSpec := { name := "trackBack", fn := fun _ => fun
  | [d1, d2] => { results := [.lit (.bool true)], args := [d1, d2] }
  | _ => none }
def trackBackRow : OpenClaim := { program := "ytenichbnhpakpaa", sum := "e070bb4d030734f75ea9e2a016916b9e1b2034df4be1346f166e4d2e5375044d", func := "gateline/gatelinelaw11.TrackBack", spec := "trackBack", unfollowed := true, recurses := true, apart := false }
def TrackBackSaid : Prop := trackBackRow.holds Try.pinned (OpenSpec.ofChange trackBackSpec)

/-- ITS FALSE NEIGHBOUR: 'it returns false'. Refute it at one input. -/
def trackBackWrong : ChangeSpec := { name := "trackBack", fn := fun _ => fun
  | [d1, d2] => { results := [.lit (.bool false)], args := [d1, d2] }
  | _ => none }
def TrackBackWrongFalsely : Prop := trackBackRow.holds Try.pinned (OpenSpec.ofChange trackBackWrong)

/-- 'gatelinelaw11.TrackUnlike': WHATEVER THE INPUT: true; the input reads as it did. -/
def trackUnlikeSpec : ChangeSpec := { name := "trackUnlike", fn := fun _ => fun
  | [d1, d2] => { results := [.lit (.bool true)], args := [d1, d2] }
  | _ => none }
def trackUnlikeRow : OpenClaim := { program := "ytenichbnhpakpaa", sum := "e070bb4d030734f75ea9e2a016916b9e1b2034df4be1346f166e4d2e5375044d", func := "gateline/gatelinelaw11.TrackUnlike", spec := "trackUnlike", unfollowed := true, recurses := true, apart := false }
def TrackUnlikeSaid : Prop := trackUnlikeRow.holds Try.pinned (OpenSpec.ofChange trackUnlikeSpec)

/-- ITS FALSE NEIGHBOUR: 'it returns false'. Refute it at one input. -/
def trackUnlikeWrong : ChangeSpec := { name := "trackUnlike", fn := fun _ => fun
  | [d1, d2] => { results := [.lit (.bool false)], args := [d1, d2] }
  | _ => none }
def TrackUnlikeWrongFalsely : Prop := trackUnlikeRow.holds Try.pinned (OpenSpec.ofChange trackUnlikeWrong)

/- THE SECOND FORM. 'bulk': how many values and letters a reading holds, each counted each time it is reached (what is shared counts as often as it is met; a slice's spare places count too). A statement '..UptoSaid' is the law's where the arguments, and the package variables that the reading takes, are together of bulk at most 1048576: NARROWER than '..Said'. Prove '..Said' where nothing that the law and all that it calls make is longer than what came in: it says more and counts as full. Else prove '..UptoSaid'. A law counts once. -/
mutual
def uptoBulk {H : Type} : DataW H → Nat
  | .lit (.string bytes) => bytes.length + 1
  | .lit _ => 1
  | .nil => 1
  | .ptr d => uptoBulk d + 1
  | .slice elems spare => uptoBulkAll elems + uptoBulkAll spare + 1
  | .agg parts => uptoBulkAll parts + 1
  | .iface _ d => uptoBulk d + 1
  | .map entries => uptoBulkEntries entries + 1
  | .held _ => 1
def uptoBulkAll {H : Type} : List (DataW H) → Nat
  | [] => 0
  | d :: r => uptoBulk d + uptoBulkAll r
def uptoBulkEntries {H : Type} : List (Lit × DataW H) → Nat
  | [] => 0
  | x :: r => uptoBulkEntry x + uptoBulkEntries r
def uptoBulkEntry {H : Type} : Lit × DataW H → Nat
  | (.string bytes, d) => bytes.length + uptoBulk d + 1
  | (_, d) => uptoBulk d + 1
 end
def uptoSmall : (H : Type) → List (DataW H) → Bool := fun _ ds => decide (uptoBulkAll ds ≤ 1048576)
def OpenSpec.upto (s : _root_.Go.ChangeSpec) : _root_.Go.OpenSpec := { _root_.Go.OpenSpec.ofChange s with cond := some uptoSmall }

/-- 'gatelinelaw11.TrackPacks', WHERE WHAT IT READS IS OF BULK AT MOST 1048576: true; the input reads as it did. -/
def trackPacksUptoRow : OpenClaim := { program := "ytenichbnhpakpaa", sum := "e070bb4d030734f75ea9e2a016916b9e1b2034df4be1346f166e4d2e5375044d", func := "gateline/gatelinelaw11.TrackPacks", spec := "trackPacks", unfollowed := true, recurses := true, apart := false, narrowed := true }
def TrackPacksUptoSaid : Prop := trackPacksUptoRow.holds Try.pinned (OpenSpec.upto trackPacksSpec)

/-- 'gatelinelaw11.TrackPuts', WHERE WHAT IT READS IS OF BULK AT MOST 1048576: true; the input reads as it did. -/
def trackPutsUptoRow : OpenClaim := { program := "ytenichbnhpakpaa", sum := "e070bb4d030734f75ea9e2a016916b9e1b2034df4be1346f166e4d2e5375044d", func := "gateline/gatelinelaw11.TrackPuts", spec := "trackPuts", unfollowed := true, recurses := true, apart := false, narrowed := true }
def TrackPutsUptoSaid : Prop := trackPutsUptoRow.holds Try.pinned (OpenSpec.upto trackPutsSpec)

/-- 'gatelinelaw11.TrackGets', WHERE WHAT IT READS IS OF BULK AT MOST 1048576: true; the input reads as it did. -/
def trackGetsUptoRow : OpenClaim := { program := "ytenichbnhpakpaa", sum := "e070bb4d030734f75ea9e2a016916b9e1b2034df4be1346f166e4d2e5375044d", func := "gateline/gatelinelaw11.TrackGets", spec := "trackGets", unfollowed := true, recurses := true, apart := false, narrowed := true }
def TrackGetsUptoSaid : Prop := trackGetsUptoRow.holds Try.pinned (OpenSpec.upto trackGetsSpec)

/-- 'gatelinelaw11.TrackBack', WHERE WHAT IT READS IS OF BULK AT MOST 1048576: true; the input reads as it did. -/
def trackBackUptoRow : OpenClaim := { program := "ytenichbnhpakpaa", sum := "e070bb4d030734f75ea9e2a016916b9e1b2034df4be1346f166e4d2e5375044d", func := "gateline/gatelinelaw11.TrackBack", spec := "trackBack", unfollowed := true, recurses := true, apart := false, narrowed := true }
def TrackBackUptoSaid : Prop := trackBackUptoRow.holds Try.pinned (OpenSpec.upto trackBackSpec)

/-- 'gatelinelaw11.TrackUnlike', WHERE WHAT IT READS IS OF BULK AT MOST 1048576: true; the input reads as it did. -/
def trackUnlikeUptoRow : OpenClaim := { program := "ytenichbnhpakpaa", sum := "e070bb4d030734f75ea9e2a016916b9e1b2034df4be1346f166e4d2e5375044d", func := "gateline/gatelinelaw11.TrackUnlike", spec := "trackUnlike", unfollowed := true, recurses := true, apart := false, narrowed := true }
def TrackUnlikeUptoSaid : Prop := trackUnlikeUptoRow.holds Try.pinned (OpenSpec.upto trackUnlikeSpec)

end Rows
end Go.Proofs.Ytenichbnhpakpaa
