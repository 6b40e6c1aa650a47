/-
  No cell of these rows narrows 'for every input' (looked for: loops, veiled, ifaces, maps, wideKeys, modest, calm, conditions, laid).
  DERIVED. THE GIVEN ROWS OF THIS SEAT. 4 by the template 'for every input the law returns true; each argument reads behind the call as it read before'; 0 by the template 'total and deterministic' (their statements: YtmcdidbcfhgijaaTotals.lean).
  GIVEN WITH THE SEED: the statements are not yours to turn. If you find one false, say at which input.
  Laid BY PROGRAM, IN A SANDBOX (cutbox-rows.mjs): the forced cells as the released guide's own fill.sh prints them over the translation 820525275a04a0c3… (all of the seat's roots in one cut). By AI agents, Wed Nov 11 2026. No macro, syntax, notation, axiom, sorry.
-/
import Derived.Test.YtmcdidbcfhgijaaChecked
import GoSem.Claim
import GoSem.ClaimJoined
import GoSem.ClaimMapViews
import Derived.JoinedTies
import Derived.KernelRfl
namespace Go.Proofs.Ytmcdidbcfhgijaa
/- THE CELL 'sum', in the pinned program and in every row, IS THE sha256 OF THE DUMP (.gsa) THAT YtmcdidbcfhgijaaProg.lean LOADS. Nothing in Lean hashes anything: it is a label: what it is worth is what the hold of that sum in a sandbox is worth. -/
noncomputable def Try.pinned : Pinned := { name := "ytmcdidbcfhgijaa", sum := "820525275a04a0c39d801a14c733ca3c751bd405eab8160642a39dc445b3b459", checked := Try.checked }
namespace Rows
def none {H : Type} : Left H := { results := [], args := [] }

/-- 'gatelinelaw09.TicketIs': WHATEVER THE INPUT: true; the input reads as it did. -/
def ticketIsSpec : ChangeSpec := { name := "ticketIs", fn := fun _ => fun
  | [d1, d2] => { results := [.lit (.bool true)], args := [d1, d2] }
  | _ => none }
def ticketIsRow : OpenClaim := { program := "ytmcdidbcfhgijaa", sum := "820525275a04a0c39d801a14c733ca3c751bd405eab8160642a39dc445b3b459", func := "gateline/gatelinelaw09.TicketIs", spec := "ticketIs", unfollowed := true, recurses := true, apart := false }
def TicketIsSaid : Prop := ticketIsRow.holds Try.pinned (OpenSpec.ofChange ticketIsSpec)

/-- ITS FALSE NEIGHBOUR: 'it returns false'. Refute it at one input. -/
def ticketIsWrong : ChangeSpec := { name := "ticketIs", fn := fun _ => fun
  | [d1, d2] => { results := [.lit (.bool false)], args := [d1, d2] }
  | _ => none }
def TicketIsWrongFalsely : Prop := ticketIsRow.holds Try.pinned (OpenSpec.ofChange ticketIsWrong)

/-- 'gatelinelaw09.TicketWay': WHATEVER THE INPUT: true; the input reads as it did. -/
def ticketWaySpec : ChangeSpec := { name := "ticketWay", fn := fun _ => fun
  | [d] => { results := [.lit (.bool true)], args := [d] }
  | _ => none }
def ticketWayRow : OpenClaim := { program := "ytmcdidbcfhgijaa", sum := "820525275a04a0c39d801a14c733ca3c751bd405eab8160642a39dc445b3b459", func := "gateline/gatelinelaw09.TicketWay", spec := "ticketWay", unfollowed := true, recurses := true, apart := false }
def TicketWaySaid : Prop := ticketWayRow.holds Try.pinned (OpenSpec.ofChange ticketWaySpec)

/-- ITS FALSE NEIGHBOUR: 'it returns false'. Refute it at one input. -/
def ticketWayWrong : ChangeSpec := { name := "ticketWay", fn := fun _ => fun
  | [d] => { results := [.lit (.bool false)], args := [d] }
  | _ => none }
def TicketWayWrongFalsely : Prop := ticketWayRow.holds Try.pinned (OpenSpec.ofChange ticketWayWrong)

/-- 'gatelinelaw09.TicketCosts': WHATEVER THE INPUT: true; the input reads as it did. -/
def ticketCostsSpec : ChangeSpec := { name := "ticketCosts", fn := fun _ => fun
  | [d] => { results := [.lit (.bool true)], args := [d] }
  | _ => none }
def ticketCostsRow : OpenClaim := { program := "ytmcdidbcfhgijaa", sum := "820525275a04a0c39d801a14c733ca3c751bd405eab8160642a39dc445b3b459", func := "gateline/gatelinelaw09.TicketCosts", spec := "ticketCosts", unfollowed := true, recurses := true, apart := false }
def TicketCostsSaid : Prop := ticketCostsRow.holds Try.pinned (OpenSpec.ofChange ticketCostsSpec)

/-- ITS FALSE NEIGHBOUR: 'it returns false'. Refute it at one input. -/
def ticketCostsWrong : ChangeSpec := { name := "ticketCosts", fn := fun _ => fun
  | [d] => { results := [.lit (.bool false)], args := [d] }
  | _ => none }
def TicketCostsWrongFalsely : Prop := ticketCostsRow.holds Try.pinned (OpenSpec.ofChange ticketCostsWrong)

/-- 'gatelinelaw09.TicketAlike': WHATEVER THE INPUT: true; the input reads as it did. -/
def ticketAlikeSpec : ChangeSpec := { name := "ticketAlike", fn := fun _ => fun
  | [d1, d2] => { results := [.lit (.bool true)], args := [d1, d2] }
  | _ => none }
def ticketAlikeRow : OpenClaim := { program := "ytmcdidbcfhgijaa", sum := "820525275a04a0c39d801a14c733ca3c751bd405eab8160642a39dc445b3b459", func := "gateline/gatelinelaw09.TicketAlike", spec := "ticketAlike", unfollowed := true, recurses := true, apart := false }
def TicketAlikeSaid : Prop := ticketAlikeRow.holds Try.pinned (OpenSpec.ofChange ticketAlikeSpec)

/-- ITS FALSE NEIGHBOUR: 'it returns false'. Refute it at one input. -/
def ticketAlikeWrong : ChangeSpec := { name := "ticketAlike", fn := fun _ => fun
  | [d1, d2] => { results := [.lit (.bool false)], args := [d1, d2] }
  | _ => none }
def TicketAlikeWrongFalsely : Prop := ticketAlikeRow.holds Try.pinned (OpenSpec.ofChange ticketAlikeWrong)

/- THE SECOND FORM. 'bulk': how many values and letters a reading holds, each counted each time it is reached (what is shared counts as often as it is met; a slice's spare places count too). A statement '..UptoSaid' is the law's where the arguments, and the package variables that the reading takes, are together of bulk at most 1048576: NARROWER than '..Said'. Prove '..Said' where nothing that the law and all that it calls make is longer than what came in: it says more and counts as full. Else prove '..UptoSaid'. A law counts once. -/
mutual
def uptoBulk {H : Type} : DataW H → Nat
  | .lit (.string bytes) => bytes.length + 1
  | .lit _ => 1
  | .nil => 1
  | .ptr d => uptoBulk d + 1
  | .slice elems spare => uptoBulkAll elems + uptoBulkAll spare + 1
  | .agg parts => uptoBulkAll parts + 1
  | .iface _ d => uptoBulk d + 1
  | .map entries => uptoBulkEntries entries + 1
  | .held _ => 1
def uptoBulkAll {H : Type} : List (DataW H) → Nat
  | [] => 0
  | d :: r => uptoBulk d + uptoBulkAll r
def uptoBulkEntries {H : Type} : List (Lit × DataW H) → Nat
  | [] => 0
  | x :: r => uptoBulkEntry x + uptoBulkEntries r
def uptoBulkEntry {H : Type} : Lit × DataW H → Nat
  | (.string bytes, d) => bytes.length + uptoBulk d + 1
  | (_, d) => uptoBulk d + 1
 end
def uptoSmall : (H : Type) → List (DataW H) → Bool := fun _ ds => decide (uptoBulkAll ds ≤ 1048576)
def OpenSpec.upto (s : _root_.Go.ChangeSpec) : _root_.Go.OpenSpec := { _root_.Go.OpenSpec.ofChange s with cond := some uptoSmall }

/-- 'gatelinelaw09.TicketIs', WHERE WHAT IT READS IS OF BULK AT MOST 1048576: true; the input reads as it did. -/
def ticketIsUptoRow : OpenClaim := { program := "ytmcdidbcfhgijaa", sum := "820525275a04a0c39d801a14c733ca3c751bd405eab8160642a39dc445b3b459", func := "gateline/gatelinelaw09.TicketIs", spec := "ticketIs", unfollowed := true, recurses := true, apart := false, narrowed := true }
def TicketIsUptoSaid : Prop := ticketIsUptoRow.holds Try.pinned (OpenSpec.upto ticketIsSpec)

/-- 'gatelinelaw09.TicketWay', WHERE WHAT IT READS IS OF BULK AT MOST 1048576: true; the input reads as it did. -/
def ticketWayUptoRow : OpenClaim := { program := "ytmcdidbcfhgijaa", sum := "820525275a04a0c39d801a14c733ca3c751bd405eab8160642a39dc445b3b459", func := "gateline/gatelinelaw09.TicketWay", spec := "ticketWay", unfollowed := true, recurses := true, apart := false, narrowed := true }
def TicketWayUptoSaid : Prop := ticketWayUptoRow.holds Try.pinned (OpenSpec.upto ticketWaySpec)

/-- 'gatelinelaw09.TicketCosts', WHERE WHAT IT READS IS OF BULK AT MOST 1048576: true; the input reads as it did. -/
def ticketCostsUptoRow : OpenClaim := { program := "ytmcdidbcfhgijaa", sum := "820525275a04a0c39d801a14c733ca3c751bd405eab8160642a39dc445b3b459", func := "gateline/gatelinelaw09.TicketCosts", spec := "ticketCosts", unfollowed := true, recurses := true, apart := false, narrowed := true }
def TicketCostsUptoSaid : Prop := ticketCostsUptoRow.holds Try.pinned (OpenSpec.upto ticketCostsSpec)

/-- 'gatelinelaw09.TicketAlike', WHERE WHAT IT READS IS OF BULK AT MOST 1048576: true; the input reads as it did. -/
def ticketAlikeUptoRow : OpenClaim := { program := "ytmcdidbcfhgijaa", sum := "820525275a04a0c39d801a14c733ca3c751bd405eab8160642a39dc445b3b459", func := "gateline/gatelinelaw09.TicketAlike", spec := "ticketAlike", unfollowed := true, recurses := true, apart := false, narrowed := true }
def TicketAlikeUptoSaid : Prop := ticketAlikeUptoRow.holds Try.pinned (OpenSpec.upto ticketAlikeSpec)

end Rows
end Go.Proofs.Ytmcdidbcfhgijaa
