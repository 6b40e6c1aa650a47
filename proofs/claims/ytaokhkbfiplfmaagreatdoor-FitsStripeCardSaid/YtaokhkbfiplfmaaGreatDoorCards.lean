/-
  DERIVED. GIVEN WITH THE SEED: THE CARDS: each row of YtaokhkbfiplfmaaGreatDoorRows.lean that lists a variable, with what it lists TIED to the program's text (the seventh form; the later family's looks); each row that meets fmt, with fmt's text TOLD by the authors' own Lean function (tested against real Go, not proved from fmt's source: count such statements apart). THE CARD IS WHAT COUNTS. Prove the row's statement (the work); the ties are given (YtaokhkbfiplfmaaGreatDoorTie.lean); close each card by the builder's one call (the guide's Derived/Test/ToyasCard.lean, 'card_holds'). Laid BY PROGRAM, IN A SANDBOX (cutbox-door.mjs). By AI agents, Wed Nov 11 2026. No macro, syntax, notation, axiom, sorry.
-/
import Derived.Test.YtaokhkbfiplfmaaGreatDoorRows
import GoSem.ClaimSeven
namespace Go.Proofs.YtaokhkbfiplfmaaGreatDoor
namespace Rows

/-- THE TIED CARD OF 'gatelinelaw20.FitsStripe'. -/
def fitsStripeCard : Claim7 := { stood := { row := fitsStripeRow, standIns := [], harness := (true, "9bcd0b8576a7985100b3b0db709b276470f4103b938e3fee0fde3def7af7ddc6"), looks := false }, kinds := [], alts := [], laidByText := true, laidKinds := [.data, .data], laidTests := true, laidLooks := .later }
def FitsStripeCardSaid : Prop := Claim7.holds Tryz.pinned (.plain (OpenSpec.ofChange fitsStripeSpec)) fitsStripeCard

/-- THE SECOND FORM's CARD OF 'gatelinelaw20.FitsStripe'. -/
def fitsStripeUptoCard : Claim7 := { stood := { row := fitsStripeUptoRow, standIns := [], harness := (true, "9bcd0b8576a7985100b3b0db709b276470f4103b938e3fee0fde3def7af7ddc6"), looks := false }, kinds := [], alts := [], laidByText := true, laidKinds := [.data, .data], laidTests := true, laidLooks := .later }
def FitsStripeUptoCardSaid : Prop := Claim7.holds Tryz.pinned (.plain (OpenSpec.upto fitsStripeSpec)) fitsStripeUptoCard
end Rows
end Go.Proofs.YtaokhkbfiplfmaaGreatDoor
