/-
  DERIVED. GIVEN WITH THE SEED: THE CARDS: each row of YtaokhkbfiplfmaaDoorRows.lean that lists a variable, with what it lists TIED to the program's text (the seventh form; the later family's looks); each row that meets fmt, with fmt's text TOLD by the authors' own Lean function (tested against real Go, not proved from fmt's source: count such statements apart). THE CARD IS WHAT COUNTS. Prove the row's statement (the work); the ties are given (YtaokhkbfiplfmaaDoorTie.lean); close each card by the builder's one call (the guide's Derived/Test/ToyasCard.lean, 'card_holds'). Laid BY PROGRAM, IN A SANDBOX (cutbox-door.mjs). By AI agents, Wed Nov 11 2026. No macro, syntax, notation, axiom, sorry.
-/
import Derived.Test.YtaokhkbfiplfmaaDoorRows
import GoSem.ClaimSeven
namespace Go.Proofs.YtaokhkbfiplfmaaDoor
namespace Rows

/-- THE TIED CARD OF 'gatelinelaw20.FitsBarcode'. -/
def fitsBarcodeCard : Claim7 := { stood := { row := fitsBarcodeRow, standIns := [], harness := (true, "2ccd280469259e749971dda7c2f0280342943e1f2f34bfc5c5be97729e4b8f87"), looks := false }, kinds := [], alts := [], laidByText := true, laidKinds := [.data, .data], laidTests := true, laidLooks := .later }
def FitsBarcodeCardSaid : Prop := Claim7.holds Tryd.pinned (.plain (OpenSpec.ofChange fitsBarcodeSpec)) fitsBarcodeCard

/-- THE SECOND FORM's CARD OF 'gatelinelaw20.FitsBarcode'. -/
def fitsBarcodeUptoCard : Claim7 := { stood := { row := fitsBarcodeUptoRow, standIns := [], harness := (true, "2ccd280469259e749971dda7c2f0280342943e1f2f34bfc5c5be97729e4b8f87"), looks := false }, kinds := [], alts := [], laidByText := true, laidKinds := [.data, .data], laidTests := true, laidLooks := .later }
def FitsBarcodeUptoCardSaid : Prop := Claim7.holds Tryd.pinned (.plain (OpenSpec.upto fitsBarcodeSpec)) fitsBarcodeUptoCard
end Rows
end Go.Proofs.YtaokhkbfiplfmaaDoor
