/-
  DERIVED. GIVEN WITH THE SEED: THE CARDS: each row of YtcnglbliidjnfaaGreatDoorRows.lean that lists a variable, with what it lists TIED to the program's text (the seventh form; the later family's looks); each row that meets fmt, with fmt's text TOLD by the authors' own Lean function (tested against real Go, not proved from fmt's source: count such statements apart). THE CARD IS WHAT COUNTS. Prove the row's statement (the work); the ties are given (YtcnglbliidjnfaaGreatDoorTie.lean); close each card by the builder's one call (the guide's Derived/Test/ToyasCard.lean, 'card_holds'). Laid BY PROGRAM, IN A SANDBOX (cutbox-door.mjs). By AI agents, Wed Nov 11 2026. No macro, syntax, notation, axiom, sorry.
-/
import Derived.Test.YtcnglbliidjnfaaGreatDoorRows
import GoSem.ClaimSeven
namespace Go.Proofs.YtcnglbliidjnfaaGreatDoor
namespace Rows

/-- THE TIED CARD OF 'gatelinelaw19.BarcodeEncodes'. -/
def barcodeEncodesCard : Claim7 := { stood := { row := barcodeEncodesRow, standIns := [], harness := (true, "27fb5b0e375dd3b536a378cc569f8737b56f1c372abb603ab218243cb10b52d1"), looks := false }, kinds := [], alts := [], laidByText := true, laidKinds := [.data, .data], laidTests := true, laidLooks := .later }
def BarcodeEncodesCardSaid : Prop := Claim7.holds Tryz.pinned (.plain (OpenSpec.ofChange barcodeEncodesSpec)) barcodeEncodesCard

/-- THE TIED CARD OF 'gatelinelaw19.BarcodeDecodes'. -/
def barcodeDecodesCard : Claim7 := { stood := { row := barcodeDecodesRow, standIns := [], harness := (true, "27fb5b0e375dd3b536a378cc569f8737b56f1c372abb603ab218243cb10b52d1"), looks := false }, kinds := [], alts := [], laidByText := true, laidKinds := [.data, .data], laidTests := true, laidLooks := .later }
def BarcodeDecodesCardSaid : Prop := Claim7.holds Tryz.pinned (.plain (OpenSpec.ofChange barcodeDecodesSpec)) barcodeDecodesCard

/-- THE TIED CARD OF 'gatelinelaw19.BarcodeTags'. -/
def barcodeTagsCard : Claim7 := { stood := { row := barcodeTagsRow, standIns := [], harness := (true, "27fb5b0e375dd3b536a378cc569f8737b56f1c372abb603ab218243cb10b52d1"), looks := false }, kinds := [], alts := [], laidByText := true, laidKinds := [.data, .data], laidTests := true, laidLooks := .later }
def BarcodeTagsCardSaid : Prop := Claim7.holds Tryz.pinned (.plain (OpenSpec.ofChange barcodeTagsSpec)) barcodeTagsCard

/-- THE TIED CARD OF 'gatelinelaw19.BarcodeBack'. -/
def barcodeBackCard : Claim7 := { stood := { row := barcodeBackRow, standIns := [], harness := (true, "27fb5b0e375dd3b536a378cc569f8737b56f1c372abb603ab218243cb10b52d1"), looks := false }, kinds := [], alts := [], laidByText := true, laidKinds := [.data, .data], laidTests := true, laidLooks := .later }
def BarcodeBackCardSaid : Prop := Claim7.holds Tryz.pinned (.plain (OpenSpec.ofChange barcodeBackSpec)) barcodeBackCard

/-- THE TIED CARD OF 'gatelinelaw19.BarcodeOne'. -/
def barcodeOneCard : Claim7 := { stood := { row := barcodeOneRow, standIns := [], harness := (true, "27fb5b0e375dd3b536a378cc569f8737b56f1c372abb603ab218243cb10b52d1"), looks := false }, kinds := [], alts := [], laidByText := true, laidKinds := [.data, .data], laidTests := true, laidLooks := .later }
def BarcodeOneCardSaid : Prop := Claim7.holds Tryz.pinned (.plain (OpenSpec.ofChange barcodeOneSpec)) barcodeOneCard

/-- THE TIED CARD OF 'gatelinelaw19.BarcodeSeals'. -/
def barcodeSealsCard : Claim7 := { stood := { row := barcodeSealsRow, standIns := [], harness := (true, "27fb5b0e375dd3b536a378cc569f8737b56f1c372abb603ab218243cb10b52d1"), looks := false }, kinds := [], alts := [], laidByText := true, laidKinds := [.data, .data], laidTests := true, laidLooks := .later }
def BarcodeSealsCardSaid : Prop := Claim7.holds Tryz.pinned (.plain (OpenSpec.ofChange barcodeSealsSpec)) barcodeSealsCard

/-- THE TIED CARD OF 'gatelinelaw19.BarcodeKeys'. -/
def barcodeKeysCard : Claim7 := { stood := { row := barcodeKeysRow, standIns := [], harness := (true, "27fb5b0e375dd3b536a378cc569f8737b56f1c372abb603ab218243cb10b52d1"), looks := false }, kinds := [], alts := [], laidByText := true, laidKinds := [.data, .data], laidTests := true, laidLooks := .later }
def BarcodeKeysCardSaid : Prop := Claim7.holds Tryz.pinned (.plain (OpenSpec.ofChange barcodeKeysSpec)) barcodeKeysCard

/-- THE SECOND FORM's CARD OF 'gatelinelaw19.BarcodeEncodes'. -/
def barcodeEncodesUptoCard : Claim7 := { stood := { row := barcodeEncodesUptoRow, standIns := [], harness := (true, "27fb5b0e375dd3b536a378cc569f8737b56f1c372abb603ab218243cb10b52d1"), looks := false }, kinds := [], alts := [], laidByText := true, laidKinds := [.data, .data], laidTests := true, laidLooks := .later }
def BarcodeEncodesUptoCardSaid : Prop := Claim7.holds Tryz.pinned (.plain (OpenSpec.upto barcodeEncodesSpec)) barcodeEncodesUptoCard

/-- THE SECOND FORM's CARD OF 'gatelinelaw19.BarcodeDecodes'. -/
def barcodeDecodesUptoCard : Claim7 := { stood := { row := barcodeDecodesUptoRow, standIns := [], harness := (true, "27fb5b0e375dd3b536a378cc569f8737b56f1c372abb603ab218243cb10b52d1"), looks := false }, kinds := [], alts := [], laidByText := true, laidKinds := [.data, .data], laidTests := true, laidLooks := .later }
def BarcodeDecodesUptoCardSaid : Prop := Claim7.holds Tryz.pinned (.plain (OpenSpec.upto barcodeDecodesSpec)) barcodeDecodesUptoCard

/-- THE SECOND FORM's CARD OF 'gatelinelaw19.BarcodeTags'. -/
def barcodeTagsUptoCard : Claim7 := { stood := { row := barcodeTagsUptoRow, standIns := [], harness := (true, "27fb5b0e375dd3b536a378cc569f8737b56f1c372abb603ab218243cb10b52d1"), looks := false }, kinds := [], alts := [], laidByText := true, laidKinds := [.data, .data], laidTests := true, laidLooks := .later }
def BarcodeTagsUptoCardSaid : Prop := Claim7.holds Tryz.pinned (.plain (OpenSpec.upto barcodeTagsSpec)) barcodeTagsUptoCard

/-- THE SECOND FORM's CARD OF 'gatelinelaw19.BarcodeBack'. -/
def barcodeBackUptoCard : Claim7 := { stood := { row := barcodeBackUptoRow, standIns := [], harness := (true, "27fb5b0e375dd3b536a378cc569f8737b56f1c372abb603ab218243cb10b52d1"), looks := false }, kinds := [], alts := [], laidByText := true, laidKinds := [.data, .data], laidTests := true, laidLooks := .later }
def BarcodeBackUptoCardSaid : Prop := Claim7.holds Tryz.pinned (.plain (OpenSpec.upto barcodeBackSpec)) barcodeBackUptoCard

/-- THE SECOND FORM's CARD OF 'gatelinelaw19.BarcodeOne'. -/
def barcodeOneUptoCard : Claim7 := { stood := { row := barcodeOneUptoRow, standIns := [], harness := (true, "27fb5b0e375dd3b536a378cc569f8737b56f1c372abb603ab218243cb10b52d1"), looks := false }, kinds := [], alts := [], laidByText := true, laidKinds := [.data, .data], laidTests := true, laidLooks := .later }
def BarcodeOneUptoCardSaid : Prop := Claim7.holds Tryz.pinned (.plain (OpenSpec.upto barcodeOneSpec)) barcodeOneUptoCard

/-- THE SECOND FORM's CARD OF 'gatelinelaw19.BarcodeSeals'. -/
def barcodeSealsUptoCard : Claim7 := { stood := { row := barcodeSealsUptoRow, standIns := [], harness := (true, "27fb5b0e375dd3b536a378cc569f8737b56f1c372abb603ab218243cb10b52d1"), looks := false }, kinds := [], alts := [], laidByText := true, laidKinds := [.data, .data], laidTests := true, laidLooks := .later }
def BarcodeSealsUptoCardSaid : Prop := Claim7.holds Tryz.pinned (.plain (OpenSpec.upto barcodeSealsSpec)) barcodeSealsUptoCard

/-- THE SECOND FORM's CARD OF 'gatelinelaw19.BarcodeKeys'. -/
def barcodeKeysUptoCard : Claim7 := { stood := { row := barcodeKeysUptoRow, standIns := [], harness := (true, "27fb5b0e375dd3b536a378cc569f8737b56f1c372abb603ab218243cb10b52d1"), looks := false }, kinds := [], alts := [], laidByText := true, laidKinds := [.data, .data], laidTests := true, laidLooks := .later }
def BarcodeKeysUptoCardSaid : Prop := Claim7.holds Tryz.pinned (.plain (OpenSpec.upto barcodeKeysSpec)) barcodeKeysUptoCard
end Rows
end Go.Proofs.YtcnglbliidjnfaaGreatDoor
