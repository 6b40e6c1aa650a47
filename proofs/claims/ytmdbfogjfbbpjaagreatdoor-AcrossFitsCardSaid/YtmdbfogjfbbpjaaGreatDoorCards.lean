/-
  DERIVED. GIVEN WITH THE SEED: THE CARDS: each row of YtmdbfogjfbbpjaaGreatDoorRows.lean that lists a variable, with what it lists TIED to the program's text (the seventh form; the later family's looks); each row that meets fmt, with fmt's text TOLD by the authors' own Lean function (tested against real Go, not proved from fmt's source: count such statements apart). THE CARD IS WHAT COUNTS. Prove the row's statement (the work); the ties are given (YtmdbfogjfbbpjaaGreatDoorTie.lean); close each card by the builder's one call (the guide's Derived/Test/ToyasCard.lean, 'card_holds'). Laid BY PROGRAM, IN A SANDBOX (cutbox-door.mjs). By AI agents, Wed Nov 11 2026. No macro, syntax, notation, axiom, sorry.
-/
import Derived.Test.YtmdbfogjfbbpjaaGreatDoorRows
import GoSem.ClaimSeven
namespace Go.Proofs.YtmdbfogjfbbpjaaGreatDoor
namespace Rows

/-- THE TIED CARD OF 'gatelinelaw21.AcrossBarcode'. -/
def acrossBarcodeCard : Claim7 := { stood := { row := acrossBarcodeRow, standIns := [], harness := (true, "281aed11ceb71e19b0216b5e7ab330bb7733fa436b0ada0b923aa37a2628e0ee"), looks := true }, kinds := [], alts := [], laidByText := true, laidKinds := [.data, .data], laidTests := true, laidLooks := .later }
def AcrossBarcodeCardSaid : Prop := Claim7.holds Tryz.pinned (.plain (OpenSpec.ofChange acrossBarcodeSpec)) acrossBarcodeCard

/-- THE TIED CARD OF 'gatelinelaw21.AcrossStripe'. -/
def acrossStripeCard : Claim7 := { stood := { row := acrossStripeRow, standIns := [], harness := (true, "281aed11ceb71e19b0216b5e7ab330bb7733fa436b0ada0b923aa37a2628e0ee"), looks := true }, kinds := [], alts := [], laidByText := true, laidKinds := [.data, .data], laidTests := true, laidLooks := .later }
def AcrossStripeCardSaid : Prop := Claim7.holds Tryz.pinned (.plain (OpenSpec.ofChange acrossStripeSpec)) acrossStripeCard

/-- THE TIED CARD OF 'gatelinelaw21.AcrossBack'. -/
def acrossBackCard : Claim7 := { stood := { row := acrossBackRow, standIns := [], harness := (true, "281aed11ceb71e19b0216b5e7ab330bb7733fa436b0ada0b923aa37a2628e0ee"), looks := true }, kinds := [], alts := [], laidByText := true, laidKinds := [.data, .data], laidTests := true, laidLooks := .later }
def AcrossBackCardSaid : Prop := Claim7.holds Tryz.pinned (.plain (OpenSpec.ofChange acrossBackSpec)) acrossBackCard

/-- THE TIED CARD OF 'gatelinelaw21.AcrossForth'. -/
def acrossForthCard : Claim7 := { stood := { row := acrossForthRow, standIns := [], harness := (true, "281aed11ceb71e19b0216b5e7ab330bb7733fa436b0ada0b923aa37a2628e0ee"), looks := true }, kinds := [], alts := [], laidByText := true, laidKinds := [.data, .data], laidTests := true, laidLooks := .later }
def AcrossForthCardSaid : Prop := Claim7.holds Tryz.pinned (.plain (OpenSpec.ofChange acrossForthSpec)) acrossForthCard

/-- THE TIED CARD OF 'gatelinelaw21.AcrossFits'. -/
def acrossFitsCard : Claim7 := { stood := { row := acrossFitsRow, standIns := [], harness := (true, "281aed11ceb71e19b0216b5e7ab330bb7733fa436b0ada0b923aa37a2628e0ee"), looks := true }, kinds := [], alts := [], laidByText := true, laidKinds := [.data, .data], laidTests := true, laidLooks := .later }
def AcrossFitsCardSaid : Prop := Claim7.holds Tryz.pinned (.plain (OpenSpec.ofChange acrossFitsSpec)) acrossFitsCard

/-- THE SECOND FORM's CARD OF 'gatelinelaw21.AcrossBarcode'. -/
def acrossBarcodeUptoCard : Claim7 := { stood := { row := acrossBarcodeUptoRow, standIns := [], harness := (true, "281aed11ceb71e19b0216b5e7ab330bb7733fa436b0ada0b923aa37a2628e0ee"), looks := true }, kinds := [], alts := [], laidByText := true, laidKinds := [.data, .data], laidTests := true, laidLooks := .later }
def AcrossBarcodeUptoCardSaid : Prop := Claim7.holds Tryz.pinned (.plain (OpenSpec.upto acrossBarcodeSpec)) acrossBarcodeUptoCard

/-- THE SECOND FORM's CARD OF 'gatelinelaw21.AcrossStripe'. -/
def acrossStripeUptoCard : Claim7 := { stood := { row := acrossStripeUptoRow, standIns := [], harness := (true, "281aed11ceb71e19b0216b5e7ab330bb7733fa436b0ada0b923aa37a2628e0ee"), looks := true }, kinds := [], alts := [], laidByText := true, laidKinds := [.data, .data], laidTests := true, laidLooks := .later }
def AcrossStripeUptoCardSaid : Prop := Claim7.holds Tryz.pinned (.plain (OpenSpec.upto acrossStripeSpec)) acrossStripeUptoCard

/-- THE SECOND FORM's CARD OF 'gatelinelaw21.AcrossBack'. -/
def acrossBackUptoCard : Claim7 := { stood := { row := acrossBackUptoRow, standIns := [], harness := (true, "281aed11ceb71e19b0216b5e7ab330bb7733fa436b0ada0b923aa37a2628e0ee"), looks := true }, kinds := [], alts := [], laidByText := true, laidKinds := [.data, .data], laidTests := true, laidLooks := .later }
def AcrossBackUptoCardSaid : Prop := Claim7.holds Tryz.pinned (.plain (OpenSpec.upto acrossBackSpec)) acrossBackUptoCard

/-- THE SECOND FORM's CARD OF 'gatelinelaw21.AcrossForth'. -/
def acrossForthUptoCard : Claim7 := { stood := { row := acrossForthUptoRow, standIns := [], harness := (true, "281aed11ceb71e19b0216b5e7ab330bb7733fa436b0ada0b923aa37a2628e0ee"), looks := true }, kinds := [], alts := [], laidByText := true, laidKinds := [.data, .data], laidTests := true, laidLooks := .later }
def AcrossForthUptoCardSaid : Prop := Claim7.holds Tryz.pinned (.plain (OpenSpec.upto acrossForthSpec)) acrossForthUptoCard

/-- THE SECOND FORM's CARD OF 'gatelinelaw21.AcrossFits'. -/
def acrossFitsUptoCard : Claim7 := { stood := { row := acrossFitsUptoRow, standIns := [], harness := (true, "281aed11ceb71e19b0216b5e7ab330bb7733fa436b0ada0b923aa37a2628e0ee"), looks := true }, kinds := [], alts := [], laidByText := true, laidKinds := [.data, .data], laidTests := true, laidLooks := .later }
def AcrossFitsUptoCardSaid : Prop := Claim7.holds Tryz.pinned (.plain (OpenSpec.upto acrossFitsSpec)) acrossFitsUptoCard
end Rows
end Go.Proofs.YtmdbfogjfbbpjaaGreatDoor
