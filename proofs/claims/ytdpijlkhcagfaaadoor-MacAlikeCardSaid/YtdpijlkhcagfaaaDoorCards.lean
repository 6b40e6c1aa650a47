/-
  DERIVED. GIVEN WITH THE SEED: THE CARDS: each row of YtdpijlkhcagfaaaDoorRows.lean that lists a variable, with what it lists TIED to the program's text (the seventh form; the later family's looks); each row that meets fmt, with fmt's text TOLD by the authors' own Lean function (tested against real Go, not proved from fmt's source: count such statements apart). THE CARD IS WHAT COUNTS. Prove the row's statement (the work); the ties are given (YtdpijlkhcagfaaaDoorTie.lean); close each card by the builder's one call (the guide's Derived/Test/ToyasCard.lean, 'card_holds'). Laid BY PROGRAM, IN A SANDBOX (cutbox-door.mjs). By AI agents, Wed Nov 11 2026. No macro, syntax, notation, axiom, sorry.
-/
import Derived.Test.YtdpijlkhcagfaaaDoorRows
import GoSem.ClaimSeven
namespace Go.Proofs.YtdpijlkhcagfaaaDoor
namespace Rows

/-- THE TIED CARD OF 'gatelinelaw02.ShaBlocks'. -/
def shaBlocksCard : Claim7 := { stood := { row := shaBlocksRow, standIns := [], harness := (true, "4291f22f367c4c2e80a7423ec4e601672e7c1a44dbfc2e9a8b03e78bd73e6ab1"), looks := false }, kinds := [], alts := [], laidByText := true, laidKinds := [.data, .data], laidTests := true, laidLooks := .later }
def ShaBlocksCardSaid : Prop := Claim7.holds Tryd.pinned (.plain (OpenSpec.ofChange shaBlocksSpec)) shaBlocksCard

/-- THE TIED CARD OF 'gatelinelaw02.ShaParts'. -/
def shaPartsCard : Claim7 := { stood := { row := shaPartsRow, standIns := [], harness := (true, "4291f22f367c4c2e80a7423ec4e601672e7c1a44dbfc2e9a8b03e78bd73e6ab1"), looks := false }, kinds := [], alts := [], laidByText := true, laidKinds := [.data, .data], laidTests := true, laidLooks := .later }
def ShaPartsCardSaid : Prop := Claim7.holds Tryd.pinned (.plain (OpenSpec.ofChange shaPartsSpec)) shaPartsCard

/-- THE TIED CARD OF 'gatelinelaw03.MacTags'. -/
def macTagsCard : Claim7 := { stood := { row := macTagsRow, standIns := [], harness := (true, "4291f22f367c4c2e80a7423ec4e601672e7c1a44dbfc2e9a8b03e78bd73e6ab1"), looks := false }, kinds := [], alts := [], laidByText := true, laidKinds := [.data, .data], laidTests := true, laidLooks := .later }
def MacTagsCardSaid : Prop := Claim7.holds Tryd.pinned (.plain (OpenSpec.ofChange macTagsSpec)) macTagsCard

/-- THE TIED CARD OF 'gatelinelaw03.MacAlike'. -/
def macAlikeCard : Claim7 := { stood := { row := macAlikeRow, standIns := [], harness := (true, "4291f22f367c4c2e80a7423ec4e601672e7c1a44dbfc2e9a8b03e78bd73e6ab1"), looks := false }, kinds := [], alts := [], laidByText := true, laidKinds := [.data, .data], laidTests := true, laidLooks := .later }
def MacAlikeCardSaid : Prop := Claim7.holds Tryd.pinned (.plain (OpenSpec.ofChange macAlikeSpec)) macAlikeCard

/-- THE TIED CARD OF 'gatelinelaw03.MacInner'. -/
def macInnerCard : Claim7 := { stood := { row := macInnerRow, standIns := [], harness := (true, "4291f22f367c4c2e80a7423ec4e601672e7c1a44dbfc2e9a8b03e78bd73e6ab1"), looks := false }, kinds := [], alts := [], laidByText := true, laidKinds := [.data, .data], laidTests := true, laidLooks := .later }
def MacInnerCardSaid : Prop := Claim7.holds Tryd.pinned (.plain (OpenSpec.ofChange macInnerSpec)) macInnerCard

/-- THE SECOND FORM's CARD OF 'gatelinelaw02.ShaBlocks'. -/
def shaBlocksUptoCard : Claim7 := { stood := { row := shaBlocksUptoRow, standIns := [], harness := (true, "4291f22f367c4c2e80a7423ec4e601672e7c1a44dbfc2e9a8b03e78bd73e6ab1"), looks := false }, kinds := [], alts := [], laidByText := true, laidKinds := [.data, .data], laidTests := true, laidLooks := .later }
def ShaBlocksUptoCardSaid : Prop := Claim7.holds Tryd.pinned (.plain (OpenSpec.upto shaBlocksSpec)) shaBlocksUptoCard

/-- THE SECOND FORM's CARD OF 'gatelinelaw02.ShaParts'. -/
def shaPartsUptoCard : Claim7 := { stood := { row := shaPartsUptoRow, standIns := [], harness := (true, "4291f22f367c4c2e80a7423ec4e601672e7c1a44dbfc2e9a8b03e78bd73e6ab1"), looks := false }, kinds := [], alts := [], laidByText := true, laidKinds := [.data, .data], laidTests := true, laidLooks := .later }
def ShaPartsUptoCardSaid : Prop := Claim7.holds Tryd.pinned (.plain (OpenSpec.upto shaPartsSpec)) shaPartsUptoCard

/-- THE SECOND FORM's CARD OF 'gatelinelaw03.MacTags'. -/
def macTagsUptoCard : Claim7 := { stood := { row := macTagsUptoRow, standIns := [], harness := (true, "4291f22f367c4c2e80a7423ec4e601672e7c1a44dbfc2e9a8b03e78bd73e6ab1"), looks := false }, kinds := [], alts := [], laidByText := true, laidKinds := [.data, .data], laidTests := true, laidLooks := .later }
def MacTagsUptoCardSaid : Prop := Claim7.holds Tryd.pinned (.plain (OpenSpec.upto macTagsSpec)) macTagsUptoCard

/-- THE SECOND FORM's CARD OF 'gatelinelaw03.MacAlike'. -/
def macAlikeUptoCard : Claim7 := { stood := { row := macAlikeUptoRow, standIns := [], harness := (true, "4291f22f367c4c2e80a7423ec4e601672e7c1a44dbfc2e9a8b03e78bd73e6ab1"), looks := false }, kinds := [], alts := [], laidByText := true, laidKinds := [.data, .data], laidTests := true, laidLooks := .later }
def MacAlikeUptoCardSaid : Prop := Claim7.holds Tryd.pinned (.plain (OpenSpec.upto macAlikeSpec)) macAlikeUptoCard

/-- THE SECOND FORM's CARD OF 'gatelinelaw03.MacInner'. -/
def macInnerUptoCard : Claim7 := { stood := { row := macInnerUptoRow, standIns := [], harness := (true, "4291f22f367c4c2e80a7423ec4e601672e7c1a44dbfc2e9a8b03e78bd73e6ab1"), looks := false }, kinds := [], alts := [], laidByText := true, laidKinds := [.data, .data], laidTests := true, laidLooks := .later }
def MacInnerUptoCardSaid : Prop := Claim7.holds Tryd.pinned (.plain (OpenSpec.upto macInnerSpec)) macInnerUptoCard
end Rows
end Go.Proofs.YtdpijlkhcagfaaaDoor
