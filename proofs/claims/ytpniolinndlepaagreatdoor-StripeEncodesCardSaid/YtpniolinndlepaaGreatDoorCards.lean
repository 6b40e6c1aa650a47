/-
  DERIVED. GIVEN WITH THE SEED: THE CARDS: each row of YtpniolinndlepaaGreatDoorRows.lean that lists a variable, with what it lists TIED to the program's text (the seventh form; the later family's looks); each row that meets fmt, with fmt's text TOLD by the authors' own Lean function (tested against real Go, not proved from fmt's source: count such statements apart). THE CARD IS WHAT COUNTS. Prove the row's statement (the work); the ties are given (YtpniolinndlepaaGreatDoorTie.lean); close each card by the builder's one call (the guide's Derived/Test/ToyasCard.lean, 'card_holds'). Laid BY PROGRAM, IN A SANDBOX (cutbox-door.mjs). By AI agents, Wed Nov 11 2026. No macro, syntax, notation, axiom, sorry.
-/
import Derived.Test.YtpniolinndlepaaGreatDoorRows
import GoSem.ClaimSeven
namespace Go.Proofs.YtpniolinndlepaaGreatDoor
namespace Rows

/-- THE TIED CARD OF 'gatelinelaw15.StripeEncodes'. -/
def stripeEncodesCard : Claim7 := { stood := { row := stripeEncodesRow, standIns := [], harness := (true, "07c2549c4db5f277039cbabd6ef0da0e2274783d3c4caf3bfdeb40db645a4c97"), looks := true }, kinds := [], alts := [], laidByText := true, laidKinds := [.data, .data], laidTests := true, laidLooks := .later }
def StripeEncodesCardSaid : Prop := Claim7.holds Tryz.pinned (.plain (OpenSpec.ofChange stripeEncodesSpec)) stripeEncodesCard

/-- THE TIED CARD OF 'gatelinelaw15.StripeDecodes'. -/
def stripeDecodesCard : Claim7 := { stood := { row := stripeDecodesRow, standIns := [], harness := (true, "07c2549c4db5f277039cbabd6ef0da0e2274783d3c4caf3bfdeb40db645a4c97"), looks := true }, kinds := [], alts := [], laidByText := true, laidKinds := [.data, .data], laidTests := true, laidLooks := .later }
def StripeDecodesCardSaid : Prop := Claim7.holds Tryz.pinned (.plain (OpenSpec.ofChange stripeDecodesSpec)) stripeDecodesCard

/-- THE TIED CARD OF 'gatelinelaw15.StripeTags'. -/
def stripeTagsCard : Claim7 := { stood := { row := stripeTagsRow, standIns := [], harness := (true, "07c2549c4db5f277039cbabd6ef0da0e2274783d3c4caf3bfdeb40db645a4c97"), looks := true }, kinds := [], alts := [], laidByText := true, laidKinds := [.data, .data], laidTests := true, laidLooks := .later }
def StripeTagsCardSaid : Prop := Claim7.holds Tryz.pinned (.plain (OpenSpec.ofChange stripeTagsSpec)) stripeTagsCard

/-- THE TIED CARD OF 'gatelinelaw15.StripeBack'. -/
def stripeBackCard : Claim7 := { stood := { row := stripeBackRow, standIns := [], harness := (true, "07c2549c4db5f277039cbabd6ef0da0e2274783d3c4caf3bfdeb40db645a4c97"), looks := true }, kinds := [], alts := [], laidByText := true, laidKinds := [.data, .data], laidTests := true, laidLooks := .later }
def StripeBackCardSaid : Prop := Claim7.holds Tryz.pinned (.plain (OpenSpec.ofChange stripeBackSpec)) stripeBackCard

/-- THE TIED CARD OF 'gatelinelaw15.StripeOne'. -/
def stripeOneCard : Claim7 := { stood := { row := stripeOneRow, standIns := [], harness := (true, "07c2549c4db5f277039cbabd6ef0da0e2274783d3c4caf3bfdeb40db645a4c97"), looks := true }, kinds := [], alts := [], laidByText := true, laidKinds := [.data, .data], laidTests := true, laidLooks := .later }
def StripeOneCardSaid : Prop := Claim7.holds Tryz.pinned (.plain (OpenSpec.ofChange stripeOneSpec)) stripeOneCard

/-- THE TIED CARD OF 'gatelinelaw15.StripeKeys'. -/
def stripeKeysCard : Claim7 := { stood := { row := stripeKeysRow, standIns := [], harness := (true, "07c2549c4db5f277039cbabd6ef0da0e2274783d3c4caf3bfdeb40db645a4c97"), looks := true }, kinds := [], alts := [], laidByText := true, laidKinds := [.data, .data], laidTests := true, laidLooks := .later }
def StripeKeysCardSaid : Prop := Claim7.holds Tryz.pinned (.plain (OpenSpec.ofChange stripeKeysSpec)) stripeKeysCard

/-- THE SECOND FORM's CARD OF 'gatelinelaw15.StripeEncodes'. -/
def stripeEncodesUptoCard : Claim7 := { stood := { row := stripeEncodesUptoRow, standIns := [], harness := (true, "07c2549c4db5f277039cbabd6ef0da0e2274783d3c4caf3bfdeb40db645a4c97"), looks := true }, kinds := [], alts := [], laidByText := true, laidKinds := [.data, .data], laidTests := true, laidLooks := .later }
def StripeEncodesUptoCardSaid : Prop := Claim7.holds Tryz.pinned (.plain (OpenSpec.upto stripeEncodesSpec)) stripeEncodesUptoCard

/-- THE SECOND FORM's CARD OF 'gatelinelaw15.StripeDecodes'. -/
def stripeDecodesUptoCard : Claim7 := { stood := { row := stripeDecodesUptoRow, standIns := [], harness := (true, "07c2549c4db5f277039cbabd6ef0da0e2274783d3c4caf3bfdeb40db645a4c97"), looks := true }, kinds := [], alts := [], laidByText := true, laidKinds := [.data, .data], laidTests := true, laidLooks := .later }
def StripeDecodesUptoCardSaid : Prop := Claim7.holds Tryz.pinned (.plain (OpenSpec.upto stripeDecodesSpec)) stripeDecodesUptoCard

/-- THE SECOND FORM's CARD OF 'gatelinelaw15.StripeTags'. -/
def stripeTagsUptoCard : Claim7 := { stood := { row := stripeTagsUptoRow, standIns := [], harness := (true, "07c2549c4db5f277039cbabd6ef0da0e2274783d3c4caf3bfdeb40db645a4c97"), looks := true }, kinds := [], alts := [], laidByText := true, laidKinds := [.data, .data], laidTests := true, laidLooks := .later }
def StripeTagsUptoCardSaid : Prop := Claim7.holds Tryz.pinned (.plain (OpenSpec.upto stripeTagsSpec)) stripeTagsUptoCard

/-- THE SECOND FORM's CARD OF 'gatelinelaw15.StripeBack'. -/
def stripeBackUptoCard : Claim7 := { stood := { row := stripeBackUptoRow, standIns := [], harness := (true, "07c2549c4db5f277039cbabd6ef0da0e2274783d3c4caf3bfdeb40db645a4c97"), looks := true }, kinds := [], alts := [], laidByText := true, laidKinds := [.data, .data], laidTests := true, laidLooks := .later }
def StripeBackUptoCardSaid : Prop := Claim7.holds Tryz.pinned (.plain (OpenSpec.upto stripeBackSpec)) stripeBackUptoCard

/-- THE SECOND FORM's CARD OF 'gatelinelaw15.StripeOne'. -/
def stripeOneUptoCard : Claim7 := { stood := { row := stripeOneUptoRow, standIns := [], harness := (true, "07c2549c4db5f277039cbabd6ef0da0e2274783d3c4caf3bfdeb40db645a4c97"), looks := true }, kinds := [], alts := [], laidByText := true, laidKinds := [.data, .data], laidTests := true, laidLooks := .later }
def StripeOneUptoCardSaid : Prop := Claim7.holds Tryz.pinned (.plain (OpenSpec.upto stripeOneSpec)) stripeOneUptoCard

/-- THE SECOND FORM's CARD OF 'gatelinelaw15.StripeKeys'. -/
def stripeKeysUptoCard : Claim7 := { stood := { row := stripeKeysUptoRow, standIns := [], harness := (true, "07c2549c4db5f277039cbabd6ef0da0e2274783d3c4caf3bfdeb40db645a4c97"), looks := true }, kinds := [], alts := [], laidByText := true, laidKinds := [.data, .data], laidTests := true, laidLooks := .later }
def StripeKeysUptoCardSaid : Prop := Claim7.holds Tryz.pinned (.plain (OpenSpec.upto stripeKeysSpec)) stripeKeysUptoCard
end Rows
end Go.Proofs.YtpniolinndlepaaGreatDoor
