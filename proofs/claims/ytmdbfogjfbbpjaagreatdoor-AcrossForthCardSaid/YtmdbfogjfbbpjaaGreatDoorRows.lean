/-
  NARROWER THAN 'FOR EVERY INPUT', by the rows' own cells (each row's printed sentence says how): AcrossBarcode: laid · AcrossStripe: laid · AcrossBack: laid · AcrossForth: laid · AcrossFits: laid.
  DERIVED. THE GIVEN ROWS OF THIS SEAT. 5 by the template 'for every input the law returns true; each argument reads behind the call as it read before'; 0 by the template 'total and deterministic' (their statements: YtmdbfogjfbbpjaaGreatDoorTotals.lean).
  GIVEN WITH THE SEED: the statements are not yours to turn. If you find one false, say at which input.
  Laid BY PROGRAM, IN A SANDBOX (cutbox-rows.mjs): the forced cells as the released guide's own fill.sh prints them over the translation e372f8499302b0c3… (all of the seat's roots in one cut). By AI agents, Wed Nov 11 2026. No macro, syntax, notation, axiom, sorry.
-/
import Derived.Test.YtmdbfogjfbbpjaaGreatDoorChecked
import GoSem.Claim
import GoSem.ClaimJoined
import GoSem.ClaimMapViews
import Derived.JoinedTies
import Derived.KernelRfl
namespace Go.Proofs.YtmdbfogjfbbpjaaGreatDoor
/- THE CELL 'sum', in the pinned program and in every row, IS THE sha256 OF THE DUMP (.gsa) THAT YtmdbfogjfbbpjaaGreatDoorProg.lean LOADS. Nothing in Lean hashes anything: it is a label: what it is worth is what the hold of that sum in a sandbox is worth. -/
noncomputable def Tryz.pinned : Pinned := { name := "ytmdbfogjfbbpjaagreatdoor", sum := "e372f8499302b0c3548de431aca190176d0e9f07cf0f19690bf831b1aac437b9", checked := Tryz.checked }
namespace Rows
def none {H : Type} : Left H := { results := [], args := [] }

/- WHAT THE LISTED PACKAGE-LEVEL VARIABLES READ AS WHEN THE CALL BEGINS. Each datum BY PROGRAM (the guide's laid-datum.mjs) off the statement by which the dump's own 'gosem.cut.vars' lays the variable. In a bare row this is a premise. The card (YtmdbfogjfbbpjaaGreatDoorCards.lean) ties it to the program's text. -/
def laid_gateline_sha_constants {H : Type} : DataW H := .agg [.lit (.int .u32 1116352408), .lit (.int .u32 1899447441), .lit (.int .u32 3049323471), .lit (.int .u32 3921009573), .lit (.int .u32 961987163), .lit (.int .u32 1508970993), .lit (.int .u32 2453635748), .lit (.int .u32 2870763221), .lit (.int .u32 3624381080), .lit (.int .u32 310598401), .lit (.int .u32 607225278), .lit (.int .u32 1426881987), .lit (.int .u32 1925078388), .lit (.int .u32 2162078206), .lit (.int .u32 2614888103), .lit (.int .u32 3248222580), .lit (.int .u32 3835390401), .lit (.int .u32 4022224774), .lit (.int .u32 264347078), .lit (.int .u32 604807628), .lit (.int .u32 770255983), .lit (.int .u32 1249150122), .lit (.int .u32 1555081692), .lit (.int .u32 1996064986), .lit (.int .u32 2554220882), .lit (.int .u32 2821834349), .lit (.int .u32 2952996808), .lit (.int .u32 3210313671), .lit (.int .u32 3336571891), .lit (.int .u32 3584528711), .lit (.int .u32 113926993), .lit (.int .u32 338241895), .lit (.int .u32 666307205), .lit (.int .u32 773529912), .lit (.int .u32 1294757372), .lit (.int .u32 1396182291), .lit (.int .u32 1695183700), .lit (.int .u32 1986661051), .lit (.int .u32 2177026350), .lit (.int .u32 2456956037), .lit (.int .u32 2730485921), .lit (.int .u32 2820302411), .lit (.int .u32 3259730800), .lit (.int .u32 3345764771), .lit (.int .u32 3516065817), .lit (.int .u32 3600352804), .lit (.int .u32 4094571909), .lit (.int .u32 275423344), .lit (.int .u32 430227734), .lit (.int .u32 506948616), .lit (.int .u32 659060556), .lit (.int .u32 883997877), .lit (.int .u32 958139571), .lit (.int .u32 1322822218), .lit (.int .u32 1537002063), .lit (.int .u32 1747873779), .lit (.int .u32 1955562222), .lit (.int .u32 2024104815), .lit (.int .u32 2227730452), .lit (.int .u32 2361852424), .lit (.int .u32 2428436474), .lit (.int .u32 2756734187), .lit (.int .u32 3204031479), .lit (.int .u32 3329325298)]
def laid_gateline_sha_beginning {H : Type} : DataW H := .agg [.lit (.int .u32 1779033703), .lit (.int .u32 3144134277), .lit (.int .u32 1013904242), .lit (.int .u32 2773480762), .lit (.int .u32 1359893119), .lit (.int .u32 2600822924), .lit (.int .u32 528734635), .lit (.int .u32 1541459225)]

/-- 'gatelinelaw21.AcrossBarcode': WHATEVER THE INPUT: true; the input reads as it did. -/
def acrossBarcodeSpec : ChangeSpec := { name := "acrossBarcode", fn := fun _ => fun
  | [d1, d2, d3, d4] => { results := [.lit (.bool true)], args := [d1, d2, d3, d4] }
  | _ => none }
def acrossBarcodeRow : OpenClaim := { program := "ytmdbfogjfbbpjaagreatdoor", sum := "e372f8499302b0c3548de431aca190176d0e9f07cf0f19690bf831b1aac437b9", func := "gateline/gatelinelaw21.AcrossBarcode", spec := "acrossBarcode", unfollowed := true, recurses := true, named := ["gateline/sha.beginning", "gateline/sha.constants"], apart := false, laid := [("gateline/sha.constants", laid_gateline_sha_constants), ("gateline/sha.beginning", laid_gateline_sha_beginning)] }
def AcrossBarcodeSaid : Prop := acrossBarcodeRow.holds Tryz.pinned (OpenSpec.ofChange acrossBarcodeSpec)

/-- ITS FALSE NEIGHBOUR: 'it returns false'. Refute it at one input. -/
def acrossBarcodeWrong : ChangeSpec := { name := "acrossBarcode", fn := fun _ => fun
  | [d1, d2, d3, d4] => { results := [.lit (.bool false)], args := [d1, d2, d3, d4] }
  | _ => none }
def AcrossBarcodeWrongFalsely : Prop := acrossBarcodeRow.holds Tryz.pinned (OpenSpec.ofChange acrossBarcodeWrong)

/-- 'gatelinelaw21.AcrossStripe': WHATEVER THE INPUT: true; the input reads as it did. -/
def acrossStripeSpec : ChangeSpec := { name := "acrossStripe", fn := fun _ => fun
  | [d1, d2, d3, d4] => { results := [.lit (.bool true)], args := [d1, d2, d3, d4] }
  | _ => none }
def acrossStripeRow : OpenClaim := { program := "ytmdbfogjfbbpjaagreatdoor", sum := "e372f8499302b0c3548de431aca190176d0e9f07cf0f19690bf831b1aac437b9", func := "gateline/gatelinelaw21.AcrossStripe", spec := "acrossStripe", unfollowed := true, recurses := true, named := ["gateline/sha.beginning", "gateline/sha.constants"], apart := false, laid := [("gateline/sha.constants", laid_gateline_sha_constants), ("gateline/sha.beginning", laid_gateline_sha_beginning)] }
def AcrossStripeSaid : Prop := acrossStripeRow.holds Tryz.pinned (OpenSpec.ofChange acrossStripeSpec)

/-- ITS FALSE NEIGHBOUR: 'it returns false'. Refute it at one input. -/
def acrossStripeWrong : ChangeSpec := { name := "acrossStripe", fn := fun _ => fun
  | [d1, d2, d3, d4] => { results := [.lit (.bool false)], args := [d1, d2, d3, d4] }
  | _ => none }
def AcrossStripeWrongFalsely : Prop := acrossStripeRow.holds Tryz.pinned (OpenSpec.ofChange acrossStripeWrong)

/-- 'gatelinelaw21.AcrossBack': WHATEVER THE INPUT: true; the input reads as it did. -/
def acrossBackSpec : ChangeSpec := { name := "acrossBack", fn := fun _ => fun
  | [d1, d2, d3, d4] => { results := [.lit (.bool true)], args := [d1, d2, d3, d4] }
  | _ => none }
def acrossBackRow : OpenClaim := { program := "ytmdbfogjfbbpjaagreatdoor", sum := "e372f8499302b0c3548de431aca190176d0e9f07cf0f19690bf831b1aac437b9", func := "gateline/gatelinelaw21.AcrossBack", spec := "acrossBack", unfollowed := true, recurses := true, named := ["gateline/sha.beginning", "gateline/sha.constants"], apart := false, laid := [("gateline/sha.constants", laid_gateline_sha_constants), ("gateline/sha.beginning", laid_gateline_sha_beginning)] }
def AcrossBackSaid : Prop := acrossBackRow.holds Tryz.pinned (OpenSpec.ofChange acrossBackSpec)

/-- ITS FALSE NEIGHBOUR: 'it returns false'. Refute it at one input. -/
def acrossBackWrong : ChangeSpec := { name := "acrossBack", fn := fun _ => fun
  | [d1, d2, d3, d4] => { results := [.lit (.bool false)], args := [d1, d2, d3, d4] }
  | _ => none }
def AcrossBackWrongFalsely : Prop := acrossBackRow.holds Tryz.pinned (OpenSpec.ofChange acrossBackWrong)

/-- 'gatelinelaw21.AcrossForth': WHATEVER THE INPUT: true; the input reads as it did. -/
def acrossForthSpec : ChangeSpec := { name := "acrossForth", fn := fun _ => fun
  | [d1, d2, d3, d4] => { results := [.lit (.bool true)], args := [d1, d2, d3, d4] }
  | _ => none }
def acrossForthRow : OpenClaim := { program := "ytmdbfogjfbbpjaagreatdoor", sum := "e372f8499302b0c3548de431aca190176d0e9f07cf0f19690bf831b1aac437b9", func := "gateline/gatelinelaw21.AcrossForth", spec := "acrossForth", unfollowed := true, recurses := true, named := ["gateline/sha.beginning", "gateline/sha.constants"], apart := false, laid := [("gateline/sha.constants", laid_gateline_sha_constants), ("gateline/sha.beginning", laid_gateline_sha_beginning)] }
def AcrossForthSaid : Prop := acrossForthRow.holds Tryz.pinned (OpenSpec.ofChange acrossForthSpec)

/-- ITS FALSE NEIGHBOUR: 'it returns false'. Refute it at one input. -/
def acrossForthWrong : ChangeSpec := { name := "acrossForth", fn := fun _ => fun
  | [d1, d2, d3, d4] => { results := [.lit (.bool false)], args := [d1, d2, d3, d4] }
  | _ => none }
def AcrossForthWrongFalsely : Prop := acrossForthRow.holds Tryz.pinned (OpenSpec.ofChange acrossForthWrong)

/-- 'gatelinelaw21.AcrossFits': WHATEVER THE INPUT: true; the input reads as it did. -/
def acrossFitsSpec : ChangeSpec := { name := "acrossFits", fn := fun _ => fun
  | [d1, d2, d3, d4] => { results := [.lit (.bool true)], args := [d1, d2, d3, d4] }
  | _ => none }
def acrossFitsRow : OpenClaim := { program := "ytmdbfogjfbbpjaagreatdoor", sum := "e372f8499302b0c3548de431aca190176d0e9f07cf0f19690bf831b1aac437b9", func := "gateline/gatelinelaw21.AcrossFits", spec := "acrossFits", unfollowed := true, recurses := true, named := ["gateline/sha.beginning", "gateline/sha.constants"], apart := false, laid := [("gateline/sha.constants", laid_gateline_sha_constants), ("gateline/sha.beginning", laid_gateline_sha_beginning)] }
def AcrossFitsSaid : Prop := acrossFitsRow.holds Tryz.pinned (OpenSpec.ofChange acrossFitsSpec)

/-- ITS FALSE NEIGHBOUR: 'it returns false'. Refute it at one input. -/
def acrossFitsWrong : ChangeSpec := { name := "acrossFits", fn := fun _ => fun
  | [d1, d2, d3, d4] => { results := [.lit (.bool false)], args := [d1, d2, d3, d4] }
  | _ => none }
def AcrossFitsWrongFalsely : Prop := acrossFitsRow.holds Tryz.pinned (OpenSpec.ofChange acrossFitsWrong)

/- THE SECOND FORM. 'bulk': how many values and letters a reading holds, each counted each time it is reached (what is shared counts as often as it is met; a slice's spare places count too). A statement '..UptoSaid' is the law's where the arguments, and the package variables that the reading takes, are together of bulk at most 1048576: NARROWER than '..Said'. Prove '..Said' where nothing that the law and all that it calls make is longer than what came in: it says more and counts as full. Else prove '..UptoSaid'. A law counts once. -/
mutual
def uptoBulk {H : Type} : DataW H → Nat
  | .lit (.string bytes) => bytes.length + 1
  | .lit _ => 1
  | .nil => 1
  | .ptr d => uptoBulk d + 1
  | .slice elems spare => uptoBulkAll elems + uptoBulkAll spare + 1
  | .agg parts => uptoBulkAll parts + 1
  | .iface _ d => uptoBulk d + 1
  | .map entries => uptoBulkEntries entries + 1
  | .held _ => 1
def uptoBulkAll {H : Type} : List (DataW H) → Nat
  | [] => 0
  | d :: r => uptoBulk d + uptoBulkAll r
def uptoBulkEntries {H : Type} : List (Lit × DataW H) → Nat
  | [] => 0
  | x :: r => uptoBulkEntry x + uptoBulkEntries r
def uptoBulkEntry {H : Type} : Lit × DataW H → Nat
  | (.string bytes, d) => bytes.length + uptoBulk d + 1
  | (_, d) => uptoBulk d + 1
 end
def uptoSmall : (H : Type) → List (DataW H) → Bool := fun _ ds => decide (uptoBulkAll ds ≤ 1048576)
def OpenSpec.upto (s : _root_.Go.ChangeSpec) : _root_.Go.OpenSpec := { _root_.Go.OpenSpec.ofChange s with cond := some uptoSmall }

/-- 'gatelinelaw21.AcrossBarcode', WHERE WHAT IT READS IS OF BULK AT MOST 1048576: true; the input reads as it did. -/
def acrossBarcodeUptoRow : OpenClaim := { program := "ytmdbfogjfbbpjaagreatdoor", sum := "e372f8499302b0c3548de431aca190176d0e9f07cf0f19690bf831b1aac437b9", func := "gateline/gatelinelaw21.AcrossBarcode", spec := "acrossBarcode", unfollowed := true, recurses := true, named := ["gateline/sha.beginning", "gateline/sha.constants"], apart := false, laid := [("gateline/sha.constants", laid_gateline_sha_constants), ("gateline/sha.beginning", laid_gateline_sha_beginning)], narrowed := true }
def AcrossBarcodeUptoSaid : Prop := acrossBarcodeUptoRow.holds Tryz.pinned (OpenSpec.upto acrossBarcodeSpec)

/-- 'gatelinelaw21.AcrossStripe', WHERE WHAT IT READS IS OF BULK AT MOST 1048576: true; the input reads as it did. -/
def acrossStripeUptoRow : OpenClaim := { program := "ytmdbfogjfbbpjaagreatdoor", sum := "e372f8499302b0c3548de431aca190176d0e9f07cf0f19690bf831b1aac437b9", func := "gateline/gatelinelaw21.AcrossStripe", spec := "acrossStripe", unfollowed := true, recurses := true, named := ["gateline/sha.beginning", "gateline/sha.constants"], apart := false, laid := [("gateline/sha.constants", laid_gateline_sha_constants), ("gateline/sha.beginning", laid_gateline_sha_beginning)], narrowed := true }
def AcrossStripeUptoSaid : Prop := acrossStripeUptoRow.holds Tryz.pinned (OpenSpec.upto acrossStripeSpec)

/-- 'gatelinelaw21.AcrossBack', WHERE WHAT IT READS IS OF BULK AT MOST 1048576: true; the input reads as it did. -/
def acrossBackUptoRow : OpenClaim := { program := "ytmdbfogjfbbpjaagreatdoor", sum := "e372f8499302b0c3548de431aca190176d0e9f07cf0f19690bf831b1aac437b9", func := "gateline/gatelinelaw21.AcrossBack", spec := "acrossBack", unfollowed := true, recurses := true, named := ["gateline/sha.beginning", "gateline/sha.constants"], apart := false, laid := [("gateline/sha.constants", laid_gateline_sha_constants), ("gateline/sha.beginning", laid_gateline_sha_beginning)], narrowed := true }
def AcrossBackUptoSaid : Prop := acrossBackUptoRow.holds Tryz.pinned (OpenSpec.upto acrossBackSpec)

/-- 'gatelinelaw21.AcrossForth', WHERE WHAT IT READS IS OF BULK AT MOST 1048576: true; the input reads as it did. -/
def acrossForthUptoRow : OpenClaim := { program := "ytmdbfogjfbbpjaagreatdoor", sum := "e372f8499302b0c3548de431aca190176d0e9f07cf0f19690bf831b1aac437b9", func := "gateline/gatelinelaw21.AcrossForth", spec := "acrossForth", unfollowed := true, recurses := true, named := ["gateline/sha.beginning", "gateline/sha.constants"], apart := false, laid := [("gateline/sha.constants", laid_gateline_sha_constants), ("gateline/sha.beginning", laid_gateline_sha_beginning)], narrowed := true }
def AcrossForthUptoSaid : Prop := acrossForthUptoRow.holds Tryz.pinned (OpenSpec.upto acrossForthSpec)

/-- 'gatelinelaw21.AcrossFits', WHERE WHAT IT READS IS OF BULK AT MOST 1048576: true; the input reads as it did. -/
def acrossFitsUptoRow : OpenClaim := { program := "ytmdbfogjfbbpjaagreatdoor", sum := "e372f8499302b0c3548de431aca190176d0e9f07cf0f19690bf831b1aac437b9", func := "gateline/gatelinelaw21.AcrossFits", spec := "acrossFits", unfollowed := true, recurses := true, named := ["gateline/sha.beginning", "gateline/sha.constants"], apart := false, laid := [("gateline/sha.constants", laid_gateline_sha_constants), ("gateline/sha.beginning", laid_gateline_sha_beginning)], narrowed := true }
def AcrossFitsUptoSaid : Prop := acrossFitsUptoRow.holds Tryz.pinned (OpenSpec.upto acrossFitsSpec)

end Rows
end Go.Proofs.YtmdbfogjfbbpjaaGreatDoor
