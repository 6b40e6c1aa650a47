/-
  NARROWER THAN 'FOR EVERY INPUT', by the rows' own cells (each row's printed sentence says how): StripeEncodes: laid · StripeDecodes: laid · StripeTags: laid · StripeBack: laid · StripeOne: laid · StripeKeys: laid.
  DERIVED. THE GIVEN ROWS OF THIS SEAT. 6 by the template 'for every input the law returns true; each argument reads behind the call as it read before'; 0 by the template 'total and deterministic' (their statements: YtpniolinndlepaaGreatDoorTotals.lean).
  GIVEN WITH THE SEED: the statements are not yours to turn. If you find one false, say at which input.
  Laid BY PROGRAM, IN A SANDBOX (cutbox-rows.mjs): the forced cells as the released guide's own fill.sh prints them over the translation a4db05e644dd000c… (all of the seat's roots in one cut). By AI agents, Wed Nov 11 2026. No macro, syntax, notation, axiom, sorry.
-/
import Derived.Test.YtpniolinndlepaaGreatDoorChecked
import GoSem.Claim
import GoSem.ClaimJoined
import GoSem.ClaimMapViews
import Derived.JoinedTies
import Derived.KernelRfl
namespace Go.Proofs.YtpniolinndlepaaGreatDoor
/- THE CELL 'sum', in the pinned program and in every row, IS THE sha256 OF THE DUMP (.gsa) THAT YtpniolinndlepaaGreatDoorProg.lean LOADS. Nothing in Lean hashes anything: it is a label: what it is worth is what the hold of that sum in a sandbox is worth. -/
noncomputable def Tryz.pinned : Pinned := { name := "ytpniolinndlepaagreatdoor", sum := "a4db05e644dd000c371db4df44c7c6e9549d11ca0f71e54dd1225beedf0a678d", checked := Tryz.checked }
namespace Rows
def none {H : Type} : Left H := { results := [], args := [] }

/- WHAT THE LISTED PACKAGE-LEVEL VARIABLES READ AS WHEN THE CALL BEGINS. Each datum BY PROGRAM (the guide's laid-datum.mjs) off the statement by which the dump's own 'gosem.cut.vars' lays the variable. In a bare row this is a premise. The card (YtpniolinndlepaaGreatDoorCards.lean) ties it to the program's text. -/
def laid_gateline_sha_constants {H : Type} : DataW H := .agg [.lit (.int .u32 1116352408), .lit (.int .u32 1899447441), .lit (.int .u32 3049323471), .lit (.int .u32 3921009573), .lit (.int .u32 961987163), .lit (.int .u32 1508970993), .lit (.int .u32 2453635748), .lit (.int .u32 2870763221), .lit (.int .u32 3624381080), .lit (.int .u32 310598401), .lit (.int .u32 607225278), .lit (.int .u32 1426881987), .lit (.int .u32 1925078388), .lit (.int .u32 2162078206), .lit (.int .u32 2614888103), .lit (.int .u32 3248222580), .lit (.int .u32 3835390401), .lit (.int .u32 4022224774), .lit (.int .u32 264347078), .lit (.int .u32 604807628), .lit (.int .u32 770255983), .lit (.int .u32 1249150122), .lit (.int .u32 1555081692), .lit (.int .u32 1996064986), .lit (.int .u32 2554220882), .lit (.int .u32 2821834349), .lit (.int .u32 2952996808), .lit (.int .u32 3210313671), .lit (.int .u32 3336571891), .lit (.int .u32 3584528711), .lit (.int .u32 113926993), .lit (.int .u32 338241895), .lit (.int .u32 666307205), .lit (.int .u32 773529912), .lit (.int .u32 1294757372), .lit (.int .u32 1396182291), .lit (.int .u32 1695183700), .lit (.int .u32 1986661051), .lit (.int .u32 2177026350), .lit (.int .u32 2456956037), .lit (.int .u32 2730485921), .lit (.int .u32 2820302411), .lit (.int .u32 3259730800), .lit (.int .u32 3345764771), .lit (.int .u32 3516065817), .lit (.int .u32 3600352804), .lit (.int .u32 4094571909), .lit (.int .u32 275423344), .lit (.int .u32 430227734), .lit (.int .u32 506948616), .lit (.int .u32 659060556), .lit (.int .u32 883997877), .lit (.int .u32 958139571), .lit (.int .u32 1322822218), .lit (.int .u32 1537002063), .lit (.int .u32 1747873779), .lit (.int .u32 1955562222), .lit (.int .u32 2024104815), .lit (.int .u32 2227730452), .lit (.int .u32 2361852424), .lit (.int .u32 2428436474), .lit (.int .u32 2756734187), .lit (.int .u32 3204031479), .lit (.int .u32 3329325298)]
def laid_gateline_sha_beginning {H : Type} : DataW H := .agg [.lit (.int .u32 1779033703), .lit (.int .u32 3144134277), .lit (.int .u32 1013904242), .lit (.int .u32 2773480762), .lit (.int .u32 1359893119), .lit (.int .u32 2600822924), .lit (.int .u32 528734635), .lit (.int .u32 1541459225)]

/-- 'gatelinelaw15.StripeEncodes': WHATEVER THE INPUT: true; the input reads as it did. -/
def stripeEncodesSpec : ChangeSpec := { name := "stripeEncodes", fn := fun _ => fun
  | [d1, d2] => { results := [.lit (.bool true)], args := [d1, d2] }
  | _ => none }
def stripeEncodesRow : OpenClaim := { program := "ytpniolinndlepaagreatdoor", sum := "a4db05e644dd000c371db4df44c7c6e9549d11ca0f71e54dd1225beedf0a678d", func := "gateline/gatelinelaw15.StripeEncodes", spec := "stripeEncodes", unfollowed := true, recurses := true, named := ["gateline/sha.beginning", "gateline/sha.constants"], apart := false, laid := [("gateline/sha.constants", laid_gateline_sha_constants), ("gateline/sha.beginning", laid_gateline_sha_beginning)] }
def StripeEncodesSaid : Prop := stripeEncodesRow.holds Tryz.pinned (OpenSpec.ofChange stripeEncodesSpec)

/-- ITS FALSE NEIGHBOUR: 'it returns false'. Refute it at one input. -/
def stripeEncodesWrong : ChangeSpec := { name := "stripeEncodes", fn := fun _ => fun
  | [d1, d2] => { results := [.lit (.bool false)], args := [d1, d2] }
  | _ => none }
def StripeEncodesWrongFalsely : Prop := stripeEncodesRow.holds Tryz.pinned (OpenSpec.ofChange stripeEncodesWrong)

/-- 'gatelinelaw15.StripeDecodes': WHATEVER THE INPUT: true; the input reads as it did. -/
def stripeDecodesSpec : ChangeSpec := { name := "stripeDecodes", fn := fun _ => fun
  | [d1, d2] => { results := [.lit (.bool true)], args := [d1, d2] }
  | _ => none }
def stripeDecodesRow : OpenClaim := { program := "ytpniolinndlepaagreatdoor", sum := "a4db05e644dd000c371db4df44c7c6e9549d11ca0f71e54dd1225beedf0a678d", func := "gateline/gatelinelaw15.StripeDecodes", spec := "stripeDecodes", unfollowed := true, recurses := true, named := ["gateline/sha.beginning", "gateline/sha.constants"], apart := false, laid := [("gateline/sha.constants", laid_gateline_sha_constants), ("gateline/sha.beginning", laid_gateline_sha_beginning)] }
def StripeDecodesSaid : Prop := stripeDecodesRow.holds Tryz.pinned (OpenSpec.ofChange stripeDecodesSpec)

/-- ITS FALSE NEIGHBOUR: 'it returns false'. Refute it at one input. -/
def stripeDecodesWrong : ChangeSpec := { name := "stripeDecodes", fn := fun _ => fun
  | [d1, d2] => { results := [.lit (.bool false)], args := [d1, d2] }
  | _ => none }
def StripeDecodesWrongFalsely : Prop := stripeDecodesRow.holds Tryz.pinned (OpenSpec.ofChange stripeDecodesWrong)

/-- 'gatelinelaw15.StripeTags': WHATEVER THE INPUT: true; the input reads as it did. -/
def stripeTagsSpec : ChangeSpec := { name := "stripeTags", fn := fun _ => fun
  | [d1, d2] => { results := [.lit (.bool true)], args := [d1, d2] }
  | _ => none }
def stripeTagsRow : OpenClaim := { program := "ytpniolinndlepaagreatdoor", sum := "a4db05e644dd000c371db4df44c7c6e9549d11ca0f71e54dd1225beedf0a678d", func := "gateline/gatelinelaw15.StripeTags", spec := "stripeTags", unfollowed := true, recurses := true, named := ["gateline/sha.beginning", "gateline/sha.constants"], apart := false, laid := [("gateline/sha.constants", laid_gateline_sha_constants), ("gateline/sha.beginning", laid_gateline_sha_beginning)] }
def StripeTagsSaid : Prop := stripeTagsRow.holds Tryz.pinned (OpenSpec.ofChange stripeTagsSpec)

/-- ITS FALSE NEIGHBOUR: 'it returns false'. Refute it at one input. -/
def stripeTagsWrong : ChangeSpec := { name := "stripeTags", fn := fun _ => fun
  | [d1, d2] => { results := [.lit (.bool false)], args := [d1, d2] }
  | _ => none }
def StripeTagsWrongFalsely : Prop := stripeTagsRow.holds Tryz.pinned (OpenSpec.ofChange stripeTagsWrong)

/-- 'gatelinelaw15.StripeBack': WHATEVER THE INPUT: true; the input reads as it did. -/
def stripeBackSpec : ChangeSpec := { name := "stripeBack", fn := fun _ => fun
  | [d1, d2] => { results := [.lit (.bool true)], args := [d1, d2] }
  | _ => none }
def stripeBackRow : OpenClaim := { program := "ytpniolinndlepaagreatdoor", sum := "a4db05e644dd000c371db4df44c7c6e9549d11ca0f71e54dd1225beedf0a678d", func := "gateline/gatelinelaw15.StripeBack", spec := "stripeBack", unfollowed := true, recurses := true, named := ["gateline/sha.beginning", "gateline/sha.constants"], apart := false, laid := [("gateline/sha.constants", laid_gateline_sha_constants), ("gateline/sha.beginning", laid_gateline_sha_beginning)] }
def StripeBackSaid : Prop := stripeBackRow.holds Tryz.pinned (OpenSpec.ofChange stripeBackSpec)

/-- ITS FALSE NEIGHBOUR: 'it returns false'. Refute it at one input. -/
def stripeBackWrong : ChangeSpec := { name := "stripeBack", fn := fun _ => fun
  | [d1, d2] => { results := [.lit (.bool false)], args := [d1, d2] }
  | _ => none }
def StripeBackWrongFalsely : Prop := stripeBackRow.holds Tryz.pinned (OpenSpec.ofChange stripeBackWrong)

/-- 'gatelinelaw15.StripeOne': WHATEVER THE INPUT: true; the input reads as it did. -/
def stripeOneSpec : ChangeSpec := { name := "stripeOne", fn := fun _ => fun
  | [d1, d2] => { results := [.lit (.bool true)], args := [d1, d2] }
  | _ => none }
def stripeOneRow : OpenClaim := { program := "ytpniolinndlepaagreatdoor", sum := "a4db05e644dd000c371db4df44c7c6e9549d11ca0f71e54dd1225beedf0a678d", func := "gateline/gatelinelaw15.StripeOne", spec := "stripeOne", unfollowed := true, recurses := true, named := ["gateline/sha.beginning", "gateline/sha.constants"], apart := false, laid := [("gateline/sha.constants", laid_gateline_sha_constants), ("gateline/sha.beginning", laid_gateline_sha_beginning)] }
def StripeOneSaid : Prop := stripeOneRow.holds Tryz.pinned (OpenSpec.ofChange stripeOneSpec)

/-- ITS FALSE NEIGHBOUR: 'it returns false'. Refute it at one input. -/
def stripeOneWrong : ChangeSpec := { name := "stripeOne", fn := fun _ => fun
  | [d1, d2] => { results := [.lit (.bool false)], args := [d1, d2] }
  | _ => none }
def StripeOneWrongFalsely : Prop := stripeOneRow.holds Tryz.pinned (OpenSpec.ofChange stripeOneWrong)

/-- 'gatelinelaw15.StripeKeys': WHATEVER THE INPUT: true; the input reads as it did. -/
def stripeKeysSpec : ChangeSpec := { name := "stripeKeys", fn := fun _ => fun
  | [d1, d2, d3] => { results := [.lit (.bool true)], args := [d1, d2, d3] }
  | _ => none }
def stripeKeysRow : OpenClaim := { program := "ytpniolinndlepaagreatdoor", sum := "a4db05e644dd000c371db4df44c7c6e9549d11ca0f71e54dd1225beedf0a678d", func := "gateline/gatelinelaw15.StripeKeys", spec := "stripeKeys", unfollowed := true, recurses := true, named := ["gateline/sha.beginning", "gateline/sha.constants"], apart := false, laid := [("gateline/sha.constants", laid_gateline_sha_constants), ("gateline/sha.beginning", laid_gateline_sha_beginning)] }
def StripeKeysSaid : Prop := stripeKeysRow.holds Tryz.pinned (OpenSpec.ofChange stripeKeysSpec)

/-- ITS FALSE NEIGHBOUR: 'it returns false'. Refute it at one input. -/
def stripeKeysWrong : ChangeSpec := { name := "stripeKeys", fn := fun _ => fun
  | [d1, d2, d3] => { results := [.lit (.bool false)], args := [d1, d2, d3] }
  | _ => none }
def StripeKeysWrongFalsely : Prop := stripeKeysRow.holds Tryz.pinned (OpenSpec.ofChange stripeKeysWrong)

/- THE SECOND FORM. 'bulk': how many values and letters a reading holds, each counted each time it is reached (what is shared counts as often as it is met; a slice's spare places count too). A statement '..UptoSaid' is the law's where the arguments, and the package variables that the reading takes, are together of bulk at most 1048576: NARROWER than '..Said'. Prove '..Said' where nothing that the law and all that it calls make is longer than what came in: it says more and counts as full. Else prove '..UptoSaid'. A law counts once. -/
mutual
def uptoBulk {H : Type} : DataW H → Nat
  | .lit (.string bytes) => bytes.length + 1
  | .lit _ => 1
  | .nil => 1
  | .ptr d => uptoBulk d + 1
  | .slice elems spare => uptoBulkAll elems + uptoBulkAll spare + 1
  | .agg parts => uptoBulkAll parts + 1
  | .iface _ d => uptoBulk d + 1
  | .map entries => uptoBulkEntries entries + 1
  | .held _ => 1
def uptoBulkAll {H : Type} : List (DataW H) → Nat
  | [] => 0
  | d :: r => uptoBulk d + uptoBulkAll r
def uptoBulkEntries {H : Type} : List (Lit × DataW H) → Nat
  | [] => 0
  | x :: r => uptoBulkEntry x + uptoBulkEntries r
def uptoBulkEntry {H : Type} : Lit × DataW H → Nat
  | (.string bytes, d) => bytes.length + uptoBulk d + 1
  | (_, d) => uptoBulk d + 1
 end
def uptoSmall : (H : Type) → List (DataW H) → Bool := fun _ ds => decide (uptoBulkAll ds ≤ 1048576)
def OpenSpec.upto (s : _root_.Go.ChangeSpec) : _root_.Go.OpenSpec := { _root_.Go.OpenSpec.ofChange s with cond := some uptoSmall }

/-- 'gatelinelaw15.StripeEncodes', WHERE WHAT IT READS IS OF BULK AT MOST 1048576: true; the input reads as it did. -/
def stripeEncodesUptoRow : OpenClaim := { program := "ytpniolinndlepaagreatdoor", sum := "a4db05e644dd000c371db4df44c7c6e9549d11ca0f71e54dd1225beedf0a678d", func := "gateline/gatelinelaw15.StripeEncodes", spec := "stripeEncodes", unfollowed := true, recurses := true, named := ["gateline/sha.beginning", "gateline/sha.constants"], apart := false, laid := [("gateline/sha.constants", laid_gateline_sha_constants), ("gateline/sha.beginning", laid_gateline_sha_beginning)], narrowed := true }
def StripeEncodesUptoSaid : Prop := stripeEncodesUptoRow.holds Tryz.pinned (OpenSpec.upto stripeEncodesSpec)

/-- 'gatelinelaw15.StripeDecodes', WHERE WHAT IT READS IS OF BULK AT MOST 1048576: true; the input reads as it did. -/
def stripeDecodesUptoRow : OpenClaim := { program := "ytpniolinndlepaagreatdoor", sum := "a4db05e644dd000c371db4df44c7c6e9549d11ca0f71e54dd1225beedf0a678d", func := "gateline/gatelinelaw15.StripeDecodes", spec := "stripeDecodes", unfollowed := true, recurses := true, named := ["gateline/sha.beginning", "gateline/sha.constants"], apart := false, laid := [("gateline/sha.constants", laid_gateline_sha_constants), ("gateline/sha.beginning", laid_gateline_sha_beginning)], narrowed := true }
def StripeDecodesUptoSaid : Prop := stripeDecodesUptoRow.holds Tryz.pinned (OpenSpec.upto stripeDecodesSpec)

/-- 'gatelinelaw15.StripeTags', WHERE WHAT IT READS IS OF BULK AT MOST 1048576: true; the input reads as it did. -/
def stripeTagsUptoRow : OpenClaim := { program := "ytpniolinndlepaagreatdoor", sum := "a4db05e644dd000c371db4df44c7c6e9549d11ca0f71e54dd1225beedf0a678d", func := "gateline/gatelinelaw15.StripeTags", spec := "stripeTags", unfollowed := true, recurses := true, named := ["gateline/sha.beginning", "gateline/sha.constants"], apart := false, laid := [("gateline/sha.constants", laid_gateline_sha_constants), ("gateline/sha.beginning", laid_gateline_sha_beginning)], narrowed := true }
def StripeTagsUptoSaid : Prop := stripeTagsUptoRow.holds Tryz.pinned (OpenSpec.upto stripeTagsSpec)

/-- 'gatelinelaw15.StripeBack', WHERE WHAT IT READS IS OF BULK AT MOST 1048576: true; the input reads as it did. -/
def stripeBackUptoRow : OpenClaim := { program := "ytpniolinndlepaagreatdoor", sum := "a4db05e644dd000c371db4df44c7c6e9549d11ca0f71e54dd1225beedf0a678d", func := "gateline/gatelinelaw15.StripeBack", spec := "stripeBack", unfollowed := true, recurses := true, named := ["gateline/sha.beginning", "gateline/sha.constants"], apart := false, laid := [("gateline/sha.constants", laid_gateline_sha_constants), ("gateline/sha.beginning", laid_gateline_sha_beginning)], narrowed := true }
def StripeBackUptoSaid : Prop := stripeBackUptoRow.holds Tryz.pinned (OpenSpec.upto stripeBackSpec)

/-- 'gatelinelaw15.StripeOne', WHERE WHAT IT READS IS OF BULK AT MOST 1048576: true; the input reads as it did. -/
def stripeOneUptoRow : OpenClaim := { program := "ytpniolinndlepaagreatdoor", sum := "a4db05e644dd000c371db4df44c7c6e9549d11ca0f71e54dd1225beedf0a678d", func := "gateline/gatelinelaw15.StripeOne", spec := "stripeOne", unfollowed := true, recurses := true, named := ["gateline/sha.beginning", "gateline/sha.constants"], apart := false, laid := [("gateline/sha.constants", laid_gateline_sha_constants), ("gateline/sha.beginning", laid_gateline_sha_beginning)], narrowed := true }
def StripeOneUptoSaid : Prop := stripeOneUptoRow.holds Tryz.pinned (OpenSpec.upto stripeOneSpec)

/-- 'gatelinelaw15.StripeKeys', WHERE WHAT IT READS IS OF BULK AT MOST 1048576: true; the input reads as it did. -/
def stripeKeysUptoRow : OpenClaim := { program := "ytpniolinndlepaagreatdoor", sum := "a4db05e644dd000c371db4df44c7c6e9549d11ca0f71e54dd1225beedf0a678d", func := "gateline/gatelinelaw15.StripeKeys", spec := "stripeKeys", unfollowed := true, recurses := true, named := ["gateline/sha.beginning", "gateline/sha.constants"], apart := false, laid := [("gateline/sha.constants", laid_gateline_sha_constants), ("gateline/sha.beginning", laid_gateline_sha_beginning)], narrowed := true }
def StripeKeysUptoSaid : Prop := stripeKeysUptoRow.holds Tryz.pinned (OpenSpec.upto stripeKeysSpec)

end Rows
end Go.Proofs.YtpniolinndlepaaGreatDoor
