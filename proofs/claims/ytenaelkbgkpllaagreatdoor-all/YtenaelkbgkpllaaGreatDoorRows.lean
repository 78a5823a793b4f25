/-
  NARROWER THAN 'FOR EVERY INPUT', by the rows' own cells (each row's printed sentence says how): Kept: laid · Proven: laid · Verified: laid · All: laid · Bound: laid · Right: laid · Small: laid · Sole: laid.
  DERIVED. THE GIVEN ROWS OF THIS SEAT. 8 by the template 'for every input the law returns true; each argument reads behind the call as it read before'; 0 by the template 'total and deterministic' (their statements: YtenaelkbgkpllaaGreatDoorTotals.lean).
  GIVEN WITH THE SEED: the statements are not yours to turn. If you find one false, say at which input.
  Laid BY PROGRAM, IN A SANDBOX (cutbox-rows.mjs): the forced cells as the released guide's own fill.sh prints them over the translation 97b293286d0a0698… (all of the seat's roots in one cut). By AI agents, Wed Nov 11 2026. No macro, syntax, notation, axiom, sorry.
-/
import Derived.Test.YtenaelkbgkpllaaGreatDoorChecked
import GoSem.Claim
import GoSem.ClaimJoined
import GoSem.ClaimMapViews
import Derived.JoinedTies
import Derived.KernelRfl
namespace Go.Proofs.YtenaelkbgkpllaaGreatDoor
/- THE CELL 'sum', in the pinned program and in every row, IS THE sha256 OF THE DUMP (.gsa) THAT YtenaelkbgkpllaaGreatDoorProg.lean LOADS. Nothing in Lean hashes anything: it is a label: what it is worth is what the hold of that sum in a sandbox is worth. -/
noncomputable def Tryz.pinned : Pinned := { name := "ytenaelkbgkpllaagreatdoor", sum := "97b293286d0a0698a6d558ff959bb9aa6c3e7021c2502438760d0a89a8bbf418", checked := Tryz.checked }
namespace Rows
def none {H : Type} : Left H := { results := [], args := [] }

/- WHAT THE LISTED PACKAGE-LEVEL VARIABLES READ AS WHEN THE CALL BEGINS. Each datum BY PROGRAM (the guide's laid-datum.mjs) off the statement by which the dump's own 'gosem.cut.vars' lays the variable. In a bare row this is a premise. The card (YtenaelkbgkpllaaGreatDoorCards.lean) ties it to the program's text. -/
def laid_ward_digest_roundNumbers {H : Type} : DataW H := .agg [.lit (.int .u32 1116352408), .lit (.int .u32 1899447441), .lit (.int .u32 3049323471), .lit (.int .u32 3921009573), .lit (.int .u32 961987163), .lit (.int .u32 1508970993), .lit (.int .u32 2453635748), .lit (.int .u32 2870763221), .lit (.int .u32 3624381080), .lit (.int .u32 310598401), .lit (.int .u32 607225278), .lit (.int .u32 1426881987), .lit (.int .u32 1925078388), .lit (.int .u32 2162078206), .lit (.int .u32 2614888103), .lit (.int .u32 3248222580), .lit (.int .u32 3835390401), .lit (.int .u32 4022224774), .lit (.int .u32 264347078), .lit (.int .u32 604807628), .lit (.int .u32 770255983), .lit (.int .u32 1249150122), .lit (.int .u32 1555081692), .lit (.int .u32 1996064986), .lit (.int .u32 2554220882), .lit (.int .u32 2821834349), .lit (.int .u32 2952996808), .lit (.int .u32 3210313671), .lit (.int .u32 3336571891), .lit (.int .u32 3584528711), .lit (.int .u32 113926993), .lit (.int .u32 338241895), .lit (.int .u32 666307205), .lit (.int .u32 773529912), .lit (.int .u32 1294757372), .lit (.int .u32 1396182291), .lit (.int .u32 1695183700), .lit (.int .u32 1986661051), .lit (.int .u32 2177026350), .lit (.int .u32 2456956037), .lit (.int .u32 2730485921), .lit (.int .u32 2820302411), .lit (.int .u32 3259730800), .lit (.int .u32 3345764771), .lit (.int .u32 3516065817), .lit (.int .u32 3600352804), .lit (.int .u32 4094571909), .lit (.int .u32 275423344), .lit (.int .u32 430227734), .lit (.int .u32 506948616), .lit (.int .u32 659060556), .lit (.int .u32 883997877), .lit (.int .u32 958139571), .lit (.int .u32 1322822218), .lit (.int .u32 1537002063), .lit (.int .u32 1747873779), .lit (.int .u32 1955562222), .lit (.int .u32 2024104815), .lit (.int .u32 2227730452), .lit (.int .u32 2361852424), .lit (.int .u32 2428436474), .lit (.int .u32 2756734187), .lit (.int .u32 3204031479), .lit (.int .u32 3329325298)]
def laid_ward_wardkeep_whole {H : Type} : DataW H := .agg [.lit (.int .i64 0), .lit (.int .i64 (-1000000)), .lit (.int .i64 (-1000000)), .lit (.int .i64 1000000), .lit (.int .i64 1000000), .lit (.int .i64 0), .lit (.int .i64 0), .lit (.int .i64 0)]

/-- 'wardlaw.Kept': WHATEVER THE INPUT: true; the input reads as it did. -/
def keptSpec : ChangeSpec := { name := "kept", fn := fun _ => fun
  | [d] => { results := [.lit (.bool true)], args := [d] }
  | _ => none }
def keptRow : OpenClaim := { program := "ytenaelkbgkpllaagreatdoor", sum := "97b293286d0a0698a6d558ff959bb9aa6c3e7021c2502438760d0a89a8bbf418", func := "ward/wardlaw.Kept", spec := "kept", inPlace := ["slices.overlaps[ward/api.Point]", "internal/abi.NoEscape", "internal/bytealg.MakeNoZero"], unfollowed := true, recurses := true, named := ["ward/digest.roundNumbers"], apart := false, laid := [("ward/digest.roundNumbers", laid_ward_digest_roundNumbers)] }
def KeptSaid : Prop := keptRow.holds Tryz.pinned (OpenSpec.ofChange keptSpec)

/-- ITS FALSE NEIGHBOUR: 'it returns false'. Refute it at one input. -/
def keptWrong : ChangeSpec := { name := "kept", fn := fun _ => fun
  | [d] => { results := [.lit (.bool false)], args := [d] }
  | _ => none }
def KeptWrongFalsely : Prop := keptRow.holds Tryz.pinned (OpenSpec.ofChange keptWrong)

/-- 'wardlaw.Proven': WHATEVER THE INPUT: true; the input reads as it did. -/
def provenSpec : ChangeSpec := { name := "proven", fn := fun _ => fun
  | [d] => { results := [.lit (.bool true)], args := [d] }
  | _ => none }
def provenRow : OpenClaim := { program := "ytenaelkbgkpllaagreatdoor", sum := "97b293286d0a0698a6d558ff959bb9aa6c3e7021c2502438760d0a89a8bbf418", func := "ward/wardlaw.Proven", spec := "proven", inPlace := ["slices.overlaps[ward/api.Point]", "internal/abi.NoEscape", "internal/bytealg.MakeNoZero"], unfollowed := true, recurses := true, named := ["ward/digest.roundNumbers"], apart := false, laid := [("ward/digest.roundNumbers", laid_ward_digest_roundNumbers)] }
def ProvenSaid : Prop := provenRow.holds Tryz.pinned (OpenSpec.ofChange provenSpec)

/-- ITS FALSE NEIGHBOUR: 'it returns false'. Refute it at one input. -/
def provenWrong : ChangeSpec := { name := "proven", fn := fun _ => fun
  | [d] => { results := [.lit (.bool false)], args := [d] }
  | _ => none }
def ProvenWrongFalsely : Prop := provenRow.holds Tryz.pinned (OpenSpec.ofChange provenWrong)

/-- 'wardlaw.Verified': WHATEVER THE INPUT: true; the input reads as it did. -/
def verifiedSpec : ChangeSpec := { name := "verified", fn := fun _ => fun
  | [d] => { results := [.lit (.bool true)], args := [d] }
  | _ => none }
def verifiedRow : OpenClaim := { program := "ytenaelkbgkpllaagreatdoor", sum := "97b293286d0a0698a6d558ff959bb9aa6c3e7021c2502438760d0a89a8bbf418", func := "ward/wardlaw.Verified", spec := "verified", inPlace := ["slices.overlaps[ward/api.Point]", "internal/abi.NoEscape", "internal/bytealg.MakeNoZero"], unfollowed := true, recurses := true, named := ["ward/digest.roundNumbers"], apart := false, laid := [("ward/digest.roundNumbers", laid_ward_digest_roundNumbers)] }
def VerifiedSaid : Prop := verifiedRow.holds Tryz.pinned (OpenSpec.ofChange verifiedSpec)

/-- ITS FALSE NEIGHBOUR: 'it returns false'. Refute it at one input. -/
def verifiedWrong : ChangeSpec := { name := "verified", fn := fun _ => fun
  | [d] => { results := [.lit (.bool false)], args := [d] }
  | _ => none }
def VerifiedWrongFalsely : Prop := verifiedRow.holds Tryz.pinned (OpenSpec.ofChange verifiedWrong)

/-- 'wardlaw.All': WHATEVER THE INPUT: true; the input reads as it did. -/
def allSpec : ChangeSpec := { name := "all", fn := fun _ => fun
  | [d] => { results := [.lit (.bool true)], args := [d] }
  | _ => none }
def allRow : OpenClaim := { program := "ytenaelkbgkpllaagreatdoor", sum := "97b293286d0a0698a6d558ff959bb9aa6c3e7021c2502438760d0a89a8bbf418", func := "ward/wardlaw.All", spec := "all", inPlace := ["slices.overlaps[ward/api.Point]", "internal/abi.NoEscape", "internal/bytealg.MakeNoZero"], unfollowed := true, recurses := true, named := ["ward/digest.roundNumbers"], apart := false, laid := [("ward/digest.roundNumbers", laid_ward_digest_roundNumbers)] }
def AllSaid : Prop := allRow.holds Tryz.pinned (OpenSpec.ofChange allSpec)

/-- ITS FALSE NEIGHBOUR: 'it returns false'. Refute it at one input. -/
def allWrong : ChangeSpec := { name := "all", fn := fun _ => fun
  | [d] => { results := [.lit (.bool false)], args := [d] }
  | _ => none }
def AllWrongFalsely : Prop := allRow.holds Tryz.pinned (OpenSpec.ofChange allWrong)

/-- 'wardkeep.Bound': WHATEVER THE INPUT: true; the input reads as it did. -/
def boundSpec : ChangeSpec := { name := "bound", fn := fun _ => fun
  | [d1, d2, d3] => { results := [.lit (.bool true)], args := [d1, d2, d3] }
  | _ => none }
def boundRow : OpenClaim := { program := "ytenaelkbgkpllaagreatdoor", sum := "97b293286d0a0698a6d558ff959bb9aa6c3e7021c2502438760d0a89a8bbf418", func := "ward/wardkeep.Bound", spec := "bound", inPlace := ["slices.overlaps[ward/api.Point]", "internal/abi.NoEscape", "internal/bytealg.MakeNoZero"], unfollowed := true, recurses := true, named := ["ward/wardkeep.whole", "ward/digest.roundNumbers"], apart := false, laid := [("ward/digest.roundNumbers", laid_ward_digest_roundNumbers), ("ward/wardkeep.whole", laid_ward_wardkeep_whole)] }
def BoundSaid : Prop := boundRow.holds Tryz.pinned (OpenSpec.ofChange boundSpec)

/-- ITS FALSE NEIGHBOUR: 'it returns false'. Refute it at one input. -/
def boundWrong : ChangeSpec := { name := "bound", fn := fun _ => fun
  | [d1, d2, d3] => { results := [.lit (.bool false)], args := [d1, d2, d3] }
  | _ => none }
def BoundWrongFalsely : Prop := boundRow.holds Tryz.pinned (OpenSpec.ofChange boundWrong)

/-- 'wardkeep.Right': WHATEVER THE INPUT: true; the input reads as it did. -/
def rightSpec : ChangeSpec := { name := "right", fn := fun _ => fun
  | [d] => { results := [.lit (.bool true)], args := [d] }
  | _ => none }
def rightRow : OpenClaim := { program := "ytenaelkbgkpllaagreatdoor", sum := "97b293286d0a0698a6d558ff959bb9aa6c3e7021c2502438760d0a89a8bbf418", func := "ward/wardkeep.Right", spec := "right", inPlace := ["slices.overlaps[ward/api.Point]", "internal/abi.NoEscape", "internal/bytealg.MakeNoZero"], unfollowed := true, recurses := true, named := ["ward/digest.roundNumbers"], apart := false, laid := [("ward/digest.roundNumbers", laid_ward_digest_roundNumbers)] }
def RightSaid : Prop := rightRow.holds Tryz.pinned (OpenSpec.ofChange rightSpec)

/-- ITS FALSE NEIGHBOUR: 'it returns false'. Refute it at one input. -/
def rightWrong : ChangeSpec := { name := "right", fn := fun _ => fun
  | [d] => { results := [.lit (.bool false)], args := [d] }
  | _ => none }
def RightWrongFalsely : Prop := rightRow.holds Tryz.pinned (OpenSpec.ofChange rightWrong)

/-- 'wardkeep.Small': WHATEVER THE INPUT: true; the input reads as it did. -/
def smallSpec : ChangeSpec := { name := "small", fn := fun _ => fun
  | [d1, d2] => { results := [.lit (.bool true)], args := [d1, d2] }
  | _ => none }
def smallRow : OpenClaim := { program := "ytenaelkbgkpllaagreatdoor", sum := "97b293286d0a0698a6d558ff959bb9aa6c3e7021c2502438760d0a89a8bbf418", func := "ward/wardkeep.Small", spec := "small", inPlace := ["slices.overlaps[ward/api.Point]", "internal/abi.NoEscape", "internal/bytealg.MakeNoZero"], unfollowed := true, recurses := true, named := ["ward/digest.roundNumbers"], apart := false, laid := [("ward/digest.roundNumbers", laid_ward_digest_roundNumbers)] }
def SmallSaid : Prop := smallRow.holds Tryz.pinned (OpenSpec.ofChange smallSpec)

/-- ITS FALSE NEIGHBOUR: 'it returns false'. Refute it at one input. -/
def smallWrong : ChangeSpec := { name := "small", fn := fun _ => fun
  | [d1, d2] => { results := [.lit (.bool false)], args := [d1, d2] }
  | _ => none }
def SmallWrongFalsely : Prop := smallRow.holds Tryz.pinned (OpenSpec.ofChange smallWrong)

/-- 'wardkeep.Sole': WHATEVER THE INPUT: true; the input reads as it did. -/
def soleSpec : ChangeSpec := { name := "sole", fn := fun _ => fun
  | [d1, d2, d3] => { results := [.lit (.bool true)], args := [d1, d2, d3] }
  | _ => none }
def soleRow : OpenClaim := { program := "ytenaelkbgkpllaagreatdoor", sum := "97b293286d0a0698a6d558ff959bb9aa6c3e7021c2502438760d0a89a8bbf418", func := "ward/wardkeep.Sole", spec := "sole", inPlace := ["slices.overlaps[ward/api.Point]", "internal/abi.NoEscape", "internal/bytealg.MakeNoZero"], unfollowed := true, recurses := true, named := ["ward/wardkeep.whole", "ward/digest.roundNumbers"], apart := false, laid := [("ward/digest.roundNumbers", laid_ward_digest_roundNumbers), ("ward/wardkeep.whole", laid_ward_wardkeep_whole)] }
def SoleSaid : Prop := soleRow.holds Tryz.pinned (OpenSpec.ofChange soleSpec)

/-- ITS FALSE NEIGHBOUR: 'it returns false'. Refute it at one input. -/
def soleWrong : ChangeSpec := { name := "sole", fn := fun _ => fun
  | [d1, d2, d3] => { results := [.lit (.bool false)], args := [d1, d2, d3] }
  | _ => none }
def SoleWrongFalsely : Prop := soleRow.holds Tryz.pinned (OpenSpec.ofChange soleWrong)

/- THE SECOND FORM. 'bulk': how many values and letters a reading holds, each counted each time it is reached (what is shared counts as often as it is met; a slice's spare places count too). A statement '..UptoSaid' is the law's where the arguments, and the package variables that the reading takes, are together of bulk at most 1048576: NARROWER than '..Said'. Prove '..Said' where nothing that the law and all that it calls make is longer than what came in: it says more and counts as full. Else prove '..UptoSaid'. A law counts once. -/
mutual
def uptoBulk {H : Type} : DataW H → Nat
  | .lit (.string bytes) => bytes.length + 1
  | .lit _ => 1
  | .nil => 1
  | .ptr d => uptoBulk d + 1
  | .slice elems spare => uptoBulkAll elems + uptoBulkAll spare + 1
  | .agg parts => uptoBulkAll parts + 1
  | .iface _ d => uptoBulk d + 1
  | .map entries => uptoBulkEntries entries + 1
  | .held _ => 1
def uptoBulkAll {H : Type} : List (DataW H) → Nat
  | [] => 0
  | d :: r => uptoBulk d + uptoBulkAll r
def uptoBulkEntries {H : Type} : List (Lit × DataW H) → Nat
  | [] => 0
  | x :: r => uptoBulkEntry x + uptoBulkEntries r
def uptoBulkEntry {H : Type} : Lit × DataW H → Nat
  | (.string bytes, d) => bytes.length + uptoBulk d + 1
  | (_, d) => uptoBulk d + 1
 end
def uptoSmall : (H : Type) → List (DataW H) → Bool := fun _ ds => decide (uptoBulkAll ds ≤ 1048576)
def OpenSpec.upto (s : _root_.Go.ChangeSpec) : _root_.Go.OpenSpec := { _root_.Go.OpenSpec.ofChange s with cond := some uptoSmall }

/-- 'wardlaw.Kept', WHERE WHAT IT READS IS OF BULK AT MOST 1048576: true; the input reads as it did. -/
def keptUptoRow : OpenClaim := { program := "ytenaelkbgkpllaagreatdoor", sum := "97b293286d0a0698a6d558ff959bb9aa6c3e7021c2502438760d0a89a8bbf418", func := "ward/wardlaw.Kept", spec := "kept", inPlace := ["slices.overlaps[ward/api.Point]", "internal/abi.NoEscape", "internal/bytealg.MakeNoZero"], unfollowed := true, recurses := true, named := ["ward/digest.roundNumbers"], apart := false, laid := [("ward/digest.roundNumbers", laid_ward_digest_roundNumbers)], narrowed := true }
def KeptUptoSaid : Prop := keptUptoRow.holds Tryz.pinned (OpenSpec.upto keptSpec)

/-- 'wardlaw.Proven', WHERE WHAT IT READS IS OF BULK AT MOST 1048576: true; the input reads as it did. -/
def provenUptoRow : OpenClaim := { program := "ytenaelkbgkpllaagreatdoor", sum := "97b293286d0a0698a6d558ff959bb9aa6c3e7021c2502438760d0a89a8bbf418", func := "ward/wardlaw.Proven", spec := "proven", inPlace := ["slices.overlaps[ward/api.Point]", "internal/abi.NoEscape", "internal/bytealg.MakeNoZero"], unfollowed := true, recurses := true, named := ["ward/digest.roundNumbers"], apart := false, laid := [("ward/digest.roundNumbers", laid_ward_digest_roundNumbers)], narrowed := true }
def ProvenUptoSaid : Prop := provenUptoRow.holds Tryz.pinned (OpenSpec.upto provenSpec)

/-- 'wardlaw.Verified', WHERE WHAT IT READS IS OF BULK AT MOST 1048576: true; the input reads as it did. -/
def verifiedUptoRow : OpenClaim := { program := "ytenaelkbgkpllaagreatdoor", sum := "97b293286d0a0698a6d558ff959bb9aa6c3e7021c2502438760d0a89a8bbf418", func := "ward/wardlaw.Verified", spec := "verified", inPlace := ["slices.overlaps[ward/api.Point]", "internal/abi.NoEscape", "internal/bytealg.MakeNoZero"], unfollowed := true, recurses := true, named := ["ward/digest.roundNumbers"], apart := false, laid := [("ward/digest.roundNumbers", laid_ward_digest_roundNumbers)], narrowed := true }
def VerifiedUptoSaid : Prop := verifiedUptoRow.holds Tryz.pinned (OpenSpec.upto verifiedSpec)

/-- 'wardlaw.All', WHERE WHAT IT READS IS OF BULK AT MOST 1048576: true; the input reads as it did. -/
def allUptoRow : OpenClaim := { program := "ytenaelkbgkpllaagreatdoor", sum := "97b293286d0a0698a6d558ff959bb9aa6c3e7021c2502438760d0a89a8bbf418", func := "ward/wardlaw.All", spec := "all", inPlace := ["slices.overlaps[ward/api.Point]", "internal/abi.NoEscape", "internal/bytealg.MakeNoZero"], unfollowed := true, recurses := true, named := ["ward/digest.roundNumbers"], apart := false, laid := [("ward/digest.roundNumbers", laid_ward_digest_roundNumbers)], narrowed := true }
def AllUptoSaid : Prop := allUptoRow.holds Tryz.pinned (OpenSpec.upto allSpec)

/-- 'wardkeep.Bound', WHERE WHAT IT READS IS OF BULK AT MOST 1048576: true; the input reads as it did. -/
def boundUptoRow : OpenClaim := { program := "ytenaelkbgkpllaagreatdoor", sum := "97b293286d0a0698a6d558ff959bb9aa6c3e7021c2502438760d0a89a8bbf418", func := "ward/wardkeep.Bound", spec := "bound", inPlace := ["slices.overlaps[ward/api.Point]", "internal/abi.NoEscape", "internal/bytealg.MakeNoZero"], unfollowed := true, recurses := true, named := ["ward/wardkeep.whole", "ward/digest.roundNumbers"], apart := false, laid := [("ward/digest.roundNumbers", laid_ward_digest_roundNumbers), ("ward/wardkeep.whole", laid_ward_wardkeep_whole)], narrowed := true }
def BoundUptoSaid : Prop := boundUptoRow.holds Tryz.pinned (OpenSpec.upto boundSpec)

/-- 'wardkeep.Right', WHERE WHAT IT READS IS OF BULK AT MOST 1048576: true; the input reads as it did. -/
def rightUptoRow : OpenClaim := { program := "ytenaelkbgkpllaagreatdoor", sum := "97b293286d0a0698a6d558ff959bb9aa6c3e7021c2502438760d0a89a8bbf418", func := "ward/wardkeep.Right", spec := "right", inPlace := ["slices.overlaps[ward/api.Point]", "internal/abi.NoEscape", "internal/bytealg.MakeNoZero"], unfollowed := true, recurses := true, named := ["ward/digest.roundNumbers"], apart := false, laid := [("ward/digest.roundNumbers", laid_ward_digest_roundNumbers)], narrowed := true }
def RightUptoSaid : Prop := rightUptoRow.holds Tryz.pinned (OpenSpec.upto rightSpec)

/-- 'wardkeep.Small', WHERE WHAT IT READS IS OF BULK AT MOST 1048576: true; the input reads as it did. -/
def smallUptoRow : OpenClaim := { program := "ytenaelkbgkpllaagreatdoor", sum := "97b293286d0a0698a6d558ff959bb9aa6c3e7021c2502438760d0a89a8bbf418", func := "ward/wardkeep.Small", spec := "small", inPlace := ["slices.overlaps[ward/api.Point]", "internal/abi.NoEscape", "internal/bytealg.MakeNoZero"], unfollowed := true, recurses := true, named := ["ward/digest.roundNumbers"], apart := false, laid := [("ward/digest.roundNumbers", laid_ward_digest_roundNumbers)], narrowed := true }
def SmallUptoSaid : Prop := smallUptoRow.holds Tryz.pinned (OpenSpec.upto smallSpec)

/-- 'wardkeep.Sole', WHERE WHAT IT READS IS OF BULK AT MOST 1048576: true; the input reads as it did. -/
def soleUptoRow : OpenClaim := { program := "ytenaelkbgkpllaagreatdoor", sum := "97b293286d0a0698a6d558ff959bb9aa6c3e7021c2502438760d0a89a8bbf418", func := "ward/wardkeep.Sole", spec := "sole", inPlace := ["slices.overlaps[ward/api.Point]", "internal/abi.NoEscape", "internal/bytealg.MakeNoZero"], unfollowed := true, recurses := true, named := ["ward/wardkeep.whole", "ward/digest.roundNumbers"], apart := false, laid := [("ward/digest.roundNumbers", laid_ward_digest_roundNumbers), ("ward/wardkeep.whole", laid_ward_wardkeep_whole)], narrowed := true }
def SoleUptoSaid : Prop := soleUptoRow.holds Tryz.pinned (OpenSpec.upto soleSpec)

end Rows
end Go.Proofs.YtenaelkbgkpllaaGreatDoor
