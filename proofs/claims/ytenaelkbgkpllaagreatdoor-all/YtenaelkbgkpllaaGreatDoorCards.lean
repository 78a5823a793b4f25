/-
  DERIVED. GIVEN WITH THE SEED: THE CARDS: each row of YtenaelkbgkpllaaGreatDoorRows.lean that lists a variable, with what it lists TIED to the program's text (the seventh form; the later family's looks); each row that meets fmt, with fmt's text TOLD by the authors' own Lean function (tested against real Go, not proved from fmt's source: count such statements apart). THE CARD IS WHAT COUNTS. Prove the row's statement (the work); the ties are given (YtenaelkbgkpllaaGreatDoorTie.lean); close each card by the builder's one call (the guide's Derived/Test/ToyasCard.lean, 'card_holds'). Laid BY PROGRAM, IN A SANDBOX (cutbox-door.mjs). By AI agents, Wed Nov 11 2026. No macro, syntax, notation, axiom, sorry.
-/
import Derived.Test.YtenaelkbgkpllaaGreatDoorRows
import GoSem.ClaimSeven
namespace Go.Proofs.YtenaelkbgkpllaaGreatDoor
namespace Rows

/-- THE TIED CARD OF 'wardlaw.Kept'. -/
def keptCard : Claim7 := { stood := { row := keptRow, standIns := [], harness := (true, "c3738a42a0295169d520e03885f83ad89ab822d143f49bf34796f5b330cdee5b"), looks := true }, kinds := [], alts := [], laidByText := true, laidKinds := [.data], laidTests := true, laidLooks := .later }
def KeptCardSaid : Prop := Claim7.holds Tryz.pinned (.plain (OpenSpec.ofChange keptSpec)) keptCard

/-- THE TIED CARD OF 'wardlaw.Proven'. -/
def provenCard : Claim7 := { stood := { row := provenRow, standIns := [], harness := (true, "c3738a42a0295169d520e03885f83ad89ab822d143f49bf34796f5b330cdee5b"), looks := true }, kinds := [], alts := [], laidByText := true, laidKinds := [.data], laidTests := true, laidLooks := .later }
def ProvenCardSaid : Prop := Claim7.holds Tryz.pinned (.plain (OpenSpec.ofChange provenSpec)) provenCard

/-- THE TIED CARD OF 'wardlaw.Verified'. -/
def verifiedCard : Claim7 := { stood := { row := verifiedRow, standIns := [], harness := (true, "c3738a42a0295169d520e03885f83ad89ab822d143f49bf34796f5b330cdee5b"), looks := true }, kinds := [], alts := [], laidByText := true, laidKinds := [.data], laidTests := true, laidLooks := .later }
def VerifiedCardSaid : Prop := Claim7.holds Tryz.pinned (.plain (OpenSpec.ofChange verifiedSpec)) verifiedCard

/-- THE TIED CARD OF 'wardlaw.All'. -/
def allCard : Claim7 := { stood := { row := allRow, standIns := [], harness := (true, "c3738a42a0295169d520e03885f83ad89ab822d143f49bf34796f5b330cdee5b"), looks := true }, kinds := [], alts := [], laidByText := true, laidKinds := [.data], laidTests := true, laidLooks := .later }
def AllCardSaid : Prop := Claim7.holds Tryz.pinned (.plain (OpenSpec.ofChange allSpec)) allCard

/-- THE TIED CARD OF 'wardkeep.Bound'. -/
def boundCard : Claim7 := { stood := { row := boundRow, standIns := [], harness := (true, "c3738a42a0295169d520e03885f83ad89ab822d143f49bf34796f5b330cdee5b"), looks := true }, kinds := [], alts := [], laidByText := true, laidKinds := [.data, .data], laidTests := true, laidLooks := .later }
def BoundCardSaid : Prop := Claim7.holds Tryz.pinned (.plain (OpenSpec.ofChange boundSpec)) boundCard

/-- THE TIED CARD OF 'wardkeep.Right'. -/
def rightCard : Claim7 := { stood := { row := rightRow, standIns := [], harness := (true, "c3738a42a0295169d520e03885f83ad89ab822d143f49bf34796f5b330cdee5b"), looks := true }, kinds := [], alts := [], laidByText := true, laidKinds := [.data], laidTests := true, laidLooks := .later }
def RightCardSaid : Prop := Claim7.holds Tryz.pinned (.plain (OpenSpec.ofChange rightSpec)) rightCard

/-- THE TIED CARD OF 'wardkeep.Small'. -/
def smallCard : Claim7 := { stood := { row := smallRow, standIns := [], harness := (true, "c3738a42a0295169d520e03885f83ad89ab822d143f49bf34796f5b330cdee5b"), looks := true }, kinds := [], alts := [], laidByText := true, laidKinds := [.data], laidTests := true, laidLooks := .later }
def SmallCardSaid : Prop := Claim7.holds Tryz.pinned (.plain (OpenSpec.ofChange smallSpec)) smallCard

/-- THE TIED CARD OF 'wardkeep.Sole'. -/
def soleCard : Claim7 := { stood := { row := soleRow, standIns := [], harness := (true, "c3738a42a0295169d520e03885f83ad89ab822d143f49bf34796f5b330cdee5b"), looks := true }, kinds := [], alts := [], laidByText := true, laidKinds := [.data, .data], laidTests := true, laidLooks := .later }
def SoleCardSaid : Prop := Claim7.holds Tryz.pinned (.plain (OpenSpec.ofChange soleSpec)) soleCard

/-- THE SECOND FORM's CARD OF 'wardlaw.Kept'. -/
def keptUptoCard : Claim7 := { stood := { row := keptUptoRow, standIns := [], harness := (true, "c3738a42a0295169d520e03885f83ad89ab822d143f49bf34796f5b330cdee5b"), looks := true }, kinds := [], alts := [], laidByText := true, laidKinds := [.data], laidTests := true, laidLooks := .later }
def KeptUptoCardSaid : Prop := Claim7.holds Tryz.pinned (.plain (OpenSpec.upto keptSpec)) keptUptoCard

/-- THE SECOND FORM's CARD OF 'wardlaw.Proven'. -/
def provenUptoCard : Claim7 := { stood := { row := provenUptoRow, standIns := [], harness := (true, "c3738a42a0295169d520e03885f83ad89ab822d143f49bf34796f5b330cdee5b"), looks := true }, kinds := [], alts := [], laidByText := true, laidKinds := [.data], laidTests := true, laidLooks := .later }
def ProvenUptoCardSaid : Prop := Claim7.holds Tryz.pinned (.plain (OpenSpec.upto provenSpec)) provenUptoCard

/-- THE SECOND FORM's CARD OF 'wardlaw.Verified'. -/
def verifiedUptoCard : Claim7 := { stood := { row := verifiedUptoRow, standIns := [], harness := (true, "c3738a42a0295169d520e03885f83ad89ab822d143f49bf34796f5b330cdee5b"), looks := true }, kinds := [], alts := [], laidByText := true, laidKinds := [.data], laidTests := true, laidLooks := .later }
def VerifiedUptoCardSaid : Prop := Claim7.holds Tryz.pinned (.plain (OpenSpec.upto verifiedSpec)) verifiedUptoCard

/-- THE SECOND FORM's CARD OF 'wardlaw.All'. -/
def allUptoCard : Claim7 := { stood := { row := allUptoRow, standIns := [], harness := (true, "c3738a42a0295169d520e03885f83ad89ab822d143f49bf34796f5b330cdee5b"), looks := true }, kinds := [], alts := [], laidByText := true, laidKinds := [.data], laidTests := true, laidLooks := .later }
def AllUptoCardSaid : Prop := Claim7.holds Tryz.pinned (.plain (OpenSpec.upto allSpec)) allUptoCard

/-- THE SECOND FORM's CARD OF 'wardkeep.Bound'. -/
def boundUptoCard : Claim7 := { stood := { row := boundUptoRow, standIns := [], harness := (true, "c3738a42a0295169d520e03885f83ad89ab822d143f49bf34796f5b330cdee5b"), looks := true }, kinds := [], alts := [], laidByText := true, laidKinds := [.data, .data], laidTests := true, laidLooks := .later }
def BoundUptoCardSaid : Prop := Claim7.holds Tryz.pinned (.plain (OpenSpec.upto boundSpec)) boundUptoCard

/-- THE SECOND FORM's CARD OF 'wardkeep.Right'. -/
def rightUptoCard : Claim7 := { stood := { row := rightUptoRow, standIns := [], harness := (true, "c3738a42a0295169d520e03885f83ad89ab822d143f49bf34796f5b330cdee5b"), looks := true }, kinds := [], alts := [], laidByText := true, laidKinds := [.data], laidTests := true, laidLooks := .later }
def RightUptoCardSaid : Prop := Claim7.holds Tryz.pinned (.plain (OpenSpec.upto rightSpec)) rightUptoCard

/-- THE SECOND FORM's CARD OF 'wardkeep.Small'. -/
def smallUptoCard : Claim7 := { stood := { row := smallUptoRow, standIns := [], harness := (true, "c3738a42a0295169d520e03885f83ad89ab822d143f49bf34796f5b330cdee5b"), looks := true }, kinds := [], alts := [], laidByText := true, laidKinds := [.data], laidTests := true, laidLooks := .later }
def SmallUptoCardSaid : Prop := Claim7.holds Tryz.pinned (.plain (OpenSpec.upto smallSpec)) smallUptoCard

/-- THE SECOND FORM's CARD OF 'wardkeep.Sole'. -/
def soleUptoCard : Claim7 := { stood := { row := soleUptoRow, standIns := [], harness := (true, "c3738a42a0295169d520e03885f83ad89ab822d143f49bf34796f5b330cdee5b"), looks := true }, kinds := [], alts := [], laidByText := true, laidKinds := [.data, .data], laidTests := true, laidLooks := .later }
def SoleUptoCardSaid : Prop := Claim7.holds Tryz.pinned (.plain (OpenSpec.upto soleSpec)) soleUptoCard
end Rows
end Go.Proofs.YtenaelkbgkpllaaGreatDoor
