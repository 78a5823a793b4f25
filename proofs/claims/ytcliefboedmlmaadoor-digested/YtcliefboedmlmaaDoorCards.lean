/-
  DERIVED. GIVEN WITH THE SEED: THE CARDS: each row of YtcliefboedmlmaaDoorRows.lean that lists a variable, with what it lists TIED to the program's text (the seventh form; the later family's looks); each row that meets fmt, with fmt's text TOLD by the authors' own Lean function (tested against real Go, not proved from fmt's source: count such statements apart). THE CARD IS WHAT COUNTS. Prove the row's statement (the work); the ties are given (YtcliefboedmlmaaDoorTie.lean); close each card by the builder's one call (the guide's Derived/Test/ToyasCard.lean, 'card_holds'). Laid BY PROGRAM, IN A SANDBOX (cutbox-door.mjs). By AI agents, Wed Nov 11 2026. No macro, syntax, notation, axiom, sorry.
-/
import Derived.Test.YtcliefboedmlmaaDoorRows
import GoSem.ClaimSeven
namespace Go.Proofs.YtcliefboedmlmaaDoor
namespace Rows

/-- THE TIED CARD OF 'wardkeep.Digested'. -/
def digestedCard : Claim7 := { stood := { row := digestedRow, standIns := [], harness := (true, "1d9ffc58e52141c3223f9b7864a48b392effd8dac2ebd51d478f5fc479ebd2e1"), looks := true }, kinds := [], alts := [], laidByText := true, laidKinds := [.data], laidTests := true, laidLooks := .later }
def DigestedCardSaid : Prop := Claim7.holds Tryd.pinned (.plain (OpenSpec.ofChange digestedSpec)) digestedCard

/-- THE TIED CARD OF 'wardkeep.Bound'. -/
def boundCard : Claim7 := { stood := { row := boundRow, standIns := [], harness := (true, "1d9ffc58e52141c3223f9b7864a48b392effd8dac2ebd51d478f5fc479ebd2e1"), looks := true }, kinds := [], alts := [], laidByText := true, laidKinds := [.data, .data], laidTests := true, laidLooks := .later }
def BoundCardSaid : Prop := Claim7.holds Tryd.pinned (.plain (OpenSpec.ofChange boundSpec)) boundCard

/-- THE SECOND FORM's CARD OF 'wardkeep.Digested'. -/
def digestedUptoCard : Claim7 := { stood := { row := digestedUptoRow, standIns := [], harness := (true, "1d9ffc58e52141c3223f9b7864a48b392effd8dac2ebd51d478f5fc479ebd2e1"), looks := true }, kinds := [], alts := [], laidByText := true, laidKinds := [.data], laidTests := true, laidLooks := .later }
def DigestedUptoCardSaid : Prop := Claim7.holds Tryd.pinned (.plain (OpenSpec.upto digestedSpec)) digestedUptoCard

/-- THE SECOND FORM's CARD OF 'wardkeep.Bound'. -/
def boundUptoCard : Claim7 := { stood := { row := boundUptoRow, standIns := [], harness := (true, "1d9ffc58e52141c3223f9b7864a48b392effd8dac2ebd51d478f5fc479ebd2e1"), looks := true }, kinds := [], alts := [], laidByText := true, laidKinds := [.data, .data], laidTests := true, laidLooks := .later }
def BoundUptoCardSaid : Prop := Claim7.holds Tryd.pinned (.plain (OpenSpec.upto boundSpec)) boundUptoCard
end Rows
end Go.Proofs.YtcliefboedmlmaaDoor
