/-
  DERIVED. GIVEN WITH THE SEED: THE CARDS: each row of YtenaelkbgkpllaaDoorRows.lean that lists a variable, with what it lists TIED to the program's text (the seventh form; the later family's looks); each row that meets fmt, with fmt's text TOLD by the authors' own Lean function (tested against real Go, not proved from fmt's source: count such statements apart). THE CARD IS WHAT COUNTS. Prove the row's statement (the work); the ties are given (YtenaelkbgkpllaaDoorTie.lean); close each card by the builder's one call (the guide's Derived/Test/ToyasCard.lean, 'card_holds'). Laid BY PROGRAM, IN A SANDBOX (cutbox-door.mjs). By AI agents, Wed Nov 11 2026. No macro, syntax, notation, axiom, sorry.
-/
import Derived.Test.YtenaelkbgkpllaaDoorRows
import GoSem.ClaimSeven
namespace Go.Proofs.YtenaelkbgkpllaaDoor
namespace Rows

/-- THE TIED CARD OF 'wardkeep.Digested'. -/
def digestedCard : Claim7 := { stood := { row := digestedRow, standIns := [], harness := (true, "5381c773dc970ddc68dacbf300d4a62887e8e5c6ef4a9e5dc487729bad8e9f70"), looks := false }, kinds := [], alts := [], laidByText := true, laidKinds := [.data], laidTests := true, laidLooks := .later }
def DigestedCardSaid : Prop := Claim7.holds Tryd.pinned (.plain (OpenSpec.ofChange digestedSpec)) digestedCard

/-- THE SECOND FORM's CARD OF 'wardkeep.Digested'. -/
def digestedUptoCard : Claim7 := { stood := { row := digestedUptoRow, standIns := [], harness := (true, "5381c773dc970ddc68dacbf300d4a62887e8e5c6ef4a9e5dc487729bad8e9f70"), looks := false }, kinds := [], alts := [], laidByText := true, laidKinds := [.data], laidTests := true, laidLooks := .later }
def DigestedUptoCardSaid : Prop := Claim7.holds Tryd.pinned (.plain (OpenSpec.upto digestedSpec)) digestedUptoCard
end Rows
end Go.Proofs.YtenaelkbgkpllaaDoor
