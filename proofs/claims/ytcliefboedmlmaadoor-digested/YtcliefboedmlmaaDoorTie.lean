/-
  DERIVED. GIVEN WITH THE SEED: THE PROGRAM's TIES (one call each: nine closed facts by the kernel) AND EACH ROW's TIE, after the 31st guide's Derived/Test/Toyas{Tie, Card}.lean. No idea stands in it: it is a product of the set-up. Laid BY PROGRAM, IN A SANDBOX (cutbox-door.mjs). By AI agents, Wed Nov 11 2026. No macro, syntax, notation, axiom, sorry.
-/
import Derived.Test.YtcliefboedmlmaaDoorRows
import Derived.LaidByTextLater
import Derived.SevenTiedAt
import Derived.LaidSub
import Derived.LaidOnce
namespace Go.Proofs.YtcliefboedmlmaaDoor
open Go
set_option maxRecDepth 100000
theorem seatTie1 : Tryd.prog.laidByTextLater [("ward/digest.roundNumbers", Rows.laid_ward_digest_roundNumbers), ("ward/wardkeep.whole", Rows.laid_ward_wardkeep_whole)] [.data, .data] true :=
  Program.laidByTextLater_by_one 19 8 65 (by kernel_rfl) (by kernel_rfl) (by kernel_rfl) (by kernel_rfl) (by kernel_rfl) (by kernel_rfl) (fun _ _ => by kernel_rfl)
theorem noOwnUnsafe : Tryd.pinned.checked.prog.headLifts.contains "ownunsafe" = false := by kernel_rfl
theorem tie : Tryd.prog.laidByTextLater [("ward/digest.roundNumbers", Rows.laid_ward_digest_roundNumbers)] [.data] true :=
  Program.laidByTextLater.sub seatTie1 ["ward/digest.roundNumbers"] (by kernel_rfl) (by kernel_rfl)
theorem digested_row_tie : Rows.digestedRow.laidByTextAt .later Tryd.pinned [.data] true :=
  OpenClaim.laidByTextAt_later rfl rfl tie noOwnUnsafe
theorem tie2 : Tryd.prog.laidByTextLater [("ward/digest.roundNumbers", Rows.laid_ward_digest_roundNumbers), ("ward/wardkeep.whole", Rows.laid_ward_wardkeep_whole)] [.data, .data] true :=
  Program.laidByTextLater.sub seatTie1 ["ward/digest.roundNumbers", "ward/wardkeep.whole"] (by kernel_rfl) (by kernel_rfl)
theorem bound_row_tie : Rows.boundRow.laidByTextAt .later Tryd.pinned [.data, .data] true :=
  OpenClaim.laidByTextAt_later rfl rfl tie2 noOwnUnsafe
theorem digestedUpto_row_tie : Rows.digestedUptoRow.laidByTextAt .later Tryd.pinned [.data] true :=
  OpenClaim.laidByTextAt_later rfl rfl tie noOwnUnsafe
theorem boundUpto_row_tie : Rows.boundUptoRow.laidByTextAt .later Tryd.pinned [.data, .data] true :=
  OpenClaim.laidByTextAt_later rfl rfl tie2 noOwnUnsafe
end Go.Proofs.YtcliefboedmlmaaDoor
