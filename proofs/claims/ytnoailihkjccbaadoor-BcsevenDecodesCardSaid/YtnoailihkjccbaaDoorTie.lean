/-
  DERIVED. GIVEN WITH THE SEED: THE PROGRAM's TIES (one call each: nine closed facts by the kernel) AND EACH ROW's TIE, after the 31st guide's Derived/Test/Toyas{Tie, Card}.lean. No idea stands in it: it is a product of the set-up. Laid BY PROGRAM, IN A SANDBOX (cutbox-door.mjs). By AI agents, Wed Nov 11 2026. No macro, syntax, notation, axiom, sorry.
-/
import Derived.Test.YtnoailihkjccbaaDoorRows
import Derived.LaidByTextLater
import Derived.SevenTiedAt
import Derived.LaidSub
import Derived.LaidOnce
namespace Go.Proofs.YtnoailihkjccbaaDoor
open Go
set_option maxRecDepth 100000
theorem seatTie1 : Tryd.prog.laidByTextLater [("swatch/bctable.twos", Rows.laid_swatch_bctable_twos), ("swatch/bctable.threes", Rows.laid_swatch_bctable_threes), ("swatch/bctable.anchors", Rows.laid_swatch_bctable_anchors)] [.data, .data, .data] true :=
  Program.laidByTextLater_by_one 33 8 199 (by kernel_rfl) (by kernel_rfl) (by kernel_rfl) (by kernel_rfl) (by kernel_rfl) (by kernel_rfl) (fun _ _ => by kernel_rfl)
theorem noOwnUnsafe : Tryd.pinned.checked.prog.headLifts.contains "ownunsafe" = false := by kernel_rfl
theorem tie : Tryd.prog.laidByTextLater [("swatch/bctable.twos", Rows.laid_swatch_bctable_twos), ("swatch/bctable.threes", Rows.laid_swatch_bctable_threes), ("swatch/bctable.anchors", Rows.laid_swatch_bctable_anchors)] [.data, .data, .data] true :=
  Program.laidByTextLater.sub seatTie1 ["swatch/bctable.twos", "swatch/bctable.threes", "swatch/bctable.anchors"] (by kernel_rfl) (by kernel_rfl)
theorem bcsevenDecodes_row_tie : Rows.bcsevenDecodesRow.laidByTextAt .later Tryd.pinned [.data, .data, .data] true :=
  OpenClaim.laidByTextAt_later rfl rfl tie noOwnUnsafe
theorem bcsevenSix_row_tie : Rows.bcsevenSixRow.laidByTextAt .later Tryd.pinned [.data, .data, .data] true :=
  OpenClaim.laidByTextAt_later rfl rfl tie noOwnUnsafe
theorem bcsevenRamp_row_tie : Rows.bcsevenRampRow.laidByTextAt .later Tryd.pinned [.data, .data, .data] true :=
  OpenClaim.laidByTextAt_later rfl rfl tie noOwnUnsafe
theorem bcsevenTurns_row_tie : Rows.bcsevenTurnsRow.laidByTextAt .later Tryd.pinned [.data, .data, .data] true :=
  OpenClaim.laidByTextAt_later rfl rfl tie noOwnUnsafe
theorem bcsevenWithin_row_tie : Rows.bcsevenWithinRow.laidByTextAt .later Tryd.pinned [.data, .data, .data] true :=
  OpenClaim.laidByTextAt_later rfl rfl tie noOwnUnsafe
theorem bcsevenDecodesUpto_row_tie : Rows.bcsevenDecodesUptoRow.laidByTextAt .later Tryd.pinned [.data, .data, .data] true :=
  OpenClaim.laidByTextAt_later rfl rfl tie noOwnUnsafe
theorem bcsevenSixUpto_row_tie : Rows.bcsevenSixUptoRow.laidByTextAt .later Tryd.pinned [.data, .data, .data] true :=
  OpenClaim.laidByTextAt_later rfl rfl tie noOwnUnsafe
theorem bcsevenRampUpto_row_tie : Rows.bcsevenRampUptoRow.laidByTextAt .later Tryd.pinned [.data, .data, .data] true :=
  OpenClaim.laidByTextAt_later rfl rfl tie noOwnUnsafe
theorem bcsevenTurnsUpto_row_tie : Rows.bcsevenTurnsUptoRow.laidByTextAt .later Tryd.pinned [.data, .data, .data] true :=
  OpenClaim.laidByTextAt_later rfl rfl tie noOwnUnsafe
theorem bcsevenWithinUpto_row_tie : Rows.bcsevenWithinUptoRow.laidByTextAt .later Tryd.pinned [.data, .data, .data] true :=
  OpenClaim.laidByTextAt_later rfl rfl tie noOwnUnsafe
end Go.Proofs.YtnoailihkjccbaaDoor
