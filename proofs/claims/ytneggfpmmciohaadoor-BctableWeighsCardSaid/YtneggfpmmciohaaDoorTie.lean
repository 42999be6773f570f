/-
  DERIVED. GIVEN WITH THE SEED: THE PROGRAM's TIES (one call each: nine closed facts by the kernel) AND EACH ROW's TIE, after the 31st guide's Derived/Test/Toyas{Tie, Card}.lean. No idea stands in it: it is a product of the set-up. Laid BY PROGRAM, IN A SANDBOX (cutbox-door.mjs). By AI agents, Wed Nov 11 2026. No macro, syntax, notation, axiom, sorry.
-/
import Derived.Test.YtneggfpmmciohaaDoorRows
import Derived.LaidByTextLater
import Derived.SevenTiedAt
import Derived.LaidSub
import Derived.LaidOnce
namespace Go.Proofs.YtneggfpmmciohaaDoor
open Go
set_option maxRecDepth 100000
theorem seatTie1 : Tryd.prog.laidByTextLater [("swatch/bctable.twos", Rows.laid_swatch_bctable_twos), ("swatch/bctable.threes", Rows.laid_swatch_bctable_threes), ("swatch/bctable.anchors", Rows.laid_swatch_bctable_anchors)] [.data, .data, .data] true :=
  Program.laidByTextLater_by_one 33 8 199 (by kernel_rfl) (by kernel_rfl) (by kernel_rfl) (by kernel_rfl) (by kernel_rfl) (by kernel_rfl) (fun _ _ => by kernel_rfl)
theorem noOwnUnsafe : Tryd.pinned.checked.prog.headLifts.contains "ownunsafe" = false := by kernel_rfl
theorem tie : Tryd.prog.laidByTextLater [("swatch/bctable.twos", Rows.laid_swatch_bctable_twos), ("swatch/bctable.threes", Rows.laid_swatch_bctable_threes), ("swatch/bctable.anchors", Rows.laid_swatch_bctable_anchors)] [.data, .data, .data] true :=
  Program.laidByTextLater.sub seatTie1 ["swatch/bctable.twos", "swatch/bctable.threes", "swatch/bctable.anchors"] (by kernel_rfl) (by kernel_rfl)
theorem bctableTells_row_tie : Rows.bctableTellsRow.laidByTextAt .later Tryd.pinned [.data, .data, .data] true :=
  OpenClaim.laidByTextAt_later rfl rfl tie noOwnUnsafe
theorem bctableDeals_row_tie : Rows.bctableDealsRow.laidByTextAt .later Tryd.pinned [.data, .data, .data] true :=
  OpenClaim.laidByTextAt_later rfl rfl tie noOwnUnsafe
theorem bctableWeighs_row_tie : Rows.bctableWeighsRow.laidByTextAt .later Tryd.pinned [.data, .data, .data] true :=
  OpenClaim.laidByTextAt_later rfl rfl tie noOwnUnsafe
theorem bctableTellsUpto_row_tie : Rows.bctableTellsUptoRow.laidByTextAt .later Tryd.pinned [.data, .data, .data] true :=
  OpenClaim.laidByTextAt_later rfl rfl tie noOwnUnsafe
theorem bctableDealsUpto_row_tie : Rows.bctableDealsUptoRow.laidByTextAt .later Tryd.pinned [.data, .data, .data] true :=
  OpenClaim.laidByTextAt_later rfl rfl tie noOwnUnsafe
theorem bctableWeighsUpto_row_tie : Rows.bctableWeighsUptoRow.laidByTextAt .later Tryd.pinned [.data, .data, .data] true :=
  OpenClaim.laidByTextAt_later rfl rfl tie noOwnUnsafe
end Go.Proofs.YtneggfpmmciohaaDoor
