/-
  DERIVED. GIVEN WITH THE SEED: THE PROGRAM's TIES (one call each: nine closed facts by the kernel) AND EACH ROW's TIE, after the 31st guide's Derived/Test/Toyas{Tie, Card}.lean. No idea stands in it: it is a product of the set-up. Laid BY PROGRAM, IN A SANDBOX (cutbox-door.mjs). By AI agents, Wed Nov 11 2026. No macro, syntax, notation, axiom, sorry.
-/
import Derived.Test.YtgcijioiicmjiaaDoorRows
import Derived.LaidByTextLater
import Derived.SevenTiedAt
import Derived.LaidSub
import Derived.LaidOnce
namespace Go.Proofs.YtgcijioiicmjiaaDoor
open Go
set_option maxRecDepth 100000
theorem seatTie1 : Tryd.prog.laidByTextLater [("swatch/etcone.numbers", Rows.laid_swatch_etcone_numbers), ("swatch/etctwo.colourT", Rows.laid_swatch_etctwo_colourT), ("swatch/etctwo.colourH", Rows.laid_swatch_etctwo_colourH), ("swatch/etctwo.colourPlanar", Rows.laid_swatch_etctwo_colourPlanar), ("swatch/etctwo.distanceT", Rows.laid_swatch_etctwo_distanceT), ("swatch/etctwo.distanceH", Rows.laid_swatch_etctwo_distanceH), ("swatch/etctwo.keepers", Rows.laid_swatch_etctwo_keepers), ("swatch/etctwo.blueAbove", Rows.laid_swatch_etctwo_blueAbove), ("swatch/etctwo.blueBelow", Rows.laid_swatch_etctwo_blueBelow), ("swatch/etctwo.diff", Rows.laid_swatch_etctwo_diff), ("swatch/etctwo.blueFirst", Rows.laid_swatch_etctwo_blueFirst), ("swatch/etctwo.blueSecond", Rows.laid_swatch_etctwo_blueSecond), ("swatch/etctwo.distances", Rows.laid_swatch_etctwo_distances), ("swatch/etctwo.kindsByChannel", Rows.laid_swatch_etctwo_kindsByChannel)] [.data, .data, .data, .data, .data, .data, .data, .data, .data, .data, .data, .data, .data, .data] true :=
  Program.laidByTextLater_by_one 151 8 55 (by kernel_rfl) (by kernel_rfl) (by kernel_rfl) (by kernel_rfl) (by kernel_rfl) (by kernel_rfl) (fun _ _ => by kernel_rfl)
theorem noOwnUnsafe : Tryd.pinned.checked.prog.headLifts.contains "ownunsafe" = false := by kernel_rfl
theorem tie : Tryd.prog.laidByTextLater [("swatch/etcone.numbers", Rows.laid_swatch_etcone_numbers), ("swatch/etctwo.colourT", Rows.laid_swatch_etctwo_colourT), ("swatch/etctwo.colourH", Rows.laid_swatch_etctwo_colourH), ("swatch/etctwo.colourPlanar", Rows.laid_swatch_etctwo_colourPlanar), ("swatch/etctwo.distanceT", Rows.laid_swatch_etctwo_distanceT), ("swatch/etctwo.distanceH", Rows.laid_swatch_etctwo_distanceH), ("swatch/etctwo.keepers", Rows.laid_swatch_etctwo_keepers), ("swatch/etctwo.blueAbove", Rows.laid_swatch_etctwo_blueAbove), ("swatch/etctwo.blueBelow", Rows.laid_swatch_etctwo_blueBelow), ("swatch/etctwo.diff", Rows.laid_swatch_etctwo_diff), ("swatch/etctwo.blueFirst", Rows.laid_swatch_etctwo_blueFirst), ("swatch/etctwo.blueSecond", Rows.laid_swatch_etctwo_blueSecond), ("swatch/etctwo.distances", Rows.laid_swatch_etctwo_distances), ("swatch/etctwo.kindsByChannel", Rows.laid_swatch_etctwo_kindsByChannel)] [.data, .data, .data, .data, .data, .data, .data, .data, .data, .data, .data, .data, .data, .data] true :=
  Program.laidByTextLater.sub seatTie1 ["swatch/etcone.numbers", "swatch/etctwo.colourT", "swatch/etctwo.colourH", "swatch/etctwo.colourPlanar", "swatch/etctwo.distanceT", "swatch/etctwo.distanceH", "swatch/etctwo.keepers", "swatch/etctwo.blueAbove", "swatch/etctwo.blueBelow", "swatch/etctwo.diff", "swatch/etctwo.blueFirst", "swatch/etctwo.blueSecond", "swatch/etctwo.distances", "swatch/etctwo.kindsByChannel"] (by kernel_rfl) (by kernel_rfl)
theorem etctwoDecodes_row_tie : Rows.etctwoDecodesRow.laidByTextAt .later Tryd.pinned [.data, .data, .data, .data, .data, .data, .data, .data, .data, .data, .data, .data, .data, .data] true :=
  OpenClaim.laidByTextAt_later rfl rfl tie noOwnUnsafe
theorem etctwoLays_row_tie : Rows.etctwoLaysRow.laidByTextAt .later Tryd.pinned [.data, .data, .data, .data, .data, .data, .data, .data, .data, .data, .data, .data, .data, .data] true :=
  OpenClaim.laidByTextAt_later rfl rfl tie noOwnUnsafe
theorem etctwoPlanar_row_tie : Rows.etctwoPlanarRow.laidByTextAt .later Tryd.pinned [.data, .data, .data, .data, .data, .data, .data, .data, .data, .data, .data, .data, .data, .data] true :=
  OpenClaim.laidByTextAt_later rfl rfl tie noOwnUnsafe
theorem etctwoOlder_row_tie : Rows.etctwoOlderRow.laidByTextAt .later Tryd.pinned [.data, .data, .data, .data, .data, .data, .data, .data, .data, .data, .data, .data, .data, .data] true :=
  OpenClaim.laidByTextAt_later rfl rfl tie noOwnUnsafe
theorem etctwoDecodesUpto_row_tie : Rows.etctwoDecodesUptoRow.laidByTextAt .later Tryd.pinned [.data, .data, .data, .data, .data, .data, .data, .data, .data, .data, .data, .data, .data, .data] true :=
  OpenClaim.laidByTextAt_later rfl rfl tie noOwnUnsafe
theorem etctwoLaysUpto_row_tie : Rows.etctwoLaysUptoRow.laidByTextAt .later Tryd.pinned [.data, .data, .data, .data, .data, .data, .data, .data, .data, .data, .data, .data, .data, .data] true :=
  OpenClaim.laidByTextAt_later rfl rfl tie noOwnUnsafe
theorem etctwoPlanarUpto_row_tie : Rows.etctwoPlanarUptoRow.laidByTextAt .later Tryd.pinned [.data, .data, .data, .data, .data, .data, .data, .data, .data, .data, .data, .data, .data, .data] true :=
  OpenClaim.laidByTextAt_later rfl rfl tie noOwnUnsafe
theorem etctwoOlderUpto_row_tie : Rows.etctwoOlderUptoRow.laidByTextAt .later Tryd.pinned [.data, .data, .data, .data, .data, .data, .data, .data, .data, .data, .data, .data, .data, .data] true :=
  OpenClaim.laidByTextAt_later rfl rfl tie noOwnUnsafe
end Go.Proofs.YtgcijioiicmjiaaDoor
