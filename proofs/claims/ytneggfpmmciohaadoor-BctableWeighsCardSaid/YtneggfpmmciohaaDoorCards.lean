/-
  DERIVED. GIVEN WITH THE SEED: THE CARDS: each row of YtneggfpmmciohaaDoorRows.lean that lists a variable, with what it lists TIED to the program's text (the seventh form; the later family's looks); each row that meets fmt, with fmt's text TOLD by the authors' own Lean function (tested against real Go, not proved from fmt's source: count such statements apart). THE CARD IS WHAT COUNTS. Prove the row's statement (the work); the ties are given (YtneggfpmmciohaaDoorTie.lean); close each card by the builder's one call (the guide's Derived/Test/ToyasCard.lean, 'card_holds'). Laid BY PROGRAM, IN A SANDBOX (cutbox-door.mjs). By AI agents, Wed Nov 11 2026. No macro, syntax, notation, axiom, sorry.
-/
import Derived.Test.YtneggfpmmciohaaDoorRows
import GoSem.ClaimSeven
namespace Go.Proofs.YtneggfpmmciohaaDoor
namespace Rows

/-- THE TIED CARD OF 'swatchlaw08.BctableTells'. -/
def bctableTellsCard : Claim7 := { stood := { row := bctableTellsRow, standIns := [], harness := (true, "e26cf93e7d4d92e916c6bad609a845c62ba5e0b44c5e041cf55a9c18ec64f9f8"), looks := false }, kinds := [], alts := [], laidByText := true, laidKinds := [.data, .data, .data], laidTests := true, laidLooks := .later }
def BctableTellsCardSaid : Prop := Claim7.holds Tryd.pinned (.plain (OpenSpec.ofChange bctableTellsSpec)) bctableTellsCard

/-- THE TIED CARD OF 'swatchlaw08.BctableDeals'. -/
def bctableDealsCard : Claim7 := { stood := { row := bctableDealsRow, standIns := [], harness := (true, "e26cf93e7d4d92e916c6bad609a845c62ba5e0b44c5e041cf55a9c18ec64f9f8"), looks := false }, kinds := [], alts := [], laidByText := true, laidKinds := [.data, .data, .data], laidTests := true, laidLooks := .later }
def BctableDealsCardSaid : Prop := Claim7.holds Tryd.pinned (.plain (OpenSpec.ofChange bctableDealsSpec)) bctableDealsCard

/-- THE TIED CARD OF 'swatchlaw08.BctableWeighs'. -/
def bctableWeighsCard : Claim7 := { stood := { row := bctableWeighsRow, standIns := [], harness := (true, "e26cf93e7d4d92e916c6bad609a845c62ba5e0b44c5e041cf55a9c18ec64f9f8"), looks := false }, kinds := [], alts := [], laidByText := true, laidKinds := [.data, .data, .data], laidTests := true, laidLooks := .later }
def BctableWeighsCardSaid : Prop := Claim7.holds Tryd.pinned (.plain (OpenSpec.ofChange bctableWeighsSpec)) bctableWeighsCard

/-- THE SECOND FORM's CARD OF 'swatchlaw08.BctableTells'. -/
def bctableTellsUptoCard : Claim7 := { stood := { row := bctableTellsUptoRow, standIns := [], harness := (true, "e26cf93e7d4d92e916c6bad609a845c62ba5e0b44c5e041cf55a9c18ec64f9f8"), looks := false }, kinds := [], alts := [], laidByText := true, laidKinds := [.data, .data, .data], laidTests := true, laidLooks := .later }
def BctableTellsUptoCardSaid : Prop := Claim7.holds Tryd.pinned (.plain (OpenSpec.upto bctableTellsSpec)) bctableTellsUptoCard

/-- THE SECOND FORM's CARD OF 'swatchlaw08.BctableDeals'. -/
def bctableDealsUptoCard : Claim7 := { stood := { row := bctableDealsUptoRow, standIns := [], harness := (true, "e26cf93e7d4d92e916c6bad609a845c62ba5e0b44c5e041cf55a9c18ec64f9f8"), looks := false }, kinds := [], alts := [], laidByText := true, laidKinds := [.data, .data, .data], laidTests := true, laidLooks := .later }
def BctableDealsUptoCardSaid : Prop := Claim7.holds Tryd.pinned (.plain (OpenSpec.upto bctableDealsSpec)) bctableDealsUptoCard

/-- THE SECOND FORM's CARD OF 'swatchlaw08.BctableWeighs'. -/
def bctableWeighsUptoCard : Claim7 := { stood := { row := bctableWeighsUptoRow, standIns := [], harness := (true, "e26cf93e7d4d92e916c6bad609a845c62ba5e0b44c5e041cf55a9c18ec64f9f8"), looks := false }, kinds := [], alts := [], laidByText := true, laidKinds := [.data, .data, .data], laidTests := true, laidLooks := .later }
def BctableWeighsUptoCardSaid : Prop := Claim7.holds Tryd.pinned (.plain (OpenSpec.upto bctableWeighsSpec)) bctableWeighsUptoCard
end Rows
end Go.Proofs.YtneggfpmmciohaaDoor
