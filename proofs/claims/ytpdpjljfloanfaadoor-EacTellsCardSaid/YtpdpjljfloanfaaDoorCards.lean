/-
  DERIVED. GIVEN WITH THE SEED: THE CARDS: each row of YtpdpjljfloanfaaDoorRows.lean that lists a variable, with what it lists TIED to the program's text (the seventh form; the later family's looks); each row that meets fmt, with fmt's text TOLD by the authors' own Lean function (tested against real Go, not proved from fmt's source: count such statements apart). THE CARD IS WHAT COUNTS. Prove the row's statement (the work); the ties are given (YtpdpjljfloanfaaDoorTie.lean); close each card by the builder's one call (the guide's Derived/Test/ToyasCard.lean, 'card_holds'). Laid BY PROGRAM, IN A SANDBOX (cutbox-door.mjs). By AI agents, Wed Nov 11 2026. No macro, syntax, notation, axiom, sorry.
-/
import Derived.Test.YtpdpjljfloanfaaDoorRows
import GoSem.ClaimSeven
namespace Go.Proofs.YtpdpjljfloanfaaDoor
namespace Rows

/-- THE TIED CARD OF 'swatchlaw12.EacTells'. -/
def eacTellsCard : Claim7 := { stood := { row := eacTellsRow, standIns := [], harness := (true, "ff59798fdd6b19b9415c069f1823f5c7157fc4b30dc10ac07e9d6b1a3d46f087"), looks := false }, kinds := [], alts := [], laidByText := true, laidKinds := [.data], laidTests := true, laidLooks := .later }
def EacTellsCardSaid : Prop := Claim7.holds Tryd.pinned (.plain (OpenSpec.ofChange eacTellsSpec)) eacTellsCard

/-- THE TIED CARD OF 'swatchlaw12.EacBack'. -/
def eacBackCard : Claim7 := { stood := { row := eacBackRow, standIns := [], harness := (true, "ff59798fdd6b19b9415c069f1823f5c7157fc4b30dc10ac07e9d6b1a3d46f087"), looks := false }, kinds := [], alts := [], laidByText := true, laidKinds := [.data], laidTests := true, laidLooks := .later }
def EacBackCardSaid : Prop := Claim7.holds Tryd.pinned (.plain (OpenSpec.ofChange eacBackSpec)) eacBackCard

/-- THE TIED CARD OF 'swatchlaw12.EacRises'. -/
def eacRisesCard : Claim7 := { stood := { row := eacRisesRow, standIns := [], harness := (true, "ff59798fdd6b19b9415c069f1823f5c7157fc4b30dc10ac07e9d6b1a3d46f087"), looks := false }, kinds := [], alts := [], laidByText := true, laidKinds := [.data], laidTests := true, laidLooks := .later }
def EacRisesCardSaid : Prop := Claim7.holds Tryd.pinned (.plain (OpenSpec.ofChange eacRisesSpec)) eacRisesCard

/-- THE SECOND FORM's CARD OF 'swatchlaw12.EacTells'. -/
def eacTellsUptoCard : Claim7 := { stood := { row := eacTellsUptoRow, standIns := [], harness := (true, "ff59798fdd6b19b9415c069f1823f5c7157fc4b30dc10ac07e9d6b1a3d46f087"), looks := false }, kinds := [], alts := [], laidByText := true, laidKinds := [.data], laidTests := true, laidLooks := .later }
def EacTellsUptoCardSaid : Prop := Claim7.holds Tryd.pinned (.plain (OpenSpec.upto eacTellsSpec)) eacTellsUptoCard

/-- THE SECOND FORM's CARD OF 'swatchlaw12.EacBack'. -/
def eacBackUptoCard : Claim7 := { stood := { row := eacBackUptoRow, standIns := [], harness := (true, "ff59798fdd6b19b9415c069f1823f5c7157fc4b30dc10ac07e9d6b1a3d46f087"), looks := false }, kinds := [], alts := [], laidByText := true, laidKinds := [.data], laidTests := true, laidLooks := .later }
def EacBackUptoCardSaid : Prop := Claim7.holds Tryd.pinned (.plain (OpenSpec.upto eacBackSpec)) eacBackUptoCard

/-- THE SECOND FORM's CARD OF 'swatchlaw12.EacRises'. -/
def eacRisesUptoCard : Claim7 := { stood := { row := eacRisesUptoRow, standIns := [], harness := (true, "ff59798fdd6b19b9415c069f1823f5c7157fc4b30dc10ac07e9d6b1a3d46f087"), looks := false }, kinds := [], alts := [], laidByText := true, laidKinds := [.data], laidTests := true, laidLooks := .later }
def EacRisesUptoCardSaid : Prop := Claim7.holds Tryd.pinned (.plain (OpenSpec.upto eacRisesSpec)) eacRisesUptoCard
end Rows
end Go.Proofs.YtpdpjljfloanfaaDoor
