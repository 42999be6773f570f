/-
  DERIVED. GIVEN WITH THE SEED: THE CARDS: each row of YtnoailihkjccbaaDoorRows.lean that lists a variable, with what it lists TIED to the program's text (the seventh form; the later family's looks); each row that meets fmt, with fmt's text TOLD by the authors' own Lean function (tested against real Go, not proved from fmt's source: count such statements apart). THE CARD IS WHAT COUNTS. Prove the row's statement (the work); the ties are given (YtnoailihkjccbaaDoorTie.lean); close each card by the builder's one call (the guide's Derived/Test/ToyasCard.lean, 'card_holds'). Laid BY PROGRAM, IN A SANDBOX (cutbox-door.mjs). By AI agents, Wed Nov 11 2026. No macro, syntax, notation, axiom, sorry.
-/
import Derived.Test.YtnoailihkjccbaaDoorRows
import GoSem.ClaimSeven
namespace Go.Proofs.YtnoailihkjccbaaDoor
namespace Rows

/-- THE TIED CARD OF 'swatchlaw09.BcsevenDecodes'. -/
def bcsevenDecodesCard : Claim7 := { stood := { row := bcsevenDecodesRow, standIns := [], harness := (true, "d6f880270ef1ca776671cebc75ae2b9259b98cbbbc9c803f442515bbb8134e03"), looks := false }, kinds := [], alts := [], laidByText := true, laidKinds := [.data, .data, .data], laidTests := true, laidLooks := .later }
def BcsevenDecodesCardSaid : Prop := Claim7.holds Tryd.pinned (.plain (OpenSpec.ofChange bcsevenDecodesSpec)) bcsevenDecodesCard

/-- THE TIED CARD OF 'swatchlaw09.BcsevenSix'. -/
def bcsevenSixCard : Claim7 := { stood := { row := bcsevenSixRow, standIns := [], harness := (true, "d6f880270ef1ca776671cebc75ae2b9259b98cbbbc9c803f442515bbb8134e03"), looks := false }, kinds := [], alts := [], laidByText := true, laidKinds := [.data, .data, .data], laidTests := true, laidLooks := .later }
def BcsevenSixCardSaid : Prop := Claim7.holds Tryd.pinned (.plain (OpenSpec.ofChange bcsevenSixSpec)) bcsevenSixCard

/-- THE TIED CARD OF 'swatchlaw09.BcsevenRamp'. -/
def bcsevenRampCard : Claim7 := { stood := { row := bcsevenRampRow, standIns := [], harness := (true, "d6f880270ef1ca776671cebc75ae2b9259b98cbbbc9c803f442515bbb8134e03"), looks := false }, kinds := [], alts := [], laidByText := true, laidKinds := [.data, .data, .data], laidTests := true, laidLooks := .later }
def BcsevenRampCardSaid : Prop := Claim7.holds Tryd.pinned (.plain (OpenSpec.ofChange bcsevenRampSpec)) bcsevenRampCard

/-- THE TIED CARD OF 'swatchlaw09.BcsevenTurns'. -/
def bcsevenTurnsCard : Claim7 := { stood := { row := bcsevenTurnsRow, standIns := [], harness := (true, "d6f880270ef1ca776671cebc75ae2b9259b98cbbbc9c803f442515bbb8134e03"), looks := false }, kinds := [], alts := [], laidByText := true, laidKinds := [.data, .data, .data], laidTests := true, laidLooks := .later }
def BcsevenTurnsCardSaid : Prop := Claim7.holds Tryd.pinned (.plain (OpenSpec.ofChange bcsevenTurnsSpec)) bcsevenTurnsCard

/-- THE TIED CARD OF 'swatchlaw09.BcsevenWithin'. -/
def bcsevenWithinCard : Claim7 := { stood := { row := bcsevenWithinRow, standIns := [], harness := (true, "d6f880270ef1ca776671cebc75ae2b9259b98cbbbc9c803f442515bbb8134e03"), looks := false }, kinds := [], alts := [], laidByText := true, laidKinds := [.data, .data, .data], laidTests := true, laidLooks := .later }
def BcsevenWithinCardSaid : Prop := Claim7.holds Tryd.pinned (.plain (OpenSpec.ofChange bcsevenWithinSpec)) bcsevenWithinCard

/-- THE SECOND FORM's CARD OF 'swatchlaw09.BcsevenDecodes'. -/
def bcsevenDecodesUptoCard : Claim7 := { stood := { row := bcsevenDecodesUptoRow, standIns := [], harness := (true, "d6f880270ef1ca776671cebc75ae2b9259b98cbbbc9c803f442515bbb8134e03"), looks := false }, kinds := [], alts := [], laidByText := true, laidKinds := [.data, .data, .data], laidTests := true, laidLooks := .later }
def BcsevenDecodesUptoCardSaid : Prop := Claim7.holds Tryd.pinned (.plain (OpenSpec.upto bcsevenDecodesSpec)) bcsevenDecodesUptoCard

/-- THE SECOND FORM's CARD OF 'swatchlaw09.BcsevenSix'. -/
def bcsevenSixUptoCard : Claim7 := { stood := { row := bcsevenSixUptoRow, standIns := [], harness := (true, "d6f880270ef1ca776671cebc75ae2b9259b98cbbbc9c803f442515bbb8134e03"), looks := false }, kinds := [], alts := [], laidByText := true, laidKinds := [.data, .data, .data], laidTests := true, laidLooks := .later }
def BcsevenSixUptoCardSaid : Prop := Claim7.holds Tryd.pinned (.plain (OpenSpec.upto bcsevenSixSpec)) bcsevenSixUptoCard

/-- THE SECOND FORM's CARD OF 'swatchlaw09.BcsevenRamp'. -/
def bcsevenRampUptoCard : Claim7 := { stood := { row := bcsevenRampUptoRow, standIns := [], harness := (true, "d6f880270ef1ca776671cebc75ae2b9259b98cbbbc9c803f442515bbb8134e03"), looks := false }, kinds := [], alts := [], laidByText := true, laidKinds := [.data, .data, .data], laidTests := true, laidLooks := .later }
def BcsevenRampUptoCardSaid : Prop := Claim7.holds Tryd.pinned (.plain (OpenSpec.upto bcsevenRampSpec)) bcsevenRampUptoCard

/-- THE SECOND FORM's CARD OF 'swatchlaw09.BcsevenTurns'. -/
def bcsevenTurnsUptoCard : Claim7 := { stood := { row := bcsevenTurnsUptoRow, standIns := [], harness := (true, "d6f880270ef1ca776671cebc75ae2b9259b98cbbbc9c803f442515bbb8134e03"), looks := false }, kinds := [], alts := [], laidByText := true, laidKinds := [.data, .data, .data], laidTests := true, laidLooks := .later }
def BcsevenTurnsUptoCardSaid : Prop := Claim7.holds Tryd.pinned (.plain (OpenSpec.upto bcsevenTurnsSpec)) bcsevenTurnsUptoCard

/-- THE SECOND FORM's CARD OF 'swatchlaw09.BcsevenWithin'. -/
def bcsevenWithinUptoCard : Claim7 := { stood := { row := bcsevenWithinUptoRow, standIns := [], harness := (true, "d6f880270ef1ca776671cebc75ae2b9259b98cbbbc9c803f442515bbb8134e03"), looks := false }, kinds := [], alts := [], laidByText := true, laidKinds := [.data, .data, .data], laidTests := true, laidLooks := .later }
def BcsevenWithinUptoCardSaid : Prop := Claim7.holds Tryd.pinned (.plain (OpenSpec.upto bcsevenWithinSpec)) bcsevenWithinUptoCard
end Rows
end Go.Proofs.YtnoailihkjccbaaDoor
