/-
  DERIVED. GIVEN WITH THE SEED: THE CARDS: each row of YtgcijioiicmjiaaDoorRows.lean that lists a variable, with what it lists TIED to the program's text (the seventh form; the later family's looks); each row that meets fmt, with fmt's text TOLD by the authors' own Lean function (tested against real Go, not proved from fmt's source: count such statements apart). THE CARD IS WHAT COUNTS. Prove the row's statement (the work); the ties are given (YtgcijioiicmjiaaDoorTie.lean); close each card by the builder's one call (the guide's Derived/Test/ToyasCard.lean, 'card_holds'). Laid BY PROGRAM, IN A SANDBOX (cutbox-door.mjs). By AI agents, Wed Nov 11 2026. No macro, syntax, notation, axiom, sorry.
-/
import Derived.Test.YtgcijioiicmjiaaDoorRows
import GoSem.ClaimSeven
namespace Go.Proofs.YtgcijioiicmjiaaDoor
namespace Rows

/-- THE TIED CARD OF 'swatchlaw11.EtctwoDecodes'. -/
def etctwoDecodesCard : Claim7 := { stood := { row := etctwoDecodesRow, standIns := [], harness := (true, "20adfea5830222a15a1da6530826a339d278ca569e6f0cd8eac9bfeeba9ea1e1"), looks := false }, kinds := [], alts := [], laidByText := true, laidKinds := [.data, .data, .data, .data, .data, .data, .data, .data, .data, .data, .data, .data, .data, .data], laidTests := true, laidLooks := .later }
def EtctwoDecodesCardSaid : Prop := Claim7.holds Tryd.pinned (.plain (OpenSpec.ofChange etctwoDecodesSpec)) etctwoDecodesCard

/-- THE TIED CARD OF 'swatchlaw11.EtctwoLays'. -/
def etctwoLaysCard : Claim7 := { stood := { row := etctwoLaysRow, standIns := [], harness := (true, "20adfea5830222a15a1da6530826a339d278ca569e6f0cd8eac9bfeeba9ea1e1"), looks := false }, kinds := [], alts := [], laidByText := true, laidKinds := [.data, .data, .data, .data, .data, .data, .data, .data, .data, .data, .data, .data, .data, .data], laidTests := true, laidLooks := .later }
def EtctwoLaysCardSaid : Prop := Claim7.holds Tryd.pinned (.plain (OpenSpec.ofChange etctwoLaysSpec)) etctwoLaysCard

/-- THE TIED CARD OF 'swatchlaw11.EtctwoPlanar'. -/
def etctwoPlanarCard : Claim7 := { stood := { row := etctwoPlanarRow, standIns := [], harness := (true, "20adfea5830222a15a1da6530826a339d278ca569e6f0cd8eac9bfeeba9ea1e1"), looks := false }, kinds := [], alts := [], laidByText := true, laidKinds := [.data, .data, .data, .data, .data, .data, .data, .data, .data, .data, .data, .data, .data, .data], laidTests := true, laidLooks := .later }
def EtctwoPlanarCardSaid : Prop := Claim7.holds Tryd.pinned (.plain (OpenSpec.ofChange etctwoPlanarSpec)) etctwoPlanarCard

/-- THE TIED CARD OF 'swatchlaw11.EtctwoOlder'. -/
def etctwoOlderCard : Claim7 := { stood := { row := etctwoOlderRow, standIns := [], harness := (true, "20adfea5830222a15a1da6530826a339d278ca569e6f0cd8eac9bfeeba9ea1e1"), looks := false }, kinds := [], alts := [], laidByText := true, laidKinds := [.data, .data, .data, .data, .data, .data, .data, .data, .data, .data, .data, .data, .data, .data], laidTests := true, laidLooks := .later }
def EtctwoOlderCardSaid : Prop := Claim7.holds Tryd.pinned (.plain (OpenSpec.ofChange etctwoOlderSpec)) etctwoOlderCard

/-- THE SECOND FORM's CARD OF 'swatchlaw11.EtctwoDecodes'. -/
def etctwoDecodesUptoCard : Claim7 := { stood := { row := etctwoDecodesUptoRow, standIns := [], harness := (true, "20adfea5830222a15a1da6530826a339d278ca569e6f0cd8eac9bfeeba9ea1e1"), looks := false }, kinds := [], alts := [], laidByText := true, laidKinds := [.data, .data, .data, .data, .data, .data, .data, .data, .data, .data, .data, .data, .data, .data], laidTests := true, laidLooks := .later }
def EtctwoDecodesUptoCardSaid : Prop := Claim7.holds Tryd.pinned (.plain (OpenSpec.upto etctwoDecodesSpec)) etctwoDecodesUptoCard

/-- THE SECOND FORM's CARD OF 'swatchlaw11.EtctwoLays'. -/
def etctwoLaysUptoCard : Claim7 := { stood := { row := etctwoLaysUptoRow, standIns := [], harness := (true, "20adfea5830222a15a1da6530826a339d278ca569e6f0cd8eac9bfeeba9ea1e1"), looks := false }, kinds := [], alts := [], laidByText := true, laidKinds := [.data, .data, .data, .data, .data, .data, .data, .data, .data, .data, .data, .data, .data, .data], laidTests := true, laidLooks := .later }
def EtctwoLaysUptoCardSaid : Prop := Claim7.holds Tryd.pinned (.plain (OpenSpec.upto etctwoLaysSpec)) etctwoLaysUptoCard

/-- THE SECOND FORM's CARD OF 'swatchlaw11.EtctwoPlanar'. -/
def etctwoPlanarUptoCard : Claim7 := { stood := { row := etctwoPlanarUptoRow, standIns := [], harness := (true, "20adfea5830222a15a1da6530826a339d278ca569e6f0cd8eac9bfeeba9ea1e1"), looks := false }, kinds := [], alts := [], laidByText := true, laidKinds := [.data, .data, .data, .data, .data, .data, .data, .data, .data, .data, .data, .data, .data, .data], laidTests := true, laidLooks := .later }
def EtctwoPlanarUptoCardSaid : Prop := Claim7.holds Tryd.pinned (.plain (OpenSpec.upto etctwoPlanarSpec)) etctwoPlanarUptoCard

/-- THE SECOND FORM's CARD OF 'swatchlaw11.EtctwoOlder'. -/
def etctwoOlderUptoCard : Claim7 := { stood := { row := etctwoOlderUptoRow, standIns := [], harness := (true, "20adfea5830222a15a1da6530826a339d278ca569e6f0cd8eac9bfeeba9ea1e1"), looks := false }, kinds := [], alts := [], laidByText := true, laidKinds := [.data, .data, .data, .data, .data, .data, .data, .data, .data, .data, .data, .data, .data, .data], laidTests := true, laidLooks := .later }
def EtctwoOlderUptoCardSaid : Prop := Claim7.holds Tryd.pinned (.plain (OpenSpec.upto etctwoOlderSpec)) etctwoOlderUptoCard
end Rows
end Go.Proofs.YtgcijioiicmjiaaDoor
