/-
  DERIVED. GIVEN WITH THE SEED: THE CARDS: each row of YtjlkdmdepdoanaaDoorRows.lean that lists a variable, with what it lists TIED to the program's text (the seventh form; the later family's looks); each row that meets fmt, with fmt's text TOLD by the authors' own Lean function (tested against real Go, not proved from fmt's source: count such statements apart). THE CARD IS WHAT COUNTS. Prove the row's statement (the work); the ties are given (YtjlkdmdepdoanaaDoorTie.lean); close each card by the builder's one call (the guide's Derived/Test/ToyasCard.lean, 'card_holds'). Laid BY PROGRAM, IN A SANDBOX (cutbox-door.mjs). By AI agents, Wed Nov 11 2026. No macro, syntax, notation, axiom, sorry.
-/
import Derived.Test.YtjlkdmdepdoanaaDoorRows
import GoSem.ClaimSeven
namespace Go.Proofs.YtjlkdmdepdoanaaDoor
namespace Rows

/-- THE TIED CARD OF 'swatchlaw10.EtconeTells'. -/
def etconeTellsCard : Claim7 := { stood := { row := etconeTellsRow, standIns := [], harness := (true, "72867425b003e9e304e8b147f77279fbc896fd9f78cc64474aec886ae4e6aebf"), looks := false }, kinds := [], alts := [], laidByText := true, laidKinds := [.data], laidTests := true, laidLooks := .later }
def EtconeTellsCardSaid : Prop := Claim7.holds Tryd.pinned (.plain (OpenSpec.ofChange etconeTellsSpec)) etconeTellsCard

/-- THE TIED CARD OF 'swatchlaw10.EtconeJoins'. -/
def etconeJoinsCard : Claim7 := { stood := { row := etconeJoinsRow, standIns := [], harness := (true, "72867425b003e9e304e8b147f77279fbc896fd9f78cc64474aec886ae4e6aebf"), looks := false }, kinds := [], alts := [], laidByText := true, laidKinds := [.data], laidTests := true, laidLooks := .later }
def EtconeJoinsCardSaid : Prop := Claim7.holds Tryd.pinned (.plain (OpenSpec.ofChange etconeJoinsSpec)) etconeJoinsCard

/-- THE TIED CARD OF 'swatchlaw10.EtconeBack'. -/
def etconeBackCard : Claim7 := { stood := { row := etconeBackRow, standIns := [], harness := (true, "72867425b003e9e304e8b147f77279fbc896fd9f78cc64474aec886ae4e6aebf"), looks := false }, kinds := [], alts := [], laidByText := true, laidKinds := [.data], laidTests := true, laidLooks := .later }
def EtconeBackCardSaid : Prop := Claim7.holds Tryd.pinned (.plain (OpenSpec.ofChange etconeBackSpec)) etconeBackCard

/-- THE TIED CARD OF 'swatchlaw10.EtconeTurns'. -/
def etconeTurnsCard : Claim7 := { stood := { row := etconeTurnsRow, standIns := [], harness := (true, "72867425b003e9e304e8b147f77279fbc896fd9f78cc64474aec886ae4e6aebf"), looks := false }, kinds := [], alts := [], laidByText := true, laidKinds := [.data], laidTests := true, laidLooks := .later }
def EtconeTurnsCardSaid : Prop := Claim7.holds Tryd.pinned (.plain (OpenSpec.ofChange etconeTurnsSpec)) etconeTurnsCard

/-- THE SECOND FORM's CARD OF 'swatchlaw10.EtconeTells'. -/
def etconeTellsUptoCard : Claim7 := { stood := { row := etconeTellsUptoRow, standIns := [], harness := (true, "72867425b003e9e304e8b147f77279fbc896fd9f78cc64474aec886ae4e6aebf"), looks := false }, kinds := [], alts := [], laidByText := true, laidKinds := [.data], laidTests := true, laidLooks := .later }
def EtconeTellsUptoCardSaid : Prop := Claim7.holds Tryd.pinned (.plain (OpenSpec.upto etconeTellsSpec)) etconeTellsUptoCard

/-- THE SECOND FORM's CARD OF 'swatchlaw10.EtconeJoins'. -/
def etconeJoinsUptoCard : Claim7 := { stood := { row := etconeJoinsUptoRow, standIns := [], harness := (true, "72867425b003e9e304e8b147f77279fbc896fd9f78cc64474aec886ae4e6aebf"), looks := false }, kinds := [], alts := [], laidByText := true, laidKinds := [.data], laidTests := true, laidLooks := .later }
def EtconeJoinsUptoCardSaid : Prop := Claim7.holds Tryd.pinned (.plain (OpenSpec.upto etconeJoinsSpec)) etconeJoinsUptoCard

/-- THE SECOND FORM's CARD OF 'swatchlaw10.EtconeBack'. -/
def etconeBackUptoCard : Claim7 := { stood := { row := etconeBackUptoRow, standIns := [], harness := (true, "72867425b003e9e304e8b147f77279fbc896fd9f78cc64474aec886ae4e6aebf"), looks := false }, kinds := [], alts := [], laidByText := true, laidKinds := [.data], laidTests := true, laidLooks := .later }
def EtconeBackUptoCardSaid : Prop := Claim7.holds Tryd.pinned (.plain (OpenSpec.upto etconeBackSpec)) etconeBackUptoCard

/-- THE SECOND FORM's CARD OF 'swatchlaw10.EtconeTurns'. -/
def etconeTurnsUptoCard : Claim7 := { stood := { row := etconeTurnsUptoRow, standIns := [], harness := (true, "72867425b003e9e304e8b147f77279fbc896fd9f78cc64474aec886ae4e6aebf"), looks := false }, kinds := [], alts := [], laidByText := true, laidKinds := [.data], laidTests := true, laidLooks := .later }
def EtconeTurnsUptoCardSaid : Prop := Claim7.holds Tryd.pinned (.plain (OpenSpec.upto etconeTurnsSpec)) etconeTurnsUptoCard
end Rows
end Go.Proofs.YtjlkdmdepdoanaaDoor
