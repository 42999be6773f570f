/-
  NARROWER THAN 'FOR EVERY INPUT', by the rows' own cells (each row's printed sentence says how): EacTells: laid · EacBack: laid · EacRises: laid.
  DERIVED. THE GIVEN ROWS OF THIS SEAT. 3 by the template 'for every input the law returns true; each argument reads behind the call as it read before'; 0 by the template 'total and deterministic' (their statements: YtpdpjljfloanfaaDoorTotals.lean).
  GIVEN WITH THE SEED: the statements are not yours to turn. If you find one false, say at which input.
  Laid BY PROGRAM, IN A SANDBOX (cutbox-rows.mjs): the forced cells as the released guide's own fill.sh prints them over the translation e7b98b1910cd672e… (all of the seat's roots in one cut). By AI agents, Wed Nov 11 2026. No macro, syntax, notation, axiom, sorry.
-/
import Derived.Test.YtpdpjljfloanfaaDoorChecked
import GoSem.Claim
import GoSem.ClaimJoined
import GoSem.ClaimMapViews
import Derived.JoinedTies
import Derived.KernelRfl
namespace Go.Proofs.YtpdpjljfloanfaaDoor
/- THE CELL 'sum', in the pinned program and in every row, IS THE sha256 OF THE DUMP (.gsa) THAT YtpdpjljfloanfaaDoorProg.lean LOADS. Nothing in Lean hashes anything: it is a label: what it is worth is what the hold of that sum in a sandbox is worth. -/
noncomputable def Tryd.pinned : Pinned := { name := "ytpdpjljfloanfaadoor", sum := "e7b98b1910cd672e0f1e2c9d02f9940711fe0bb53d5a557bdd015a09b5801a4f", checked := Tryd.checked }
namespace Rows
def none {H : Type} : Left H := { results := [], args := [] }

/- WHAT THE LISTED PACKAGE-LEVEL VARIABLES READ AS WHEN THE CALL BEGINS. Each datum BY PROGRAM (the guide's laid-datum.mjs) off the statement by which the dump's own 'gosem.cut.vars' lays the variable. In a bare row this is a premise. The card (YtpdpjljfloanfaaDoorCards.lean) ties it to the program's text. -/
def laid_swatch_eac_tables {H : Type} : DataW H := .agg [.agg [.lit (.int .i64 (-3)), .lit (.int .i64 (-6)), .lit (.int .i64 (-9)), .lit (.int .i64 (-15)), .lit (.int .i64 2), .lit (.int .i64 5), .lit (.int .i64 8), .lit (.int .i64 14)], .agg [.lit (.int .i64 (-3)), .lit (.int .i64 (-7)), .lit (.int .i64 (-10)), .lit (.int .i64 (-13)), .lit (.int .i64 2), .lit (.int .i64 6), .lit (.int .i64 9), .lit (.int .i64 12)], .agg [.lit (.int .i64 (-2)), .lit (.int .i64 (-5)), .lit (.int .i64 (-8)), .lit (.int .i64 (-13)), .lit (.int .i64 1), .lit (.int .i64 4), .lit (.int .i64 7), .lit (.int .i64 12)], .agg [.lit (.int .i64 (-2)), .lit (.int .i64 (-4)), .lit (.int .i64 (-6)), .lit (.int .i64 (-13)), .lit (.int .i64 1), .lit (.int .i64 3), .lit (.int .i64 5), .lit (.int .i64 12)], .agg [.lit (.int .i64 (-3)), .lit (.int .i64 (-6)), .lit (.int .i64 (-8)), .lit (.int .i64 (-12)), .lit (.int .i64 2), .lit (.int .i64 5), .lit (.int .i64 7), .lit (.int .i64 11)], .agg [.lit (.int .i64 (-3)), .lit (.int .i64 (-7)), .lit (.int .i64 (-9)), .lit (.int .i64 (-11)), .lit (.int .i64 2), .lit (.int .i64 6), .lit (.int .i64 8), .lit (.int .i64 10)], .agg [.lit (.int .i64 (-4)), .lit (.int .i64 (-7)), .lit (.int .i64 (-8)), .lit (.int .i64 (-11)), .lit (.int .i64 3), .lit (.int .i64 6), .lit (.int .i64 7), .lit (.int .i64 10)], .agg [.lit (.int .i64 (-3)), .lit (.int .i64 (-5)), .lit (.int .i64 (-8)), .lit (.int .i64 (-11)), .lit (.int .i64 2), .lit (.int .i64 4), .lit (.int .i64 7), .lit (.int .i64 10)], .agg [.lit (.int .i64 (-2)), .lit (.int .i64 (-6)), .lit (.int .i64 (-8)), .lit (.int .i64 (-10)), .lit (.int .i64 1), .lit (.int .i64 5), .lit (.int .i64 7), .lit (.int .i64 9)], .agg [.lit (.int .i64 (-2)), .lit (.int .i64 (-5)), .lit (.int .i64 (-8)), .lit (.int .i64 (-10)), .lit (.int .i64 1), .lit (.int .i64 4), .lit (.int .i64 7), .lit (.int .i64 9)], .agg [.lit (.int .i64 (-2)), .lit (.int .i64 (-4)), .lit (.int .i64 (-8)), .lit (.int .i64 (-10)), .lit (.int .i64 1), .lit (.int .i64 3), .lit (.int .i64 7), .lit (.int .i64 9)], .agg [.lit (.int .i64 (-2)), .lit (.int .i64 (-5)), .lit (.int .i64 (-7)), .lit (.int .i64 (-10)), .lit (.int .i64 1), .lit (.int .i64 4), .lit (.int .i64 6), .lit (.int .i64 9)], .agg [.lit (.int .i64 (-3)), .lit (.int .i64 (-4)), .lit (.int .i64 (-7)), .lit (.int .i64 (-10)), .lit (.int .i64 2), .lit (.int .i64 3), .lit (.int .i64 6), .lit (.int .i64 9)], .agg [.lit (.int .i64 (-1)), .lit (.int .i64 (-2)), .lit (.int .i64 (-3)), .lit (.int .i64 (-10)), .lit (.int .i64 0), .lit (.int .i64 1), .lit (.int .i64 2), .lit (.int .i64 9)], .agg [.lit (.int .i64 (-4)), .lit (.int .i64 (-6)), .lit (.int .i64 (-8)), .lit (.int .i64 (-9)), .lit (.int .i64 3), .lit (.int .i64 5), .lit (.int .i64 7), .lit (.int .i64 8)], .agg [.lit (.int .i64 (-3)), .lit (.int .i64 (-5)), .lit (.int .i64 (-7)), .lit (.int .i64 (-9)), .lit (.int .i64 2), .lit (.int .i64 4), .lit (.int .i64 6), .lit (.int .i64 8)]]

/-- 'swatchlaw12.EacTells': WHATEVER THE INPUT: true; the input reads as it did. -/
def eacTellsSpec : ChangeSpec := { name := "eacTells", fn := fun _ => fun
  | [d1, d2, d3] => { results := [.lit (.bool true)], args := [d1, d2, d3] }
  | _ => none }
def eacTellsRow : OpenClaim := { program := "ytpdpjljfloanfaadoor", sum := "e7b98b1910cd672e0f1e2c9d02f9940711fe0bb53d5a557bdd015a09b5801a4f", func := "swatch/swatchlaw12.EacTells", spec := "eacTells", unfollowed := true, recurses := true, named := ["swatch/eac.tables"], apart := false, laid := [("swatch/eac.tables", laid_swatch_eac_tables)] }
def EacTellsSaid : Prop := eacTellsRow.holds Tryd.pinned (OpenSpec.ofChange eacTellsSpec)

/-- ITS FALSE NEIGHBOUR: 'it returns false'. Refute it at one input. -/
def eacTellsWrong : ChangeSpec := { name := "eacTells", fn := fun _ => fun
  | [d1, d2, d3] => { results := [.lit (.bool false)], args := [d1, d2, d3] }
  | _ => none }
def EacTellsWrongFalsely : Prop := eacTellsRow.holds Tryd.pinned (OpenSpec.ofChange eacTellsWrong)

/-- 'swatchlaw12.EacBack': WHATEVER THE INPUT: true; the input reads as it did. -/
def eacBackSpec : ChangeSpec := { name := "eacBack", fn := fun _ => fun
  | [d] => { results := [.lit (.bool true)], args := [d] }
  | _ => none }
def eacBackRow : OpenClaim := { program := "ytpdpjljfloanfaadoor", sum := "e7b98b1910cd672e0f1e2c9d02f9940711fe0bb53d5a557bdd015a09b5801a4f", func := "swatch/swatchlaw12.EacBack", spec := "eacBack", unfollowed := true, recurses := true, named := ["swatch/eac.tables"], apart := false, laid := [("swatch/eac.tables", laid_swatch_eac_tables)] }
def EacBackSaid : Prop := eacBackRow.holds Tryd.pinned (OpenSpec.ofChange eacBackSpec)

/-- ITS FALSE NEIGHBOUR: 'it returns false'. Refute it at one input. -/
def eacBackWrong : ChangeSpec := { name := "eacBack", fn := fun _ => fun
  | [d] => { results := [.lit (.bool false)], args := [d] }
  | _ => none }
def EacBackWrongFalsely : Prop := eacBackRow.holds Tryd.pinned (OpenSpec.ofChange eacBackWrong)

/-- 'swatchlaw12.EacRises': WHATEVER THE INPUT: true; the input reads as it did. -/
def eacRisesSpec : ChangeSpec := { name := "eacRises", fn := fun _ => fun
  | [d1, d2, d3] => { results := [.lit (.bool true)], args := [d1, d2, d3] }
  | _ => none }
def eacRisesRow : OpenClaim := { program := "ytpdpjljfloanfaadoor", sum := "e7b98b1910cd672e0f1e2c9d02f9940711fe0bb53d5a557bdd015a09b5801a4f", func := "swatch/swatchlaw12.EacRises", spec := "eacRises", unfollowed := true, recurses := true, named := ["swatch/eac.tables"], apart := false, laid := [("swatch/eac.tables", laid_swatch_eac_tables)] }
def EacRisesSaid : Prop := eacRisesRow.holds Tryd.pinned (OpenSpec.ofChange eacRisesSpec)

/-- ITS FALSE NEIGHBOUR: 'it returns false'. Refute it at one input. -/
def eacRisesWrong : ChangeSpec := { name := "eacRises", fn := fun _ => fun
  | [d1, d2, d3] => { results := [.lit (.bool false)], args := [d1, d2, d3] }
  | _ => none }
def EacRisesWrongFalsely : Prop := eacRisesRow.holds Tryd.pinned (OpenSpec.ofChange eacRisesWrong)

/- THE SECOND FORM. 'bulk': how many values and letters a reading holds, each counted each time it is reached (what is shared counts as often as it is met; a slice's spare places count too). A statement '..UptoSaid' is the law's where the arguments, and the package variables that the reading takes, are together of bulk at most 1048576: NARROWER than '..Said'. Prove '..Said' where nothing that the law and all that it calls make is longer than what came in: it says more and counts as full. Else prove '..UptoSaid'. A law counts once. -/
mutual
def uptoBulk {H : Type} : DataW H → Nat
  | .lit (.string bytes) => bytes.length + 1
  | .lit _ => 1
  | .nil => 1
  | .ptr d => uptoBulk d + 1
  | .slice elems spare => uptoBulkAll elems + uptoBulkAll spare + 1
  | .agg parts => uptoBulkAll parts + 1
  | .iface _ d => uptoBulk d + 1
  | .map entries => uptoBulkEntries entries + 1
  | .held _ => 1
def uptoBulkAll {H : Type} : List (DataW H) → Nat
  | [] => 0
  | d :: r => uptoBulk d + uptoBulkAll r
def uptoBulkEntries {H : Type} : List (Lit × DataW H) → Nat
  | [] => 0
  | x :: r => uptoBulkEntry x + uptoBulkEntries r
def uptoBulkEntry {H : Type} : Lit × DataW H → Nat
  | (.string bytes, d) => bytes.length + uptoBulk d + 1
  | (_, d) => uptoBulk d + 1
 end
def uptoSmall : (H : Type) → List (DataW H) → Bool := fun _ ds => decide (uptoBulkAll ds ≤ 1048576)
def OpenSpec.upto (s : _root_.Go.ChangeSpec) : _root_.Go.OpenSpec := { _root_.Go.OpenSpec.ofChange s with cond := some uptoSmall }

/-- 'swatchlaw12.EacTells', WHERE WHAT IT READS IS OF BULK AT MOST 1048576: true; the input reads as it did. -/
def eacTellsUptoRow : OpenClaim := { program := "ytpdpjljfloanfaadoor", sum := "e7b98b1910cd672e0f1e2c9d02f9940711fe0bb53d5a557bdd015a09b5801a4f", func := "swatch/swatchlaw12.EacTells", spec := "eacTells", unfollowed := true, recurses := true, named := ["swatch/eac.tables"], apart := false, laid := [("swatch/eac.tables", laid_swatch_eac_tables)], narrowed := true }
def EacTellsUptoSaid : Prop := eacTellsUptoRow.holds Tryd.pinned (OpenSpec.upto eacTellsSpec)

/-- 'swatchlaw12.EacBack', WHERE WHAT IT READS IS OF BULK AT MOST 1048576: true; the input reads as it did. -/
def eacBackUptoRow : OpenClaim := { program := "ytpdpjljfloanfaadoor", sum := "e7b98b1910cd672e0f1e2c9d02f9940711fe0bb53d5a557bdd015a09b5801a4f", func := "swatch/swatchlaw12.EacBack", spec := "eacBack", unfollowed := true, recurses := true, named := ["swatch/eac.tables"], apart := false, laid := [("swatch/eac.tables", laid_swatch_eac_tables)], narrowed := true }
def EacBackUptoSaid : Prop := eacBackUptoRow.holds Tryd.pinned (OpenSpec.upto eacBackSpec)

/-- 'swatchlaw12.EacRises', WHERE WHAT IT READS IS OF BULK AT MOST 1048576: true; the input reads as it did. -/
def eacRisesUptoRow : OpenClaim := { program := "ytpdpjljfloanfaadoor", sum := "e7b98b1910cd672e0f1e2c9d02f9940711fe0bb53d5a557bdd015a09b5801a4f", func := "swatch/swatchlaw12.EacRises", spec := "eacRises", unfollowed := true, recurses := true, named := ["swatch/eac.tables"], apart := false, laid := [("swatch/eac.tables", laid_swatch_eac_tables)], narrowed := true }
def EacRisesUptoSaid : Prop := eacRisesUptoRow.holds Tryd.pinned (OpenSpec.upto eacRisesSpec)

end Rows
end Go.Proofs.YtpdpjljfloanfaaDoor
