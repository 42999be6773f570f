/-
  NARROWER THAN 'FOR EVERY INPUT', by the rows' own cells (each row's printed sentence says how): EtconeTells: laid · EtconeJoins: laid · EtconeBack: laid · EtconeTurns: laid.
  DERIVED. THE GIVEN ROWS OF THIS SEAT. 4 by the template 'for every input the law returns true; each argument reads behind the call as it read before'; 0 by the template 'total and deterministic' (their statements: YtjlkdmdepdoanaaDoorTotals.lean).
  GIVEN WITH THE SEED: the statements are not yours to turn. If you find one false, say at which input.
  Laid BY PROGRAM, IN A SANDBOX (cutbox-rows.mjs): the forced cells as the released guide's own fill.sh prints them over the translation c5e955770f60a5dc… (all of the seat's roots in one cut). By AI agents, Wed Nov 11 2026. No macro, syntax, notation, axiom, sorry.
-/
import Derived.Test.YtjlkdmdepdoanaaDoorChecked
import GoSem.Claim
import GoSem.ClaimJoined
import GoSem.ClaimMapViews
import Derived.JoinedTies
import Derived.KernelRfl
namespace Go.Proofs.YtjlkdmdepdoanaaDoor
/- THE CELL 'sum', in the pinned program and in every row, IS THE sha256 OF THE DUMP (.gsa) THAT YtjlkdmdepdoanaaDoorProg.lean LOADS. Nothing in Lean hashes anything: it is a label: what it is worth is what the hold of that sum in a sandbox is worth. -/
noncomputable def Tryd.pinned : Pinned := { name := "ytjlkdmdepdoanaadoor", sum := "c5e955770f60a5dcf640bad761720b57741c2ac4afee30afb22053c40cebce3b", checked := Tryd.checked }
namespace Rows
def none {H : Type} : Left H := { results := [], args := [] }

/- WHAT THE LISTED PACKAGE-LEVEL VARIABLES READ AS WHEN THE CALL BEGINS. Each datum BY PROGRAM (the guide's laid-datum.mjs) off the statement by which the dump's own 'gosem.cut.vars' lays the variable. In a bare row this is a premise. The card (YtjlkdmdepdoanaaDoorCards.lean) ties it to the program's text. -/
def laid_swatch_etcone_numbers {H : Type} : DataW H := .agg [.agg [.lit (.int .i64 2), .lit (.int .i64 8)], .agg [.lit (.int .i64 5), .lit (.int .i64 17)], .agg [.lit (.int .i64 9), .lit (.int .i64 29)], .agg [.lit (.int .i64 13), .lit (.int .i64 42)], .agg [.lit (.int .i64 18), .lit (.int .i64 60)], .agg [.lit (.int .i64 24), .lit (.int .i64 80)], .agg [.lit (.int .i64 33), .lit (.int .i64 106)], .agg [.lit (.int .i64 47), .lit (.int .i64 183)]]

/-- 'swatchlaw10.EtconeTells': WHATEVER THE INPUT: true; the input reads as it did. -/
def etconeTellsSpec : ChangeSpec := { name := "etconeTells", fn := fun _ => fun
  | [d1, d2, d3] => { results := [.lit (.bool true)], args := [d1, d2, d3] }
  | _ => none }
def etconeTellsRow : OpenClaim := { program := "ytjlkdmdepdoanaadoor", sum := "c5e955770f60a5dcf640bad761720b57741c2ac4afee30afb22053c40cebce3b", func := "swatch/swatchlaw10.EtconeTells", spec := "etconeTells", unfollowed := true, recurses := true, named := ["swatch/etcone.numbers"], apart := false, laid := [("swatch/etcone.numbers", laid_swatch_etcone_numbers)] }
def EtconeTellsSaid : Prop := etconeTellsRow.holds Tryd.pinned (OpenSpec.ofChange etconeTellsSpec)

/-- ITS FALSE NEIGHBOUR: 'it returns false'. Refute it at one input. -/
def etconeTellsWrong : ChangeSpec := { name := "etconeTells", fn := fun _ => fun
  | [d1, d2, d3] => { results := [.lit (.bool false)], args := [d1, d2, d3] }
  | _ => none }
def EtconeTellsWrongFalsely : Prop := etconeTellsRow.holds Tryd.pinned (OpenSpec.ofChange etconeTellsWrong)

/-- 'swatchlaw10.EtconeJoins': WHATEVER THE INPUT: true; the input reads as it did. -/
def etconeJoinsSpec : ChangeSpec := { name := "etconeJoins", fn := fun _ => fun
  | [d] => { results := [.lit (.bool true)], args := [d] }
  | _ => none }
def etconeJoinsRow : OpenClaim := { program := "ytjlkdmdepdoanaadoor", sum := "c5e955770f60a5dcf640bad761720b57741c2ac4afee30afb22053c40cebce3b", func := "swatch/swatchlaw10.EtconeJoins", spec := "etconeJoins", unfollowed := true, recurses := true, named := ["swatch/etcone.numbers"], apart := false, laid := [("swatch/etcone.numbers", laid_swatch_etcone_numbers)] }
def EtconeJoinsSaid : Prop := etconeJoinsRow.holds Tryd.pinned (OpenSpec.ofChange etconeJoinsSpec)

/-- ITS FALSE NEIGHBOUR: 'it returns false'. Refute it at one input. -/
def etconeJoinsWrong : ChangeSpec := { name := "etconeJoins", fn := fun _ => fun
  | [d] => { results := [.lit (.bool false)], args := [d] }
  | _ => none }
def EtconeJoinsWrongFalsely : Prop := etconeJoinsRow.holds Tryd.pinned (OpenSpec.ofChange etconeJoinsWrong)

/-- 'swatchlaw10.EtconeBack': WHATEVER THE INPUT: true; the input reads as it did. -/
def etconeBackSpec : ChangeSpec := { name := "etconeBack", fn := fun _ => fun
  | [d1, d2] => { results := [.lit (.bool true)], args := [d1, d2] }
  | _ => none }
def etconeBackRow : OpenClaim := { program := "ytjlkdmdepdoanaadoor", sum := "c5e955770f60a5dcf640bad761720b57741c2ac4afee30afb22053c40cebce3b", func := "swatch/swatchlaw10.EtconeBack", spec := "etconeBack", unfollowed := true, recurses := true, named := ["swatch/etcone.numbers"], apart := false, laid := [("swatch/etcone.numbers", laid_swatch_etcone_numbers)] }
def EtconeBackSaid : Prop := etconeBackRow.holds Tryd.pinned (OpenSpec.ofChange etconeBackSpec)

/-- ITS FALSE NEIGHBOUR: 'it returns false'. Refute it at one input. -/
def etconeBackWrong : ChangeSpec := { name := "etconeBack", fn := fun _ => fun
  | [d1, d2] => { results := [.lit (.bool false)], args := [d1, d2] }
  | _ => none }
def EtconeBackWrongFalsely : Prop := etconeBackRow.holds Tryd.pinned (OpenSpec.ofChange etconeBackWrong)

/-- 'swatchlaw10.EtconeTurns': WHATEVER THE INPUT: true; the input reads as it did. -/
def etconeTurnsSpec : ChangeSpec := { name := "etconeTurns", fn := fun _ => fun
  | [d] => { results := [.lit (.bool true)], args := [d] }
  | _ => none }
def etconeTurnsRow : OpenClaim := { program := "ytjlkdmdepdoanaadoor", sum := "c5e955770f60a5dcf640bad761720b57741c2ac4afee30afb22053c40cebce3b", func := "swatch/swatchlaw10.EtconeTurns", spec := "etconeTurns", unfollowed := true, recurses := true, named := ["swatch/etcone.numbers"], apart := false, laid := [("swatch/etcone.numbers", laid_swatch_etcone_numbers)] }
def EtconeTurnsSaid : Prop := etconeTurnsRow.holds Tryd.pinned (OpenSpec.ofChange etconeTurnsSpec)

/-- ITS FALSE NEIGHBOUR: 'it returns false'. Refute it at one input. -/
def etconeTurnsWrong : ChangeSpec := { name := "etconeTurns", fn := fun _ => fun
  | [d] => { results := [.lit (.bool false)], args := [d] }
  | _ => none }
def EtconeTurnsWrongFalsely : Prop := etconeTurnsRow.holds Tryd.pinned (OpenSpec.ofChange etconeTurnsWrong)

/- THE SECOND FORM. 'bulk': how many values and letters a reading holds, each counted each time it is reached (what is shared counts as often as it is met; a slice's spare places count too). A statement '..UptoSaid' is the law's where the arguments, and the package variables that the reading takes, are together of bulk at most 1048576: NARROWER than '..Said'. Prove '..Said' where nothing that the law and all that it calls make is longer than what came in: it says more and counts as full. Else prove '..UptoSaid'. A law counts once. -/
mutual
def uptoBulk {H : Type} : DataW H → Nat
  | .lit (.string bytes) => bytes.length + 1
  | .lit _ => 1
  | .nil => 1
  | .ptr d => uptoBulk d + 1
  | .slice elems spare => uptoBulkAll elems + uptoBulkAll spare + 1
  | .agg parts => uptoBulkAll parts + 1
  | .iface _ d => uptoBulk d + 1
  | .map entries => uptoBulkEntries entries + 1
  | .held _ => 1
def uptoBulkAll {H : Type} : List (DataW H) → Nat
  | [] => 0
  | d :: r => uptoBulk d + uptoBulkAll r
def uptoBulkEntries {H : Type} : List (Lit × DataW H) → Nat
  | [] => 0
  | x :: r => uptoBulkEntry x + uptoBulkEntries r
def uptoBulkEntry {H : Type} : Lit × DataW H → Nat
  | (.string bytes, d) => bytes.length + uptoBulk d + 1
  | (_, d) => uptoBulk d + 1
 end
def uptoSmall : (H : Type) → List (DataW H) → Bool := fun _ ds => decide (uptoBulkAll ds ≤ 1048576)
def OpenSpec.upto (s : _root_.Go.ChangeSpec) : _root_.Go.OpenSpec := { _root_.Go.OpenSpec.ofChange s with cond := some uptoSmall }

/-- 'swatchlaw10.EtconeTells', WHERE WHAT IT READS IS OF BULK AT MOST 1048576: true; the input reads as it did. -/
def etconeTellsUptoRow : OpenClaim := { program := "ytjlkdmdepdoanaadoor", sum := "c5e955770f60a5dcf640bad761720b57741c2ac4afee30afb22053c40cebce3b", func := "swatch/swatchlaw10.EtconeTells", spec := "etconeTells", unfollowed := true, recurses := true, named := ["swatch/etcone.numbers"], apart := false, laid := [("swatch/etcone.numbers", laid_swatch_etcone_numbers)], narrowed := true }
def EtconeTellsUptoSaid : Prop := etconeTellsUptoRow.holds Tryd.pinned (OpenSpec.upto etconeTellsSpec)

/-- 'swatchlaw10.EtconeJoins', WHERE WHAT IT READS IS OF BULK AT MOST 1048576: true; the input reads as it did. -/
def etconeJoinsUptoRow : OpenClaim := { program := "ytjlkdmdepdoanaadoor", sum := "c5e955770f60a5dcf640bad761720b57741c2ac4afee30afb22053c40cebce3b", func := "swatch/swatchlaw10.EtconeJoins", spec := "etconeJoins", unfollowed := true, recurses := true, named := ["swatch/etcone.numbers"], apart := false, laid := [("swatch/etcone.numbers", laid_swatch_etcone_numbers)], narrowed := true }
def EtconeJoinsUptoSaid : Prop := etconeJoinsUptoRow.holds Tryd.pinned (OpenSpec.upto etconeJoinsSpec)

/-- 'swatchlaw10.EtconeBack', WHERE WHAT IT READS IS OF BULK AT MOST 1048576: true; the input reads as it did. -/
def etconeBackUptoRow : OpenClaim := { program := "ytjlkdmdepdoanaadoor", sum := "c5e955770f60a5dcf640bad761720b57741c2ac4afee30afb22053c40cebce3b", func := "swatch/swatchlaw10.EtconeBack", spec := "etconeBack", unfollowed := true, recurses := true, named := ["swatch/etcone.numbers"], apart := false, laid := [("swatch/etcone.numbers", laid_swatch_etcone_numbers)], narrowed := true }
def EtconeBackUptoSaid : Prop := etconeBackUptoRow.holds Tryd.pinned (OpenSpec.upto etconeBackSpec)

/-- 'swatchlaw10.EtconeTurns', WHERE WHAT IT READS IS OF BULK AT MOST 1048576: true; the input reads as it did. -/
def etconeTurnsUptoRow : OpenClaim := { program := "ytjlkdmdepdoanaadoor", sum := "c5e955770f60a5dcf640bad761720b57741c2ac4afee30afb22053c40cebce3b", func := "swatch/swatchlaw10.EtconeTurns", spec := "etconeTurns", unfollowed := true, recurses := true, named := ["swatch/etcone.numbers"], apart := false, laid := [("swatch/etcone.numbers", laid_swatch_etcone_numbers)], narrowed := true }
def EtconeTurnsUptoSaid : Prop := etconeTurnsUptoRow.holds Tryd.pinned (OpenSpec.upto etconeTurnsSpec)

end Rows
end Go.Proofs.YtjlkdmdepdoanaaDoor
