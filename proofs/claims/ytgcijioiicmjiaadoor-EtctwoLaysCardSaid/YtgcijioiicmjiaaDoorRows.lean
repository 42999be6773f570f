/-
  NARROWER THAN 'FOR EVERY INPUT', by the rows' own cells (each row's printed sentence says how): EtctwoDecodes: laid · EtctwoLays: laid · EtctwoPlanar: laid · EtctwoOlder: laid.
  DERIVED. THE GIVEN ROWS OF THIS SEAT. 4 by the template 'for every input the law returns true; each argument reads behind the call as it read before'; 0 by the template 'total and deterministic' (their statements: YtgcijioiicmjiaaDoorTotals.lean).
  GIVEN WITH THE SEED: the statements are not yours to turn. If you find one false, say at which input.
  Laid BY PROGRAM, IN A SANDBOX (cutbox-rows.mjs): the forced cells as the released guide's own fill.sh prints them over the translation c3e59c0effeee74d… (all of the seat's roots in one cut). By AI agents, Wed Nov 11 2026. No macro, syntax, notation, axiom, sorry.
-/
import Derived.Test.YtgcijioiicmjiaaDoorChecked
import GoSem.Claim
import GoSem.ClaimJoined
import GoSem.ClaimMapViews
import Derived.JoinedTies
import Derived.KernelRfl
namespace Go.Proofs.YtgcijioiicmjiaaDoor
/- THE CELL 'sum', in the pinned program and in every row, IS THE sha256 OF THE DUMP (.gsa) THAT YtgcijioiicmjiaaDoorProg.lean LOADS. Nothing in Lean hashes anything: it is a label: what it is worth is what the hold of that sum in a sandbox is worth. -/
noncomputable def Tryd.pinned : Pinned := { name := "ytgcijioiicmjiaadoor", sum := "c3e59c0effeee74d1275b0a6b00ee3568797ae6265f00342af8593647a9a1de3", checked := Tryd.checked }
namespace Rows
def none {H : Type} : Left H := { results := [], args := [] }

/- WHAT THE LISTED PACKAGE-LEVEL VARIABLES READ AS WHEN THE CALL BEGINS. Each datum BY PROGRAM (the guide's laid-datum.mjs) off the statement by which the dump's own 'gosem.cut.vars' lays the variable. In a bare row this is a premise. The card (YtgcijioiicmjiaaDoorCards.lean) ties it to the program's text. -/
def laid_swatch_etcone_numbers {H : Type} : DataW H := .agg [.agg [.lit (.int .i64 2), .lit (.int .i64 8)], .agg [.lit (.int .i64 5), .lit (.int .i64 17)], .agg [.lit (.int .i64 9), .lit (.int .i64 29)], .agg [.lit (.int .i64 13), .lit (.int .i64 42)], .agg [.lit (.int .i64 18), .lit (.int .i64 60)], .agg [.lit (.int .i64 24), .lit (.int .i64 80)], .agg [.lit (.int .i64 33), .lit (.int .i64 106)], .agg [.lit (.int .i64 47), .lit (.int .i64 183)]]
def laid_swatch_etctwo_colourT {H : Type} : DataW H := .agg [.agg [.agg [.agg [.lit (.int .i64 3), .lit (.int .i64 2)], .agg [.lit (.int .i64 6), .lit (.int .i64 2)], .agg [.lit (.int .i64 0), .lit (.int .i64 0)]], .agg [.agg [.lit (.int .i64 8), .lit (.int .i64 4)], .agg [.lit (.int .i64 0), .lit (.int .i64 0)], .agg [.lit (.int .i64 0), .lit (.int .i64 0)]], .agg [.agg [.lit (.int .i64 12), .lit (.int .i64 4)], .agg [.lit (.int .i64 0), .lit (.int .i64 0)], .agg [.lit (.int .i64 0), .lit (.int .i64 0)]]], .agg [.agg [.agg [.lit (.int .i64 16), .lit (.int .i64 4)], .agg [.lit (.int .i64 0), .lit (.int .i64 0)], .agg [.lit (.int .i64 0), .lit (.int .i64 0)]], .agg [.agg [.lit (.int .i64 20), .lit (.int .i64 4)], .agg [.lit (.int .i64 0), .lit (.int .i64 0)], .agg [.lit (.int .i64 0), .lit (.int .i64 0)]], .agg [.agg [.lit (.int .i64 24), .lit (.int .i64 4)], .agg [.lit (.int .i64 0), .lit (.int .i64 0)], .agg [.lit (.int .i64 0), .lit (.int .i64 0)]]]]
def laid_swatch_etctwo_colourH {H : Type} : DataW H := .agg [.agg [.agg [.agg [.lit (.int .i64 1), .lit (.int .i64 4)], .agg [.lit (.int .i64 0), .lit (.int .i64 0)], .agg [.lit (.int .i64 0), .lit (.int .i64 0)]], .agg [.agg [.lit (.int .i64 5), .lit (.int .i64 3)], .agg [.lit (.int .i64 11), .lit (.int .i64 1)], .agg [.lit (.int .i64 0), .lit (.int .i64 0)]], .agg [.agg [.lit (.int .i64 12), .lit (.int .i64 1)], .agg [.lit (.int .i64 14), .lit (.int .i64 3)], .agg [.lit (.int .i64 0), .lit (.int .i64 0)]]], .agg [.agg [.agg [.lit (.int .i64 17), .lit (.int .i64 4)], .agg [.lit (.int .i64 0), .lit (.int .i64 0)], .agg [.lit (.int .i64 0), .lit (.int .i64 0)]], .agg [.agg [.lit (.int .i64 21), .lit (.int .i64 4)], .agg [.lit (.int .i64 0), .lit (.int .i64 0)], .agg [.lit (.int .i64 0), .lit (.int .i64 0)]], .agg [.agg [.lit (.int .i64 25), .lit (.int .i64 4)], .agg [.lit (.int .i64 0), .lit (.int .i64 0)], .agg [.lit (.int .i64 0), .lit (.int .i64 0)]]]]
def laid_swatch_etctwo_colourPlanar {H : Type} : DataW H := .agg [.agg [.agg [.agg [.lit (.int .i64 1), .lit (.int .i64 6)], .agg [.lit (.int .i64 0), .lit (.int .i64 0)], .agg [.lit (.int .i64 0), .lit (.int .i64 0)]], .agg [.agg [.lit (.int .i64 7), .lit (.int .i64 1)], .agg [.lit (.int .i64 9), .lit (.int .i64 6)], .agg [.lit (.int .i64 0), .lit (.int .i64 0)]], .agg [.agg [.lit (.int .i64 15), .lit (.int .i64 1)], .agg [.lit (.int .i64 19), .lit (.int .i64 2)], .agg [.lit (.int .i64 22), .lit (.int .i64 3)]]], .agg [.agg [.agg [.lit (.int .i64 25), .lit (.int .i64 5)], .agg [.lit (.int .i64 31), .lit (.int .i64 1)], .agg [.lit (.int .i64 0), .lit (.int .i64 0)]], .agg [.agg [.lit (.int .i64 32), .lit (.int .i64 7)], .agg [.lit (.int .i64 0), .lit (.int .i64 0)], .agg [.lit (.int .i64 0), .lit (.int .i64 0)]], .agg [.agg [.lit (.int .i64 39), .lit (.int .i64 6)], .agg [.lit (.int .i64 0), .lit (.int .i64 0)], .agg [.lit (.int .i64 0), .lit (.int .i64 0)]]], .agg [.agg [.agg [.lit (.int .i64 45), .lit (.int .i64 6)], .agg [.lit (.int .i64 0), .lit (.int .i64 0)], .agg [.lit (.int .i64 0), .lit (.int .i64 0)]], .agg [.agg [.lit (.int .i64 51), .lit (.int .i64 7)], .agg [.lit (.int .i64 0), .lit (.int .i64 0)], .agg [.lit (.int .i64 0), .lit (.int .i64 0)]], .agg [.agg [.lit (.int .i64 58), .lit (.int .i64 6)], .agg [.lit (.int .i64 0), .lit (.int .i64 0)], .agg [.lit (.int .i64 0), .lit (.int .i64 0)]]]]
def laid_swatch_etctwo_distanceT {H : Type} : DataW H := .agg [.agg [.lit (.int .i64 28), .lit (.int .i64 2)], .agg [.lit (.int .i64 31), .lit (.int .i64 1)], .agg [.lit (.int .i64 0), .lit (.int .i64 0)]]
def laid_swatch_etctwo_distanceH {H : Type} : DataW H := .agg [.agg [.lit (.int .i64 29), .lit (.int .i64 1)], .agg [.lit (.int .i64 31), .lit (.int .i64 1)], .agg [.lit (.int .i64 0), .lit (.int .i64 0)]]
def laid_swatch_etctwo_keepers {H : Type} : DataW H := .agg [.agg [.lit (.int .i64 0), .lit (.int .i64 1)], .agg [.lit (.int .i64 8), .lit (.int .i64 1)]]
def laid_swatch_etctwo_blueAbove {H : Type} : DataW H := .agg [.lit (.int .i64 16), .lit (.int .i64 3)]
def laid_swatch_etctwo_blueBelow {H : Type} : DataW H := .agg [.lit (.int .i64 21), .lit (.int .i64 1)]
def laid_swatch_etctwo_diff {H : Type} : DataW H := .agg [.lit (.int .i64 30), .lit (.int .i64 1)]
def laid_swatch_etctwo_blueFirst {H : Type} : DataW H := .agg [.agg [.lit (.int .i64 19), .lit (.int .i64 2)], .agg [.lit (.int .i64 0), .lit (.int .i64 0)], .agg [.lit (.int .i64 0), .lit (.int .i64 0)]]
def laid_swatch_etctwo_blueSecond {H : Type} : DataW H := .agg [.agg [.lit (.int .i64 22), .lit (.int .i64 2)], .agg [.lit (.int .i64 0), .lit (.int .i64 0)], .agg [.lit (.int .i64 0), .lit (.int .i64 0)]]
def laid_swatch_etctwo_distances {H : Type} : DataW H := .agg [.lit (.int .i64 3), .lit (.int .i64 6), .lit (.int .i64 11), .lit (.int .i64 16), .lit (.int .i64 23), .lit (.int .i64 32), .lit (.int .i64 41), .lit (.int .i64 64)]
def laid_swatch_etctwo_kindsByChannel {H : Type} : DataW H := .agg [.lit (.int .i64 1), .lit (.int .i64 2), .lit (.int .i64 3), .lit (.int .i64 0)]

/-- 'swatchlaw11.EtctwoDecodes': WHATEVER THE INPUT: true; the input reads as it did. -/
def etctwoDecodesSpec : ChangeSpec := { name := "etctwoDecodes", fn := fun _ => fun
  | [d1, d2, d3] => { results := [.lit (.bool true)], args := [d1, d2, d3] }
  | _ => none }
def etctwoDecodesRow : OpenClaim := { program := "ytgcijioiicmjiaadoor", sum := "c3e59c0effeee74d1275b0a6b00ee3568797ae6265f00342af8593647a9a1de3", func := "swatch/swatchlaw11.EtctwoDecodes", spec := "etctwoDecodes", unfollowed := true, recurses := true, named := ["swatch/etctwo.colourPlanar", "swatch/etctwo.diff", "swatch/etctwo.blueFirst", "swatch/etctwo.blueSecond", "swatch/etctwo.blueAbove", "swatch/etctwo.blueBelow", "swatch/etctwo.keepers", "swatch/etctwo.kindsByChannel", "swatch/etctwo.colourT", "swatch/etctwo.distanceT", "swatch/etctwo.distances", "swatch/etctwo.distanceH", "swatch/etctwo.colourH", "swatch/etcone.numbers"], apart := false, laid := [("swatch/etcone.numbers", laid_swatch_etcone_numbers), ("swatch/etctwo.colourT", laid_swatch_etctwo_colourT), ("swatch/etctwo.colourH", laid_swatch_etctwo_colourH), ("swatch/etctwo.colourPlanar", laid_swatch_etctwo_colourPlanar), ("swatch/etctwo.distanceT", laid_swatch_etctwo_distanceT), ("swatch/etctwo.distanceH", laid_swatch_etctwo_distanceH), ("swatch/etctwo.keepers", laid_swatch_etctwo_keepers), ("swatch/etctwo.blueAbove", laid_swatch_etctwo_blueAbove), ("swatch/etctwo.blueBelow", laid_swatch_etctwo_blueBelow), ("swatch/etctwo.diff", laid_swatch_etctwo_diff), ("swatch/etctwo.blueFirst", laid_swatch_etctwo_blueFirst), ("swatch/etctwo.blueSecond", laid_swatch_etctwo_blueSecond), ("swatch/etctwo.distances", laid_swatch_etctwo_distances), ("swatch/etctwo.kindsByChannel", laid_swatch_etctwo_kindsByChannel)] }
def EtctwoDecodesSaid : Prop := etctwoDecodesRow.holds Tryd.pinned (OpenSpec.ofChange etctwoDecodesSpec)

/-- ITS FALSE NEIGHBOUR: 'it returns false'. Refute it at one input. -/
def etctwoDecodesWrong : ChangeSpec := { name := "etctwoDecodes", fn := fun _ => fun
  | [d1, d2, d3] => { results := [.lit (.bool false)], args := [d1, d2, d3] }
  | _ => none }
def EtctwoDecodesWrongFalsely : Prop := etctwoDecodesRow.holds Tryd.pinned (OpenSpec.ofChange etctwoDecodesWrong)

/-- 'swatchlaw11.EtctwoLays': WHATEVER THE INPUT: true; the input reads as it did. -/
def etctwoLaysSpec : ChangeSpec := { name := "etctwoLays", fn := fun _ => fun
  | [d1, d2] => { results := [.lit (.bool true)], args := [d1, d2] }
  | _ => none }
def etctwoLaysRow : OpenClaim := { program := "ytgcijioiicmjiaadoor", sum := "c3e59c0effeee74d1275b0a6b00ee3568797ae6265f00342af8593647a9a1de3", func := "swatch/swatchlaw11.EtctwoLays", spec := "etctwoLays", unfollowed := true, recurses := true, named := ["swatch/etctwo.colourPlanar", "swatch/etctwo.diff", "swatch/etctwo.blueFirst", "swatch/etctwo.blueSecond", "swatch/etctwo.blueAbove", "swatch/etctwo.blueBelow", "swatch/etctwo.keepers", "swatch/etctwo.kindsByChannel", "swatch/etctwo.colourT", "swatch/etctwo.distanceT", "swatch/etctwo.distances", "swatch/etctwo.distanceH", "swatch/etctwo.colourH", "swatch/etcone.numbers"], apart := false, laid := [("swatch/etcone.numbers", laid_swatch_etcone_numbers), ("swatch/etctwo.colourT", laid_swatch_etctwo_colourT), ("swatch/etctwo.colourH", laid_swatch_etctwo_colourH), ("swatch/etctwo.colourPlanar", laid_swatch_etctwo_colourPlanar), ("swatch/etctwo.distanceT", laid_swatch_etctwo_distanceT), ("swatch/etctwo.distanceH", laid_swatch_etctwo_distanceH), ("swatch/etctwo.keepers", laid_swatch_etctwo_keepers), ("swatch/etctwo.blueAbove", laid_swatch_etctwo_blueAbove), ("swatch/etctwo.blueBelow", laid_swatch_etctwo_blueBelow), ("swatch/etctwo.diff", laid_swatch_etctwo_diff), ("swatch/etctwo.blueFirst", laid_swatch_etctwo_blueFirst), ("swatch/etctwo.blueSecond", laid_swatch_etctwo_blueSecond), ("swatch/etctwo.distances", laid_swatch_etctwo_distances), ("swatch/etctwo.kindsByChannel", laid_swatch_etctwo_kindsByChannel)] }
def EtctwoLaysSaid : Prop := etctwoLaysRow.holds Tryd.pinned (OpenSpec.ofChange etctwoLaysSpec)

/-- ITS FALSE NEIGHBOUR: 'it returns false'. Refute it at one input. -/
def etctwoLaysWrong : ChangeSpec := { name := "etctwoLays", fn := fun _ => fun
  | [d1, d2] => { results := [.lit (.bool false)], args := [d1, d2] }
  | _ => none }
def EtctwoLaysWrongFalsely : Prop := etctwoLaysRow.holds Tryd.pinned (OpenSpec.ofChange etctwoLaysWrong)

/-- 'swatchlaw11.EtctwoPlanar': WHATEVER THE INPUT: true; the input reads as it did. -/
def etctwoPlanarSpec : ChangeSpec := { name := "etctwoPlanar", fn := fun _ => fun
  | [d] => { results := [.lit (.bool true)], args := [d] }
  | _ => none }
def etctwoPlanarRow : OpenClaim := { program := "ytgcijioiicmjiaadoor", sum := "c3e59c0effeee74d1275b0a6b00ee3568797ae6265f00342af8593647a9a1de3", func := "swatch/swatchlaw11.EtctwoPlanar", spec := "etctwoPlanar", unfollowed := true, recurses := true, named := ["swatch/etctwo.colourPlanar", "swatch/etctwo.diff", "swatch/etctwo.blueFirst", "swatch/etctwo.blueSecond", "swatch/etctwo.blueAbove", "swatch/etctwo.blueBelow", "swatch/etctwo.keepers", "swatch/etctwo.kindsByChannel", "swatch/etctwo.colourT", "swatch/etctwo.distanceT", "swatch/etctwo.distances", "swatch/etctwo.distanceH", "swatch/etctwo.colourH", "swatch/etcone.numbers"], apart := false, laid := [("swatch/etcone.numbers", laid_swatch_etcone_numbers), ("swatch/etctwo.colourT", laid_swatch_etctwo_colourT), ("swatch/etctwo.colourH", laid_swatch_etctwo_colourH), ("swatch/etctwo.colourPlanar", laid_swatch_etctwo_colourPlanar), ("swatch/etctwo.distanceT", laid_swatch_etctwo_distanceT), ("swatch/etctwo.distanceH", laid_swatch_etctwo_distanceH), ("swatch/etctwo.keepers", laid_swatch_etctwo_keepers), ("swatch/etctwo.blueAbove", laid_swatch_etctwo_blueAbove), ("swatch/etctwo.blueBelow", laid_swatch_etctwo_blueBelow), ("swatch/etctwo.diff", laid_swatch_etctwo_diff), ("swatch/etctwo.blueFirst", laid_swatch_etctwo_blueFirst), ("swatch/etctwo.blueSecond", laid_swatch_etctwo_blueSecond), ("swatch/etctwo.distances", laid_swatch_etctwo_distances), ("swatch/etctwo.kindsByChannel", laid_swatch_etctwo_kindsByChannel)] }
def EtctwoPlanarSaid : Prop := etctwoPlanarRow.holds Tryd.pinned (OpenSpec.ofChange etctwoPlanarSpec)

/-- ITS FALSE NEIGHBOUR: 'it returns false'. Refute it at one input. -/
def etctwoPlanarWrong : ChangeSpec := { name := "etctwoPlanar", fn := fun _ => fun
  | [d] => { results := [.lit (.bool false)], args := [d] }
  | _ => none }
def EtctwoPlanarWrongFalsely : Prop := etctwoPlanarRow.holds Tryd.pinned (OpenSpec.ofChange etctwoPlanarWrong)

/-- 'swatchlaw11.EtctwoOlder': WHATEVER THE INPUT: true; the input reads as it did. -/
def etctwoOlderSpec : ChangeSpec := { name := "etctwoOlder", fn := fun _ => fun
  | [d] => { results := [.lit (.bool true)], args := [d] }
  | _ => none }
def etctwoOlderRow : OpenClaim := { program := "ytgcijioiicmjiaadoor", sum := "c3e59c0effeee74d1275b0a6b00ee3568797ae6265f00342af8593647a9a1de3", func := "swatch/swatchlaw11.EtctwoOlder", spec := "etctwoOlder", unfollowed := true, recurses := true, named := ["swatch/etctwo.colourPlanar", "swatch/etctwo.diff", "swatch/etctwo.blueFirst", "swatch/etctwo.blueSecond", "swatch/etctwo.blueAbove", "swatch/etctwo.blueBelow", "swatch/etctwo.keepers", "swatch/etctwo.kindsByChannel", "swatch/etctwo.colourT", "swatch/etctwo.distanceT", "swatch/etctwo.distances", "swatch/etctwo.distanceH", "swatch/etctwo.colourH", "swatch/etcone.numbers"], apart := false, laid := [("swatch/etcone.numbers", laid_swatch_etcone_numbers), ("swatch/etctwo.colourT", laid_swatch_etctwo_colourT), ("swatch/etctwo.colourH", laid_swatch_etctwo_colourH), ("swatch/etctwo.colourPlanar", laid_swatch_etctwo_colourPlanar), ("swatch/etctwo.distanceT", laid_swatch_etctwo_distanceT), ("swatch/etctwo.distanceH", laid_swatch_etctwo_distanceH), ("swatch/etctwo.keepers", laid_swatch_etctwo_keepers), ("swatch/etctwo.blueAbove", laid_swatch_etctwo_blueAbove), ("swatch/etctwo.blueBelow", laid_swatch_etctwo_blueBelow), ("swatch/etctwo.diff", laid_swatch_etctwo_diff), ("swatch/etctwo.blueFirst", laid_swatch_etctwo_blueFirst), ("swatch/etctwo.blueSecond", laid_swatch_etctwo_blueSecond), ("swatch/etctwo.distances", laid_swatch_etctwo_distances), ("swatch/etctwo.kindsByChannel", laid_swatch_etctwo_kindsByChannel)] }
def EtctwoOlderSaid : Prop := etctwoOlderRow.holds Tryd.pinned (OpenSpec.ofChange etctwoOlderSpec)

/-- ITS FALSE NEIGHBOUR: 'it returns false'. Refute it at one input. -/
def etctwoOlderWrong : ChangeSpec := { name := "etctwoOlder", fn := fun _ => fun
  | [d] => { results := [.lit (.bool false)], args := [d] }
  | _ => none }
def EtctwoOlderWrongFalsely : Prop := etctwoOlderRow.holds Tryd.pinned (OpenSpec.ofChange etctwoOlderWrong)

/- THE SECOND FORM. 'bulk': how many values and letters a reading holds, each counted each time it is reached (what is shared counts as often as it is met; a slice's spare places count too). A statement '..UptoSaid' is the law's where the arguments, and the package variables that the reading takes, are together of bulk at most 1048576: NARROWER than '..Said'. Prove '..Said' where nothing that the law and all that it calls make is longer than what came in: it says more and counts as full. Else prove '..UptoSaid'. A law counts once. -/
mutual
def uptoBulk {H : Type} : DataW H → Nat
  | .lit (.string bytes) => bytes.length + 1
  | .lit _ => 1
  | .nil => 1
  | .ptr d => uptoBulk d + 1
  | .slice elems spare => uptoBulkAll elems + uptoBulkAll spare + 1
  | .agg parts => uptoBulkAll parts + 1
  | .iface _ d => uptoBulk d + 1
  | .map entries => uptoBulkEntries entries + 1
  | .held _ => 1
def uptoBulkAll {H : Type} : List (DataW H) → Nat
  | [] => 0
  | d :: r => uptoBulk d + uptoBulkAll r
def uptoBulkEntries {H : Type} : List (Lit × DataW H) → Nat
  | [] => 0
  | x :: r => uptoBulkEntry x + uptoBulkEntries r
def uptoBulkEntry {H : Type} : Lit × DataW H → Nat
  | (.string bytes, d) => bytes.length + uptoBulk d + 1
  | (_, d) => uptoBulk d + 1
 end
def uptoSmall : (H : Type) → List (DataW H) → Bool := fun _ ds => decide (uptoBulkAll ds ≤ 1048576)
def OpenSpec.upto (s : _root_.Go.ChangeSpec) : _root_.Go.OpenSpec := { _root_.Go.OpenSpec.ofChange s with cond := some uptoSmall }

/-- 'swatchlaw11.EtctwoDecodes', WHERE WHAT IT READS IS OF BULK AT MOST 1048576: true; the input reads as it did. -/
def etctwoDecodesUptoRow : OpenClaim := { program := "ytgcijioiicmjiaadoor", sum := "c3e59c0effeee74d1275b0a6b00ee3568797ae6265f00342af8593647a9a1de3", func := "swatch/swatchlaw11.EtctwoDecodes", spec := "etctwoDecodes", unfollowed := true, recurses := true, named := ["swatch/etctwo.colourPlanar", "swatch/etctwo.diff", "swatch/etctwo.blueFirst", "swatch/etctwo.blueSecond", "swatch/etctwo.blueAbove", "swatch/etctwo.blueBelow", "swatch/etctwo.keepers", "swatch/etctwo.kindsByChannel", "swatch/etctwo.colourT", "swatch/etctwo.distanceT", "swatch/etctwo.distances", "swatch/etctwo.distanceH", "swatch/etctwo.colourH", "swatch/etcone.numbers"], apart := false, laid := [("swatch/etcone.numbers", laid_swatch_etcone_numbers), ("swatch/etctwo.colourT", laid_swatch_etctwo_colourT), ("swatch/etctwo.colourH", laid_swatch_etctwo_colourH), ("swatch/etctwo.colourPlanar", laid_swatch_etctwo_colourPlanar), ("swatch/etctwo.distanceT", laid_swatch_etctwo_distanceT), ("swatch/etctwo.distanceH", laid_swatch_etctwo_distanceH), ("swatch/etctwo.keepers", laid_swatch_etctwo_keepers), ("swatch/etctwo.blueAbove", laid_swatch_etctwo_blueAbove), ("swatch/etctwo.blueBelow", laid_swatch_etctwo_blueBelow), ("swatch/etctwo.diff", laid_swatch_etctwo_diff), ("swatch/etctwo.blueFirst", laid_swatch_etctwo_blueFirst), ("swatch/etctwo.blueSecond", laid_swatch_etctwo_blueSecond), ("swatch/etctwo.distances", laid_swatch_etctwo_distances), ("swatch/etctwo.kindsByChannel", laid_swatch_etctwo_kindsByChannel)], narrowed := true }
def EtctwoDecodesUptoSaid : Prop := etctwoDecodesUptoRow.holds Tryd.pinned (OpenSpec.upto etctwoDecodesSpec)

/-- 'swatchlaw11.EtctwoLays', WHERE WHAT IT READS IS OF BULK AT MOST 1048576: true; the input reads as it did. -/
def etctwoLaysUptoRow : OpenClaim := { program := "ytgcijioiicmjiaadoor", sum := "c3e59c0effeee74d1275b0a6b00ee3568797ae6265f00342af8593647a9a1de3", func := "swatch/swatchlaw11.EtctwoLays", spec := "etctwoLays", unfollowed := true, recurses := true, named := ["swatch/etctwo.colourPlanar", "swatch/etctwo.diff", "swatch/etctwo.blueFirst", "swatch/etctwo.blueSecond", "swatch/etctwo.blueAbove", "swatch/etctwo.blueBelow", "swatch/etctwo.keepers", "swatch/etctwo.kindsByChannel", "swatch/etctwo.colourT", "swatch/etctwo.distanceT", "swatch/etctwo.distances", "swatch/etctwo.distanceH", "swatch/etctwo.colourH", "swatch/etcone.numbers"], apart := false, laid := [("swatch/etcone.numbers", laid_swatch_etcone_numbers), ("swatch/etctwo.colourT", laid_swatch_etctwo_colourT), ("swatch/etctwo.colourH", laid_swatch_etctwo_colourH), ("swatch/etctwo.colourPlanar", laid_swatch_etctwo_colourPlanar), ("swatch/etctwo.distanceT", laid_swatch_etctwo_distanceT), ("swatch/etctwo.distanceH", laid_swatch_etctwo_distanceH), ("swatch/etctwo.keepers", laid_swatch_etctwo_keepers), ("swatch/etctwo.blueAbove", laid_swatch_etctwo_blueAbove), ("swatch/etctwo.blueBelow", laid_swatch_etctwo_blueBelow), ("swatch/etctwo.diff", laid_swatch_etctwo_diff), ("swatch/etctwo.blueFirst", laid_swatch_etctwo_blueFirst), ("swatch/etctwo.blueSecond", laid_swatch_etctwo_blueSecond), ("swatch/etctwo.distances", laid_swatch_etctwo_distances), ("swatch/etctwo.kindsByChannel", laid_swatch_etctwo_kindsByChannel)], narrowed := true }
def EtctwoLaysUptoSaid : Prop := etctwoLaysUptoRow.holds Tryd.pinned (OpenSpec.upto etctwoLaysSpec)

/-- 'swatchlaw11.EtctwoPlanar', WHERE WHAT IT READS IS OF BULK AT MOST 1048576: true; the input reads as it did. -/
def etctwoPlanarUptoRow : OpenClaim := { program := "ytgcijioiicmjiaadoor", sum := "c3e59c0effeee74d1275b0a6b00ee3568797ae6265f00342af8593647a9a1de3", func := "swatch/swatchlaw11.EtctwoPlanar", spec := "etctwoPlanar", unfollowed := true, recurses := true, named := ["swatch/etctwo.colourPlanar", "swatch/etctwo.diff", "swatch/etctwo.blueFirst", "swatch/etctwo.blueSecond", "swatch/etctwo.blueAbove", "swatch/etctwo.blueBelow", "swatch/etctwo.keepers", "swatch/etctwo.kindsByChannel", "swatch/etctwo.colourT", "swatch/etctwo.distanceT", "swatch/etctwo.distances", "swatch/etctwo.distanceH", "swatch/etctwo.colourH", "swatch/etcone.numbers"], apart := false, laid := [("swatch/etcone.numbers", laid_swatch_etcone_numbers), ("swatch/etctwo.colourT", laid_swatch_etctwo_colourT), ("swatch/etctwo.colourH", laid_swatch_etctwo_colourH), ("swatch/etctwo.colourPlanar", laid_swatch_etctwo_colourPlanar), ("swatch/etctwo.distanceT", laid_swatch_etctwo_distanceT), ("swatch/etctwo.distanceH", laid_swatch_etctwo_distanceH), ("swatch/etctwo.keepers", laid_swatch_etctwo_keepers), ("swatch/etctwo.blueAbove", laid_swatch_etctwo_blueAbove), ("swatch/etctwo.blueBelow", laid_swatch_etctwo_blueBelow), ("swatch/etctwo.diff", laid_swatch_etctwo_diff), ("swatch/etctwo.blueFirst", laid_swatch_etctwo_blueFirst), ("swatch/etctwo.blueSecond", laid_swatch_etctwo_blueSecond), ("swatch/etctwo.distances", laid_swatch_etctwo_distances), ("swatch/etctwo.kindsByChannel", laid_swatch_etctwo_kindsByChannel)], narrowed := true }
def EtctwoPlanarUptoSaid : Prop := etctwoPlanarUptoRow.holds Tryd.pinned (OpenSpec.upto etctwoPlanarSpec)

/-- 'swatchlaw11.EtctwoOlder', WHERE WHAT IT READS IS OF BULK AT MOST 1048576: true; the input reads as it did. -/
def etctwoOlderUptoRow : OpenClaim := { program := "ytgcijioiicmjiaadoor", sum := "c3e59c0effeee74d1275b0a6b00ee3568797ae6265f00342af8593647a9a1de3", func := "swatch/swatchlaw11.EtctwoOlder", spec := "etctwoOlder", unfollowed := true, recurses := true, named := ["swatch/etctwo.colourPlanar", "swatch/etctwo.diff", "swatch/etctwo.blueFirst", "swatch/etctwo.blueSecond", "swatch/etctwo.blueAbove", "swatch/etctwo.blueBelow", "swatch/etctwo.keepers", "swatch/etctwo.kindsByChannel", "swatch/etctwo.colourT", "swatch/etctwo.distanceT", "swatch/etctwo.distances", "swatch/etctwo.distanceH", "swatch/etctwo.colourH", "swatch/etcone.numbers"], apart := false, laid := [("swatch/etcone.numbers", laid_swatch_etcone_numbers), ("swatch/etctwo.colourT", laid_swatch_etctwo_colourT), ("swatch/etctwo.colourH", laid_swatch_etctwo_colourH), ("swatch/etctwo.colourPlanar", laid_swatch_etctwo_colourPlanar), ("swatch/etctwo.distanceT", laid_swatch_etctwo_distanceT), ("swatch/etctwo.distanceH", laid_swatch_etctwo_distanceH), ("swatch/etctwo.keepers", laid_swatch_etctwo_keepers), ("swatch/etctwo.blueAbove", laid_swatch_etctwo_blueAbove), ("swatch/etctwo.blueBelow", laid_swatch_etctwo_blueBelow), ("swatch/etctwo.diff", laid_swatch_etctwo_diff), ("swatch/etctwo.blueFirst", laid_swatch_etctwo_blueFirst), ("swatch/etctwo.blueSecond", laid_swatch_etctwo_blueSecond), ("swatch/etctwo.distances", laid_swatch_etctwo_distances), ("swatch/etctwo.kindsByChannel", laid_swatch_etctwo_kindsByChannel)], narrowed := true }
def EtctwoOlderUptoSaid : Prop := etctwoOlderUptoRow.holds Tryd.pinned (OpenSpec.upto etctwoOlderSpec)

end Rows
end Go.Proofs.YtgcijioiicmjiaaDoor
