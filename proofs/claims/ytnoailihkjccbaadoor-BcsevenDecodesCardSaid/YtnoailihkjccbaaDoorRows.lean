/-
  NARROWER THAN 'FOR EVERY INPUT', by the rows' own cells (each row's printed sentence says how): BcsevenDecodes: laid · BcsevenSix: laid · BcsevenRamp: laid · BcsevenTurns: laid · BcsevenWithin: laid.
  DERIVED. THE GIVEN ROWS OF THIS SEAT. 5 by the template 'for every input the law returns true; each argument reads behind the call as it read before'; 0 by the template 'total and deterministic' (their statements: YtnoailihkjccbaaDoorTotals.lean).
  GIVEN WITH THE SEED: the statements are not yours to turn. If you find one false, say at which input.
  Laid BY PROGRAM, IN A SANDBOX (cutbox-rows.mjs): the forced cells as the released guide's own fill.sh prints them over the translation 847d9d79f690c83e… (all of the seat's roots in one cut). By AI agents, Wed Nov 11 2026. No macro, syntax, notation, axiom, sorry.
-/
import Derived.Test.YtnoailihkjccbaaDoorChecked
import GoSem.Claim
import GoSem.ClaimJoined
import GoSem.ClaimMapViews
import Derived.JoinedTies
import Derived.KernelRfl
namespace Go.Proofs.YtnoailihkjccbaaDoor
/- THE CELL 'sum', in the pinned program and in every row, IS THE sha256 OF THE DUMP (.gsa) THAT YtnoailihkjccbaaDoorProg.lean LOADS. Nothing in Lean hashes anything: it is a label: what it is worth is what the hold of that sum in a sandbox is worth. -/
noncomputable def Tryd.pinned : Pinned := { name := "ytnoailihkjccbaadoor", sum := "847d9d79f690c83e86355e382110566c26584a6db6e38689d9171839865f3838", checked := Tryd.checked }
namespace Rows
def none {H : Type} : Left H := { results := [], args := [] }

/- WHAT THE LISTED PACKAGE-LEVEL VARIABLES READ AS WHEN THE CALL BEGINS. Each datum BY PROGRAM (the guide's laid-datum.mjs) off the statement by which the dump's own 'gosem.cut.vars' lays the variable. In a bare row this is a premise. The card (YtnoailihkjccbaaDoorCards.lean) ties it to the program's text. -/
def laid_swatch_bctable_twos {H : Type} : DataW H := .agg [.lit (.int .u16 52428), .lit (.int .u16 34952), .lit (.int .u16 61166), .lit (.int .u16 60616), .lit (.int .u16 51328), .lit (.int .u16 65260), .lit (.int .u16 65224), .lit (.int .u16 60544), .lit (.int .u16 51200), .lit (.int .u16 65516), .lit (.int .u16 65152), .lit (.int .u16 59392), .lit (.int .u16 65512), .lit (.int .u16 65280), .lit (.int .u16 65520), .lit (.int .u16 61440), .lit (.int .u16 63248), .lit (.int .u16 142), .lit (.int .u16 28928), .lit (.int .u16 2254), .lit (.int .u16 140), .lit (.int .u16 29456), .lit (.int .u16 12544), .lit (.int .u16 36046), .lit (.int .u16 2188), .lit (.int .u16 12560), .lit (.int .u16 26214), .lit (.int .u16 13932), .lit (.int .u16 6120), .lit (.int .u16 4080), .lit (.int .u16 29070), .lit (.int .u16 14748), .lit (.int .u16 43690), .lit (.int .u16 61680), .lit (.int .u16 23130), .lit (.int .u16 13260), .lit (.int .u16 15420), .lit (.int .u16 21930), .lit (.int .u16 38550), .lit (.int .u16 42330), .lit (.int .u16 29646), .lit (.int .u16 5064), .lit (.int .u16 12876), .lit (.int .u16 15324), .lit (.int .u16 27030), .lit (.int .u16 49980), .lit (.int .u16 39270), .lit (.int .u16 1632), .lit (.int .u16 626), .lit (.int .u16 1252), .lit (.int .u16 20032), .lit (.int .u16 10016), .lit (.int .u16 51510), .lit (.int .u16 37740), .lit (.int .u16 14790), .lit (.int .u16 25500), .lit (.int .u16 37686), .lit (.int .u16 40134), .lit (.int .u16 33150), .lit (.int .u16 59160), .lit (.int .u16 52464), .lit (.int .u16 4044), .lit (.int .u16 30532), .lit (.int .u16 60962)]
def laid_swatch_bctable_threes {H : Type} : DataW H := .agg [.lit (.int .u32 2858963024), .lit (.int .u32 1784303680), .lit (.int .u32 1515864576), .lit (.int .u32 1414570152), .lit (.int .u32 2779054080), .lit (.int .u32 2694860880), .lit (.int .u32 1431675040), .lit (.int .u32 1515868240), .lit (.int .u32 2857697280), .lit (.int .u32 2857719040), .lit (.int .u32 2863289600), .lit (.int .u32 2425393296), .lit (.int .u32 2492765332), .lit (.int .u32 2762253476), .lit (.int .u32 2846200912), .lit (.int .u32 705315408), .lit (.int .u32 2777960512), .lit (.int .u32 172118100), .lit (.int .u32 2779096320), .lit (.int .u32 1436590240), .lit (.int .u32 2829603924), .lit (.int .u32 1785348160), .lit (.int .u32 2762231808), .lit (.int .u32 437912832), .lit (.int .u32 5285028), .lit (.int .u32 2862977168), .lit (.int .u32 342452500), .lit (.int .u32 1768494080), .lit (.int .u32 2693105056), .lit (.int .u32 2860651540), .lit (.int .u32 1352967248), .lit (.int .u32 1784283648), .lit (.int .u32 2846195712), .lit (.int .u32 1351655592), .lit (.int .u32 2829094992), .lit (.int .u32 606348324), .lit (.int .u32 11162880), .lit (.int .u32 613566756), .lit (.int .u32 608801316), .lit (.int .u32 1352993360), .lit (.int .u32 1342874960), .lit (.int .u32 2863285316), .lit (.int .u32 1717960704), .lit (.int .u32 2778768800), .lit (.int .u32 1352683680), .lit (.int .u32 1764256040), .lit (.int .u32 1152035396), .lit (.int .u32 1717986816), .lit (.int .u32 2856600644), .lit (.int .u32 1420317864), .lit (.int .u32 2508232064), .lit (.int .u32 2526451200), .lit (.int .u32 2824098984), .lit (.int .u32 2157286784), .lit (.int .u32 2853442580), .lit (.int .u32 2526412800), .lit (.int .u32 2863272980), .lit (.int .u32 2689618080), .lit (.int .u32 2695210400), .lit (.int .u32 2516582400), .lit (.int .u32 1082146944), .lit (.int .u32 2846402984), .lit (.int .u32 2863311428), .lit (.int .u32 709513812)]
def laid_swatch_bctable_anchors {H : Type} : DataW H := .agg [.agg [.agg [.lit (.int .i64 2), .lit (.int .i64 1)], .agg [.lit (.int .u8 15), .lit (.int .u8 15), .lit (.int .u8 15), .lit (.int .u8 15), .lit (.int .u8 15), .lit (.int .u8 15), .lit (.int .u8 15), .lit (.int .u8 15), .lit (.int .u8 15), .lit (.int .u8 15), .lit (.int .u8 15), .lit (.int .u8 15), .lit (.int .u8 15), .lit (.int .u8 15), .lit (.int .u8 15), .lit (.int .u8 15), .lit (.int .u8 15), .lit (.int .u8 2), .lit (.int .u8 8), .lit (.int .u8 2), .lit (.int .u8 2), .lit (.int .u8 8), .lit (.int .u8 8), .lit (.int .u8 15), .lit (.int .u8 2), .lit (.int .u8 8), .lit (.int .u8 2), .lit (.int .u8 2), .lit (.int .u8 8), .lit (.int .u8 8), .lit (.int .u8 2), .lit (.int .u8 2), .lit (.int .u8 15), .lit (.int .u8 15), .lit (.int .u8 6), .lit (.int .u8 8), .lit (.int .u8 2), .lit (.int .u8 8), .lit (.int .u8 15), .lit (.int .u8 15), .lit (.int .u8 2), .lit (.int .u8 8), .lit (.int .u8 2), .lit (.int .u8 2), .lit (.int .u8 2), .lit (.int .u8 15), .lit (.int .u8 15), .lit (.int .u8 6), .lit (.int .u8 6), .lit (.int .u8 2), .lit (.int .u8 6), .lit (.int .u8 8), .lit (.int .u8 15), .lit (.int .u8 15), .lit (.int .u8 2), .lit (.int .u8 2), .lit (.int .u8 15), .lit (.int .u8 15), .lit (.int .u8 15), .lit (.int .u8 15), .lit (.int .u8 15), .lit (.int .u8 2), .lit (.int .u8 2), .lit (.int .u8 15)]], .agg [.agg [.lit (.int .i64 3), .lit (.int .i64 1)], .agg [.lit (.int .u8 3), .lit (.int .u8 3), .lit (.int .u8 15), .lit (.int .u8 15), .lit (.int .u8 8), .lit (.int .u8 3), .lit (.int .u8 15), .lit (.int .u8 15), .lit (.int .u8 8), .lit (.int .u8 8), .lit (.int .u8 6), .lit (.int .u8 6), .lit (.int .u8 6), .lit (.int .u8 5), .lit (.int .u8 3), .lit (.int .u8 3), .lit (.int .u8 3), .lit (.int .u8 3), .lit (.int .u8 8), .lit (.int .u8 15), .lit (.int .u8 3), .lit (.int .u8 3), .lit (.int .u8 6), .lit (.int .u8 10), .lit (.int .u8 5), .lit (.int .u8 8), .lit (.int .u8 8), .lit (.int .u8 6), .lit (.int .u8 8), .lit (.int .u8 5), .lit (.int .u8 15), .lit (.int .u8 15), .lit (.int .u8 8), .lit (.int .u8 15), .lit (.int .u8 3), .lit (.int .u8 5), .lit (.int .u8 6), .lit (.int .u8 10), .lit (.int .u8 8), .lit (.int .u8 15), .lit (.int .u8 15), .lit (.int .u8 3), .lit (.int .u8 15), .lit (.int .u8 5), .lit (.int .u8 15), .lit (.int .u8 15), .lit (.int .u8 15), .lit (.int .u8 15), .lit (.int .u8 3), .lit (.int .u8 15), .lit (.int .u8 5), .lit (.int .u8 5), .lit (.int .u8 5), .lit (.int .u8 8), .lit (.int .u8 5), .lit (.int .u8 10), .lit (.int .u8 5), .lit (.int .u8 10), .lit (.int .u8 8), .lit (.int .u8 13), .lit (.int .u8 15), .lit (.int .u8 12), .lit (.int .u8 3), .lit (.int .u8 3)]], .agg [.agg [.lit (.int .i64 3), .lit (.int .i64 2)], .agg [.lit (.int .u8 15), .lit (.int .u8 8), .lit (.int .u8 8), .lit (.int .u8 3), .lit (.int .u8 15), .lit (.int .u8 15), .lit (.int .u8 3), .lit (.int .u8 8), .lit (.int .u8 15), .lit (.int .u8 15), .lit (.int .u8 15), .lit (.int .u8 15), .lit (.int .u8 15), .lit (.int .u8 15), .lit (.int .u8 15), .lit (.int .u8 8), .lit (.int .u8 15), .lit (.int .u8 8), .lit (.int .u8 15), .lit (.int .u8 3), .lit (.int .u8 15), .lit (.int .u8 8), .lit (.int .u8 15), .lit (.int .u8 8), .lit (.int .u8 3), .lit (.int .u8 15), .lit (.int .u8 6), .lit (.int .u8 10), .lit (.int .u8 15), .lit (.int .u8 15), .lit (.int .u8 10), .lit (.int .u8 8), .lit (.int .u8 15), .lit (.int .u8 3), .lit (.int .u8 15), .lit (.int .u8 10), .lit (.int .u8 10), .lit (.int .u8 8), .lit (.int .u8 9), .lit (.int .u8 10), .lit (.int .u8 6), .lit (.int .u8 15), .lit (.int .u8 8), .lit (.int .u8 15), .lit (.int .u8 3), .lit (.int .u8 6), .lit (.int .u8 6), .lit (.int .u8 8), .lit (.int .u8 15), .lit (.int .u8 3), .lit (.int .u8 15), .lit (.int .u8 15), .lit (.int .u8 15), .lit (.int .u8 15), .lit (.int .u8 15), .lit (.int .u8 15), .lit (.int .u8 15), .lit (.int .u8 15), .lit (.int .u8 15), .lit (.int .u8 15), .lit (.int .u8 3), .lit (.int .u8 15), .lit (.int .u8 15), .lit (.int .u8 8)]]]

/-- 'swatchlaw09.BcsevenDecodes': WHATEVER THE INPUT: true; the input reads as it did. -/
def bcsevenDecodesSpec : ChangeSpec := { name := "bcsevenDecodes", fn := fun _ => fun
  | [d] => { results := [.lit (.bool true)], args := [d] }
  | _ => none }
def bcsevenDecodesRow : OpenClaim := { program := "ytnoailihkjccbaadoor", sum := "847d9d79f690c83e86355e382110566c26584a6db6e38689d9171839865f3838", func := "swatch/swatchlaw09.BcsevenDecodes", spec := "bcsevenDecodes", unfollowed := true, recurses := true, named := ["swatch/bctable.twos", "swatch/bctable.threes", "swatch/bctable.anchors"], apart := false, laid := [("swatch/bctable.twos", laid_swatch_bctable_twos), ("swatch/bctable.threes", laid_swatch_bctable_threes), ("swatch/bctable.anchors", laid_swatch_bctable_anchors)] }
def BcsevenDecodesSaid : Prop := bcsevenDecodesRow.holds Tryd.pinned (OpenSpec.ofChange bcsevenDecodesSpec)

/-- ITS FALSE NEIGHBOUR: 'it returns false'. Refute it at one input. -/
def bcsevenDecodesWrong : ChangeSpec := { name := "bcsevenDecodes", fn := fun _ => fun
  | [d] => { results := [.lit (.bool false)], args := [d] }
  | _ => none }
def BcsevenDecodesWrongFalsely : Prop := bcsevenDecodesRow.holds Tryd.pinned (OpenSpec.ofChange bcsevenDecodesWrong)

/-- 'swatchlaw09.BcsevenSix': WHATEVER THE INPUT: true; the input reads as it did. -/
def bcsevenSixSpec : ChangeSpec := { name := "bcsevenSix", fn := fun _ => fun
  | [d1, d2, d3] => { results := [.lit (.bool true)], args := [d1, d2, d3] }
  | _ => none }
def bcsevenSixRow : OpenClaim := { program := "ytnoailihkjccbaadoor", sum := "847d9d79f690c83e86355e382110566c26584a6db6e38689d9171839865f3838", func := "swatch/swatchlaw09.BcsevenSix", spec := "bcsevenSix", unfollowed := true, recurses := true, named := ["swatch/bctable.twos", "swatch/bctable.threes", "swatch/bctable.anchors"], apart := false, laid := [("swatch/bctable.twos", laid_swatch_bctable_twos), ("swatch/bctable.threes", laid_swatch_bctable_threes), ("swatch/bctable.anchors", laid_swatch_bctable_anchors)] }
def BcsevenSixSaid : Prop := bcsevenSixRow.holds Tryd.pinned (OpenSpec.ofChange bcsevenSixSpec)

/-- ITS FALSE NEIGHBOUR: 'it returns false'. Refute it at one input. -/
def bcsevenSixWrong : ChangeSpec := { name := "bcsevenSix", fn := fun _ => fun
  | [d1, d2, d3] => { results := [.lit (.bool false)], args := [d1, d2, d3] }
  | _ => none }
def BcsevenSixWrongFalsely : Prop := bcsevenSixRow.holds Tryd.pinned (OpenSpec.ofChange bcsevenSixWrong)

/-- 'swatchlaw09.BcsevenRamp': WHATEVER THE INPUT: true; the input reads as it did. -/
def bcsevenRampSpec : ChangeSpec := { name := "bcsevenRamp", fn := fun _ => fun
  | [d1, d2, d3] => { results := [.lit (.bool true)], args := [d1, d2, d3] }
  | _ => none }
def bcsevenRampRow : OpenClaim := { program := "ytnoailihkjccbaadoor", sum := "847d9d79f690c83e86355e382110566c26584a6db6e38689d9171839865f3838", func := "swatch/swatchlaw09.BcsevenRamp", spec := "bcsevenRamp", unfollowed := true, recurses := true, named := ["swatch/bctable.twos", "swatch/bctable.threes", "swatch/bctable.anchors"], apart := false, laid := [("swatch/bctable.twos", laid_swatch_bctable_twos), ("swatch/bctable.threes", laid_swatch_bctable_threes), ("swatch/bctable.anchors", laid_swatch_bctable_anchors)] }
def BcsevenRampSaid : Prop := bcsevenRampRow.holds Tryd.pinned (OpenSpec.ofChange bcsevenRampSpec)

/-- ITS FALSE NEIGHBOUR: 'it returns false'. Refute it at one input. -/
def bcsevenRampWrong : ChangeSpec := { name := "bcsevenRamp", fn := fun _ => fun
  | [d1, d2, d3] => { results := [.lit (.bool false)], args := [d1, d2, d3] }
  | _ => none }
def BcsevenRampWrongFalsely : Prop := bcsevenRampRow.holds Tryd.pinned (OpenSpec.ofChange bcsevenRampWrong)

/-- 'swatchlaw09.BcsevenTurns': WHATEVER THE INPUT: true; the input reads as it did. -/
def bcsevenTurnsSpec : ChangeSpec := { name := "bcsevenTurns", fn := fun _ => fun
  | [d1, d2] => { results := [.lit (.bool true)], args := [d1, d2] }
  | _ => none }
def bcsevenTurnsRow : OpenClaim := { program := "ytnoailihkjccbaadoor", sum := "847d9d79f690c83e86355e382110566c26584a6db6e38689d9171839865f3838", func := "swatch/swatchlaw09.BcsevenTurns", spec := "bcsevenTurns", unfollowed := true, recurses := true, named := ["swatch/bctable.twos", "swatch/bctable.threes", "swatch/bctable.anchors"], apart := false, laid := [("swatch/bctable.twos", laid_swatch_bctable_twos), ("swatch/bctable.threes", laid_swatch_bctable_threes), ("swatch/bctable.anchors", laid_swatch_bctable_anchors)] }
def BcsevenTurnsSaid : Prop := bcsevenTurnsRow.holds Tryd.pinned (OpenSpec.ofChange bcsevenTurnsSpec)

/-- ITS FALSE NEIGHBOUR: 'it returns false'. Refute it at one input. -/
def bcsevenTurnsWrong : ChangeSpec := { name := "bcsevenTurns", fn := fun _ => fun
  | [d1, d2] => { results := [.lit (.bool false)], args := [d1, d2] }
  | _ => none }
def BcsevenTurnsWrongFalsely : Prop := bcsevenTurnsRow.holds Tryd.pinned (OpenSpec.ofChange bcsevenTurnsWrong)

/-- 'swatchlaw09.BcsevenWithin': WHATEVER THE INPUT: true; the input reads as it did. -/
def bcsevenWithinSpec : ChangeSpec := { name := "bcsevenWithin", fn := fun _ => fun
  | [d] => { results := [.lit (.bool true)], args := [d] }
  | _ => none }
def bcsevenWithinRow : OpenClaim := { program := "ytnoailihkjccbaadoor", sum := "847d9d79f690c83e86355e382110566c26584a6db6e38689d9171839865f3838", func := "swatch/swatchlaw09.BcsevenWithin", spec := "bcsevenWithin", unfollowed := true, recurses := true, named := ["swatch/bctable.twos", "swatch/bctable.threes", "swatch/bctable.anchors"], apart := false, laid := [("swatch/bctable.twos", laid_swatch_bctable_twos), ("swatch/bctable.threes", laid_swatch_bctable_threes), ("swatch/bctable.anchors", laid_swatch_bctable_anchors)] }
def BcsevenWithinSaid : Prop := bcsevenWithinRow.holds Tryd.pinned (OpenSpec.ofChange bcsevenWithinSpec)

/-- ITS FALSE NEIGHBOUR: 'it returns false'. Refute it at one input. -/
def bcsevenWithinWrong : ChangeSpec := { name := "bcsevenWithin", fn := fun _ => fun
  | [d] => { results := [.lit (.bool false)], args := [d] }
  | _ => none }
def BcsevenWithinWrongFalsely : Prop := bcsevenWithinRow.holds Tryd.pinned (OpenSpec.ofChange bcsevenWithinWrong)

/- THE SECOND FORM. 'bulk': how many values and letters a reading holds, each counted each time it is reached (what is shared counts as often as it is met; a slice's spare places count too). A statement '..UptoSaid' is the law's where the arguments, and the package variables that the reading takes, are together of bulk at most 1048576: NARROWER than '..Said'. Prove '..Said' where nothing that the law and all that it calls make is longer than what came in: it says more and counts as full. Else prove '..UptoSaid'. A law counts once. -/
mutual
def uptoBulk {H : Type} : DataW H → Nat
  | .lit (.string bytes) => bytes.length + 1
  | .lit _ => 1
  | .nil => 1
  | .ptr d => uptoBulk d + 1
  | .slice elems spare => uptoBulkAll elems + uptoBulkAll spare + 1
  | .agg parts => uptoBulkAll parts + 1
  | .iface _ d => uptoBulk d + 1
  | .map entries => uptoBulkEntries entries + 1
  | .held _ => 1
def uptoBulkAll {H : Type} : List (DataW H) → Nat
  | [] => 0
  | d :: r => uptoBulk d + uptoBulkAll r
def uptoBulkEntries {H : Type} : List (Lit × DataW H) → Nat
  | [] => 0
  | x :: r => uptoBulkEntry x + uptoBulkEntries r
def uptoBulkEntry {H : Type} : Lit × DataW H → Nat
  | (.string bytes, d) => bytes.length + uptoBulk d + 1
  | (_, d) => uptoBulk d + 1
 end
def uptoSmall : (H : Type) → List (DataW H) → Bool := fun _ ds => decide (uptoBulkAll ds ≤ 1048576)
def OpenSpec.upto (s : _root_.Go.ChangeSpec) : _root_.Go.OpenSpec := { _root_.Go.OpenSpec.ofChange s with cond := some uptoSmall }

/-- 'swatchlaw09.BcsevenDecodes', WHERE WHAT IT READS IS OF BULK AT MOST 1048576: true; the input reads as it did. -/
def bcsevenDecodesUptoRow : OpenClaim := { program := "ytnoailihkjccbaadoor", sum := "847d9d79f690c83e86355e382110566c26584a6db6e38689d9171839865f3838", func := "swatch/swatchlaw09.BcsevenDecodes", spec := "bcsevenDecodes", unfollowed := true, recurses := true, named := ["swatch/bctable.twos", "swatch/bctable.threes", "swatch/bctable.anchors"], apart := false, laid := [("swatch/bctable.twos", laid_swatch_bctable_twos), ("swatch/bctable.threes", laid_swatch_bctable_threes), ("swatch/bctable.anchors", laid_swatch_bctable_anchors)], narrowed := true }
def BcsevenDecodesUptoSaid : Prop := bcsevenDecodesUptoRow.holds Tryd.pinned (OpenSpec.upto bcsevenDecodesSpec)

/-- 'swatchlaw09.BcsevenSix', WHERE WHAT IT READS IS OF BULK AT MOST 1048576: true; the input reads as it did. -/
def bcsevenSixUptoRow : OpenClaim := { program := "ytnoailihkjccbaadoor", sum := "847d9d79f690c83e86355e382110566c26584a6db6e38689d9171839865f3838", func := "swatch/swatchlaw09.BcsevenSix", spec := "bcsevenSix", unfollowed := true, recurses := true, named := ["swatch/bctable.twos", "swatch/bctable.threes", "swatch/bctable.anchors"], apart := false, laid := [("swatch/bctable.twos", laid_swatch_bctable_twos), ("swatch/bctable.threes", laid_swatch_bctable_threes), ("swatch/bctable.anchors", laid_swatch_bctable_anchors)], narrowed := true }
def BcsevenSixUptoSaid : Prop := bcsevenSixUptoRow.holds Tryd.pinned (OpenSpec.upto bcsevenSixSpec)

/-- 'swatchlaw09.BcsevenRamp', WHERE WHAT IT READS IS OF BULK AT MOST 1048576: true; the input reads as it did. -/
def bcsevenRampUptoRow : OpenClaim := { program := "ytnoailihkjccbaadoor", sum := "847d9d79f690c83e86355e382110566c26584a6db6e38689d9171839865f3838", func := "swatch/swatchlaw09.BcsevenRamp", spec := "bcsevenRamp", unfollowed := true, recurses := true, named := ["swatch/bctable.twos", "swatch/bctable.threes", "swatch/bctable.anchors"], apart := false, laid := [("swatch/bctable.twos", laid_swatch_bctable_twos), ("swatch/bctable.threes", laid_swatch_bctable_threes), ("swatch/bctable.anchors", laid_swatch_bctable_anchors)], narrowed := true }
def BcsevenRampUptoSaid : Prop := bcsevenRampUptoRow.holds Tryd.pinned (OpenSpec.upto bcsevenRampSpec)

/-- 'swatchlaw09.BcsevenTurns', WHERE WHAT IT READS IS OF BULK AT MOST 1048576: true; the input reads as it did. -/
def bcsevenTurnsUptoRow : OpenClaim := { program := "ytnoailihkjccbaadoor", sum := "847d9d79f690c83e86355e382110566c26584a6db6e38689d9171839865f3838", func := "swatch/swatchlaw09.BcsevenTurns", spec := "bcsevenTurns", unfollowed := true, recurses := true, named := ["swatch/bctable.twos", "swatch/bctable.threes", "swatch/bctable.anchors"], apart := false, laid := [("swatch/bctable.twos", laid_swatch_bctable_twos), ("swatch/bctable.threes", laid_swatch_bctable_threes), ("swatch/bctable.anchors", laid_swatch_bctable_anchors)], narrowed := true }
def BcsevenTurnsUptoSaid : Prop := bcsevenTurnsUptoRow.holds Tryd.pinned (OpenSpec.upto bcsevenTurnsSpec)

/-- 'swatchlaw09.BcsevenWithin', WHERE WHAT IT READS IS OF BULK AT MOST 1048576: true; the input reads as it did. -/
def bcsevenWithinUptoRow : OpenClaim := { program := "ytnoailihkjccbaadoor", sum := "847d9d79f690c83e86355e382110566c26584a6db6e38689d9171839865f3838", func := "swatch/swatchlaw09.BcsevenWithin", spec := "bcsevenWithin", unfollowed := true, recurses := true, named := ["swatch/bctable.twos", "swatch/bctable.threes", "swatch/bctable.anchors"], apart := false, laid := [("swatch/bctable.twos", laid_swatch_bctable_twos), ("swatch/bctable.threes", laid_swatch_bctable_threes), ("swatch/bctable.anchors", laid_swatch_bctable_anchors)], narrowed := true }
def BcsevenWithinUptoSaid : Prop := bcsevenWithinUptoRow.holds Tryd.pinned (OpenSpec.upto bcsevenWithinSpec)

end Rows
end Go.Proofs.YtnoailihkjccbaaDoor
