/-
  No cell of these rows narrows 'for every input' (looked for: loops, veiled, ifaces, maps, wideKeys, modest, calm, conditions, laid).
  DERIVED. THE GIVEN ROWS OF THIS SEAT. 5 by the template 'for every input the law returns true; each argument reads behind the call as it read before'; 0 by the template 'total and deterministic' (their statements: YteefmgchkhbdpaaTotals.lean).
  GIVEN WITH THE SEED: the statements are not yours to turn. If you find one false, say at which input.
  Laid BY PROGRAM, IN A SANDBOX (cutbox-rows.mjs): the forced cells as the released guide's own fill.sh prints them over the translation a6669c66eb7d6245… (all of the seat's roots in one cut). By AI agents, Wed Nov 11 2026. No macro, syntax, notation, axiom, sorry.
-/
import Derived.Test.YteefmgchkhbdpaaChecked
import GoSem.Claim
import GoSem.ClaimJoined
import GoSem.ClaimMapViews
import Derived.JoinedTies
import Derived.KernelRfl
namespace Go.Proofs.Yteefmgchkhbdpaa
/- THE CELL 'sum', in the pinned program and in every row, IS THE sha256 OF THE DUMP (.gsa) THAT YteefmgchkhbdpaaProg.lean LOADS. Nothing in Lean hashes anything: it is a label: what it is worth is what the hold of that sum in a sandbox is worth. -/
noncomputable def Try.pinned : Pinned := { name := "yteefmgchkhbdpaa", sum := "a6669c66eb7d6245630633379c7e55e24e34a590382360accc9c040416625860", checked := Try.checked }
namespace Rows
def none {H : Type} : Left H := { results := [], args := [] }

/-- 'swatchlaw05.MipTurns': WHATEVER THE INPUT: true; the input reads as it did. -/
def mipTurnsSpec : ChangeSpec := { name := "mipTurns", fn := fun _ => fun
  | [d1, d2] => { results := [.lit (.bool true)], args := [d1, d2] }
  | _ => none }
def mipTurnsRow : OpenClaim := { program := "yteefmgchkhbdpaa", sum := "a6669c66eb7d6245630633379c7e55e24e34a590382360accc9c040416625860", func := "swatch/swatchlaw05.MipTurns", spec := "mipTurns", unfollowed := true, recurses := true, apart := false }
def MipTurnsSaid : Prop := mipTurnsRow.holds Try.pinned (OpenSpec.ofChange mipTurnsSpec)

/-- ITS FALSE NEIGHBOUR: 'it returns false'. Refute it at one input. -/
def mipTurnsWrong : ChangeSpec := { name := "mipTurns", fn := fun _ => fun
  | [d1, d2] => { results := [.lit (.bool false)], args := [d1, d2] }
  | _ => none }
def MipTurnsWrongFalsely : Prop := mipTurnsRow.holds Try.pinned (OpenSpec.ofChange mipTurnsWrong)

/-- 'swatchlaw06.BconeColours': WHATEVER THE INPUT: true; the input reads as it did. -/
def bconeColoursSpec : ChangeSpec := { name := "bconeColours", fn := fun _ => fun
  | [d1, d2, d3] => { results := [.lit (.bool true)], args := [d1, d2, d3] }
  | _ => none }
def bconeColoursRow : OpenClaim := { program := "yteefmgchkhbdpaa", sum := "a6669c66eb7d6245630633379c7e55e24e34a590382360accc9c040416625860", func := "swatch/swatchlaw06.BconeColours", spec := "bconeColours", unfollowed := true, recurses := true, apart := false }
def BconeColoursSaid : Prop := bconeColoursRow.holds Try.pinned (OpenSpec.ofChange bconeColoursSpec)

/-- ITS FALSE NEIGHBOUR: 'it returns false'. Refute it at one input. -/
def bconeColoursWrong : ChangeSpec := { name := "bconeColours", fn := fun _ => fun
  | [d1, d2, d3] => { results := [.lit (.bool false)], args := [d1, d2, d3] }
  | _ => none }
def BconeColoursWrongFalsely : Prop := bconeColoursRow.holds Try.pinned (OpenSpec.ofChange bconeColoursWrong)

/-- 'swatchlaw06.BconeBlocks': WHATEVER THE INPUT: true; the input reads as it did. -/
def bconeBlocksSpec : ChangeSpec := { name := "bconeBlocks", fn := fun _ => fun
  | [d1, d2, d3] => { results := [.lit (.bool true)], args := [d1, d2, d3] }
  | _ => none }
def bconeBlocksRow : OpenClaim := { program := "yteefmgchkhbdpaa", sum := "a6669c66eb7d6245630633379c7e55e24e34a590382360accc9c040416625860", func := "swatch/swatchlaw06.BconeBlocks", spec := "bconeBlocks", unfollowed := true, recurses := true, apart := false }
def BconeBlocksSaid : Prop := bconeBlocksRow.holds Try.pinned (OpenSpec.ofChange bconeBlocksSpec)

/-- ITS FALSE NEIGHBOUR: 'it returns false'. Refute it at one input. -/
def bconeBlocksWrong : ChangeSpec := { name := "bconeBlocks", fn := fun _ => fun
  | [d1, d2, d3] => { results := [.lit (.bool false)], args := [d1, d2, d3] }
  | _ => none }
def BconeBlocksWrongFalsely : Prop := bconeBlocksRow.holds Try.pinned (OpenSpec.ofChange bconeBlocksWrong)

/-- 'swatchlaw06.BconeBack': WHATEVER THE INPUT: true; the input reads as it did. -/
def bconeBackSpec : ChangeSpec := { name := "bconeBack", fn := fun _ => fun
  | [d] => { results := [.lit (.bool true)], args := [d] }
  | _ => none }
def bconeBackRow : OpenClaim := { program := "yteefmgchkhbdpaa", sum := "a6669c66eb7d6245630633379c7e55e24e34a590382360accc9c040416625860", func := "swatch/swatchlaw06.BconeBack", spec := "bconeBack", unfollowed := true, recurses := true, apart := false }
def BconeBackSaid : Prop := bconeBackRow.holds Try.pinned (OpenSpec.ofChange bconeBackSpec)

/-- ITS FALSE NEIGHBOUR: 'it returns false'. Refute it at one input. -/
def bconeBackWrong : ChangeSpec := { name := "bconeBack", fn := fun _ => fun
  | [d] => { results := [.lit (.bool false)], args := [d] }
  | _ => none }
def BconeBackWrongFalsely : Prop := bconeBackRow.holds Try.pinned (OpenSpec.ofChange bconeBackWrong)

/-- 'swatchlaw06.BconeBetween': WHATEVER THE INPUT: true; the input reads as it did. -/
def bconeBetweenSpec : ChangeSpec := { name := "bconeBetween", fn := fun _ => fun
  | [d1, d2] => { results := [.lit (.bool true)], args := [d1, d2] }
  | _ => none }
def bconeBetweenRow : OpenClaim := { program := "yteefmgchkhbdpaa", sum := "a6669c66eb7d6245630633379c7e55e24e34a590382360accc9c040416625860", func := "swatch/swatchlaw06.BconeBetween", spec := "bconeBetween", unfollowed := true, recurses := true, apart := false }
def BconeBetweenSaid : Prop := bconeBetweenRow.holds Try.pinned (OpenSpec.ofChange bconeBetweenSpec)

/-- ITS FALSE NEIGHBOUR: 'it returns false'. Refute it at one input. -/
def bconeBetweenWrong : ChangeSpec := { name := "bconeBetween", fn := fun _ => fun
  | [d1, d2] => { results := [.lit (.bool false)], args := [d1, d2] }
  | _ => none }
def BconeBetweenWrongFalsely : Prop := bconeBetweenRow.holds Try.pinned (OpenSpec.ofChange bconeBetweenWrong)

/- THE SECOND FORM. 'bulk': how many values and letters a reading holds, each counted each time it is reached (what is shared counts as often as it is met; a slice's spare places count too). A statement '..UptoSaid' is the law's where the arguments, and the package variables that the reading takes, are together of bulk at most 1048576: NARROWER than '..Said'. Prove '..Said' where nothing that the law and all that it calls make is longer than what came in: it says more and counts as full. Else prove '..UptoSaid'. A law counts once. -/
mutual
def uptoBulk {H : Type} : DataW H → Nat
  | .lit (.string bytes) => bytes.length + 1
  | .lit _ => 1
  | .nil => 1
  | .ptr d => uptoBulk d + 1
  | .slice elems spare => uptoBulkAll elems + uptoBulkAll spare + 1
  | .agg parts => uptoBulkAll parts + 1
  | .iface _ d => uptoBulk d + 1
  | .map entries => uptoBulkEntries entries + 1
  | .held _ => 1
def uptoBulkAll {H : Type} : List (DataW H) → Nat
  | [] => 0
  | d :: r => uptoBulk d + uptoBulkAll r
def uptoBulkEntries {H : Type} : List (Lit × DataW H) → Nat
  | [] => 0
  | x :: r => uptoBulkEntry x + uptoBulkEntries r
def uptoBulkEntry {H : Type} : Lit × DataW H → Nat
  | (.string bytes, d) => bytes.length + uptoBulk d + 1
  | (_, d) => uptoBulk d + 1
 end
def uptoSmall : (H : Type) → List (DataW H) → Bool := fun _ ds => decide (uptoBulkAll ds ≤ 1048576)
def OpenSpec.upto (s : _root_.Go.ChangeSpec) : _root_.Go.OpenSpec := { _root_.Go.OpenSpec.ofChange s with cond := some uptoSmall }

/-- 'swatchlaw05.MipTurns', WHERE WHAT IT READS IS OF BULK AT MOST 1048576: true; the input reads as it did. -/
def mipTurnsUptoRow : OpenClaim := { program := "yteefmgchkhbdpaa", sum := "a6669c66eb7d6245630633379c7e55e24e34a590382360accc9c040416625860", func := "swatch/swatchlaw05.MipTurns", spec := "mipTurns", unfollowed := true, recurses := true, apart := false, narrowed := true }
def MipTurnsUptoSaid : Prop := mipTurnsUptoRow.holds Try.pinned (OpenSpec.upto mipTurnsSpec)

/-- 'swatchlaw06.BconeColours', WHERE WHAT IT READS IS OF BULK AT MOST 1048576: true; the input reads as it did. -/
def bconeColoursUptoRow : OpenClaim := { program := "yteefmgchkhbdpaa", sum := "a6669c66eb7d6245630633379c7e55e24e34a590382360accc9c040416625860", func := "swatch/swatchlaw06.BconeColours", spec := "bconeColours", unfollowed := true, recurses := true, apart := false, narrowed := true }
def BconeColoursUptoSaid : Prop := bconeColoursUptoRow.holds Try.pinned (OpenSpec.upto bconeColoursSpec)

/-- 'swatchlaw06.BconeBlocks', WHERE WHAT IT READS IS OF BULK AT MOST 1048576: true; the input reads as it did. -/
def bconeBlocksUptoRow : OpenClaim := { program := "yteefmgchkhbdpaa", sum := "a6669c66eb7d6245630633379c7e55e24e34a590382360accc9c040416625860", func := "swatch/swatchlaw06.BconeBlocks", spec := "bconeBlocks", unfollowed := true, recurses := true, apart := false, narrowed := true }
def BconeBlocksUptoSaid : Prop := bconeBlocksUptoRow.holds Try.pinned (OpenSpec.upto bconeBlocksSpec)

/-- 'swatchlaw06.BconeBack', WHERE WHAT IT READS IS OF BULK AT MOST 1048576: true; the input reads as it did. -/
def bconeBackUptoRow : OpenClaim := { program := "yteefmgchkhbdpaa", sum := "a6669c66eb7d6245630633379c7e55e24e34a590382360accc9c040416625860", func := "swatch/swatchlaw06.BconeBack", spec := "bconeBack", unfollowed := true, recurses := true, apart := false, narrowed := true }
def BconeBackUptoSaid : Prop := bconeBackUptoRow.holds Try.pinned (OpenSpec.upto bconeBackSpec)

/-- 'swatchlaw06.BconeBetween', WHERE WHAT IT READS IS OF BULK AT MOST 1048576: true; the input reads as it did. -/
def bconeBetweenUptoRow : OpenClaim := { program := "yteefmgchkhbdpaa", sum := "a6669c66eb7d6245630633379c7e55e24e34a590382360accc9c040416625860", func := "swatch/swatchlaw06.BconeBetween", spec := "bconeBetween", unfollowed := true, recurses := true, apart := false, narrowed := true }
def BconeBetweenUptoSaid : Prop := bconeBetweenUptoRow.holds Try.pinned (OpenSpec.upto bconeBetweenSpec)

end Rows
end Go.Proofs.Yteefmgchkhbdpaa
