/-
  No cell of these rows narrows 'for every input' (looked for: loops, veiled, ifaces, maps, wideKeys, modest, calm, conditions, laid).
  DERIVED. THE GIVEN ROWS OF THIS SEAT. 3 by the template 'for every input the law returns true; each argument reads behind the call as it read before'; 0 by the template 'total and deterministic' (their statements: YtfdlfhmkpkckdaaTotals.lean).
  GIVEN WITH THE SEED: the statements are not yours to turn. If you find one false, say at which input.
  Laid BY PROGRAM, IN A SANDBOX (cutbox-rows.mjs): the forced cells as the released guide's own fill.sh prints them over the translation 4656c1600c7c50ed… (all of the seat's roots in one cut). By AI agents, Wed Nov 11 2026. No macro, syntax, notation, axiom, sorry.
-/
import Derived.Test.YtfdlfhmkpkckdaaChecked
import GoSem.Claim
import GoSem.ClaimJoined
import GoSem.ClaimMapViews
import Derived.JoinedTies
import Derived.KernelRfl
namespace Go.Proofs.Ytfdlfhmkpkckdaa
/- THE CELL 'sum', in the pinned program and in every row, IS THE sha256 OF THE DUMP (.gsa) THAT YtfdlfhmkpkckdaaProg.lean LOADS. Nothing in Lean hashes anything: it is a label: what it is worth is what the hold of that sum in a sandbox is worth. -/
noncomputable def Try.pinned : Pinned := { name := "ytfdlfhmkpkckdaa", sum := "4656c1600c7c50edd580fda3e84c13bd543c46314c9a0488485f369bf611e9dd", checked := Try.checked }
namespace Rows
def none {H : Type} : Left H := { results := [], args := [] }

/-- 'swatchlaw07.BcfourTells': WHATEVER THE INPUT: true; the input reads as it did. -/
def bcfourTellsSpec : ChangeSpec := { name := "bcfourTells", fn := fun _ => fun
  | [d1, d2] => { results := [.lit (.bool true)], args := [d1, d2] }
  | _ => none }
def bcfourTellsRow : OpenClaim := { program := "ytfdlfhmkpkckdaa", sum := "4656c1600c7c50edd580fda3e84c13bd543c46314c9a0488485f369bf611e9dd", func := "swatch/swatchlaw07.BcfourTells", spec := "bcfourTells", apart := false }
def BcfourTellsSaid : Prop := bcfourTellsRow.holds Try.pinned (OpenSpec.ofChange bcfourTellsSpec)

/-- ITS FALSE NEIGHBOUR: 'it returns false'. Refute it at one input. -/
def bcfourTellsWrong : ChangeSpec := { name := "bcfourTells", fn := fun _ => fun
  | [d1, d2] => { results := [.lit (.bool false)], args := [d1, d2] }
  | _ => none }
def BcfourTellsWrongFalsely : Prop := bcfourTellsRow.holds Try.pinned (OpenSpec.ofChange bcfourTellsWrong)

/-- 'swatchlaw07.BcfourBack': WHATEVER THE INPUT: true; the input reads as it did. -/
def bcfourBackSpec : ChangeSpec := { name := "bcfourBack", fn := fun _ => fun
  | [d] => { results := [.lit (.bool true)], args := [d] }
  | _ => none }
def bcfourBackRow : OpenClaim := { program := "ytfdlfhmkpkckdaa", sum := "4656c1600c7c50edd580fda3e84c13bd543c46314c9a0488485f369bf611e9dd", func := "swatch/swatchlaw07.BcfourBack", spec := "bcfourBack", unfollowed := true, recurses := true, apart := false }
def BcfourBackSaid : Prop := bcfourBackRow.holds Try.pinned (OpenSpec.ofChange bcfourBackSpec)

/-- ITS FALSE NEIGHBOUR: 'it returns false'. Refute it at one input. -/
def bcfourBackWrong : ChangeSpec := { name := "bcfourBack", fn := fun _ => fun
  | [d] => { results := [.lit (.bool false)], args := [d] }
  | _ => none }
def BcfourBackWrongFalsely : Prop := bcfourBackRow.holds Try.pinned (OpenSpec.ofChange bcfourBackWrong)

/-- 'swatchlaw07.BcfourRamp': WHATEVER THE INPUT: true; the input reads as it did. -/
def bcfourRampSpec : ChangeSpec := { name := "bcfourRamp", fn := fun _ => fun
  | [d1, d2] => { results := [.lit (.bool true)], args := [d1, d2] }
  | _ => none }
def bcfourRampRow : OpenClaim := { program := "ytfdlfhmkpkckdaa", sum := "4656c1600c7c50edd580fda3e84c13bd543c46314c9a0488485f369bf611e9dd", func := "swatch/swatchlaw07.BcfourRamp", spec := "bcfourRamp", apart := false }
def BcfourRampSaid : Prop := bcfourRampRow.holds Try.pinned (OpenSpec.ofChange bcfourRampSpec)

/-- ITS FALSE NEIGHBOUR: 'it returns false'. Refute it at one input. -/
def bcfourRampWrong : ChangeSpec := { name := "bcfourRamp", fn := fun _ => fun
  | [d1, d2] => { results := [.lit (.bool false)], args := [d1, d2] }
  | _ => none }
def BcfourRampWrongFalsely : Prop := bcfourRampRow.holds Try.pinned (OpenSpec.ofChange bcfourRampWrong)

/- THE SECOND FORM. 'bulk': how many values and letters a reading holds, each counted each time it is reached (what is shared counts as often as it is met; a slice's spare places count too). A statement '..UptoSaid' is the law's where the arguments, and the package variables that the reading takes, are together of bulk at most 1048576: NARROWER than '..Said'. Prove '..Said' where nothing that the law and all that it calls make is longer than what came in: it says more and counts as full. Else prove '..UptoSaid'. A law counts once. -/
mutual
def uptoBulk {H : Type} : DataW H → Nat
  | .lit (.string bytes) => bytes.length + 1
  | .lit _ => 1
  | .nil => 1
  | .ptr d => uptoBulk d + 1
  | .slice elems spare => uptoBulkAll elems + uptoBulkAll spare + 1
  | .agg parts => uptoBulkAll parts + 1
  | .iface _ d => uptoBulk d + 1
  | .map entries => uptoBulkEntries entries + 1
  | .held _ => 1
def uptoBulkAll {H : Type} : List (DataW H) → Nat
  | [] => 0
  | d :: r => uptoBulk d + uptoBulkAll r
def uptoBulkEntries {H : Type} : List (Lit × DataW H) → Nat
  | [] => 0
  | x :: r => uptoBulkEntry x + uptoBulkEntries r
def uptoBulkEntry {H : Type} : Lit × DataW H → Nat
  | (.string bytes, d) => bytes.length + uptoBulk d + 1
  | (_, d) => uptoBulk d + 1
 end
def uptoSmall : (H : Type) → List (DataW H) → Bool := fun _ ds => decide (uptoBulkAll ds ≤ 1048576)
def OpenSpec.upto (s : _root_.Go.ChangeSpec) : _root_.Go.OpenSpec := { _root_.Go.OpenSpec.ofChange s with cond := some uptoSmall }

/-- 'swatchlaw07.BcfourTells', WHERE WHAT IT READS IS OF BULK AT MOST 1048576: true; the input reads as it did. -/
def bcfourTellsUptoRow : OpenClaim := { program := "ytfdlfhmkpkckdaa", sum := "4656c1600c7c50edd580fda3e84c13bd543c46314c9a0488485f369bf611e9dd", func := "swatch/swatchlaw07.BcfourTells", spec := "bcfourTells", apart := false, narrowed := true }
def BcfourTellsUptoSaid : Prop := bcfourTellsUptoRow.holds Try.pinned (OpenSpec.upto bcfourTellsSpec)

/-- 'swatchlaw07.BcfourBack', WHERE WHAT IT READS IS OF BULK AT MOST 1048576: true; the input reads as it did. -/
def bcfourBackUptoRow : OpenClaim := { program := "ytfdlfhmkpkckdaa", sum := "4656c1600c7c50edd580fda3e84c13bd543c46314c9a0488485f369bf611e9dd", func := "swatch/swatchlaw07.BcfourBack", spec := "bcfourBack", unfollowed := true, recurses := true, apart := false, narrowed := true }
def BcfourBackUptoSaid : Prop := bcfourBackUptoRow.holds Try.pinned (OpenSpec.upto bcfourBackSpec)

/-- 'swatchlaw07.BcfourRamp', WHERE WHAT IT READS IS OF BULK AT MOST 1048576: true; the input reads as it did. -/
def bcfourRampUptoRow : OpenClaim := { program := "ytfdlfhmkpkckdaa", sum := "4656c1600c7c50edd580fda3e84c13bd543c46314c9a0488485f369bf611e9dd", func := "swatch/swatchlaw07.BcfourRamp", spec := "bcfourRamp", apart := false, narrowed := true }
def BcfourRampUptoSaid : Prop := bcfourRampUptoRow.holds Try.pinned (OpenSpec.upto bcfourRampSpec)

end Rows
end Go.Proofs.Ytfdlfhmkpkckdaa
