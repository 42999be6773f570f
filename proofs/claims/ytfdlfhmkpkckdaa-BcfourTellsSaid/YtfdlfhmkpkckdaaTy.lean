/- The types of the program, as the laws of Kn ask for them. -/
import Derived.Test.YtfdlfhmkpkckdaaKn
namespace Go.Proofs.Ytfdlfhmkpkckdaa
open Go.RowKit

instance : Scal 3 := ⟨⟨_, Try.underlying3, rfl⟩, by kernel_rfl⟩
instance : Scal 4 := ⟨⟨_, Try.underlying4, rfl⟩, by kernel_rfl⟩
instance : Scal 5 := ⟨⟨_, Try.underlying5, rfl⟩, by kernel_rfl⟩
instance : Scal 26 := ⟨⟨_, Try.underlying26, rfl⟩, by kernel_rfl⟩
instance : Scal 22 := ⟨⟨_, Try.underlying22, rfl⟩, by kernel_rfl⟩
instance : ZeroV 3 [.int .i64 0] := .of (by kernel_rfl)
instance : ZeroV 22 [.slice none 0 0] := .of (by kernel_rfl)
instance : Scal 45 := ⟨⟨_, Try.underlying45, rfl⟩, by kernel_rfl⟩
instance : Aggr 25 16 := ⟨⟨_, Try.underlying25, rfl⟩, by kernel_rfl⟩
instance : Aggr 23 18 := ⟨⟨_, Try.underlying23, rfl⟩, by kernel_rfl⟩
instance : ZeroV 25 (i64s [0, 0, 0, 0, 0, 0, 0, 0, 0, 0, 0, 0, 0, 0, 0, 0]) := .of (by kernel_rfl)
end Go.Proofs.Ytfdlfhmkpkckdaa
