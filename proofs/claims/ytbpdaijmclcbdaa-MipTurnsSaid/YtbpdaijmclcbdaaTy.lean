/- The types of the program, as the laws of Kn ask for them. -/
import Derived.Test.YtbpdaijmclcbdaaKn
namespace Go.Proofs.Ytbpdaijmclcbdaa
open Go.RowKit

instance : Scal 3 := ⟨⟨_, Try.underlying3, rfl⟩, by kernel_rfl⟩
instance : Scal 4 := ⟨⟨_, Try.underlying4, rfl⟩, by kernel_rfl⟩
instance : Scal 5 := ⟨⟨_, Try.underlying5, rfl⟩, by kernel_rfl⟩
instance : Scal 33 := ⟨⟨_, Try.underlying33, rfl⟩, by kernel_rfl⟩
instance : Scal 22 := ⟨⟨_, Try.underlying22, rfl⟩, by kernel_rfl⟩
instance : Scal 26 := ⟨⟨_, Try.underlying26, rfl⟩, by kernel_rfl⟩
instance : Aggr 30 4 := ⟨⟨_, Try.underlying30, rfl⟩, by kernel_rfl⟩
instance : Aggr 32 64 := ⟨⟨_, Try.underlying32, rfl⟩, by kernel_rfl⟩
instance : Aggr 25 2 := ⟨⟨_, Try.underlying25, rfl⟩, by kernel_rfl⟩
instance : Aggr 71 4 := ⟨⟨_, Try.underlying71, rfl⟩, by kernel_rfl⟩
instance : Aggr 29 4 := ⟨⟨_, Try.underlying29, rfl⟩, by kernel_rfl⟩
instance : ZeroV 3 [.int .i64 0] := .of (by kernel_rfl)
instance : ZeroV 30 (i64s [0, 0, 0, 0]) := .of (by kernel_rfl)
instance : ZeroV 71 (u8s [0, 0, 0, 0]) := .of (by kernel_rfl)
instance : ZeroV 29 (i64s [0, 0, 0, 0]) := .of (by kernel_rfl)
instance : ZeroV 22 [.slice none 0 0] := .of (by kernel_rfl)
instance : ZeroV 25 (i64s [0, 0]) := .of (by kernel_rfl)
end Go.Proofs.Ytbpdaijmclcbdaa
