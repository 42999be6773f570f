/- The types of the program, as the laws of Kn ask for them. -/
import Derived.Test.YteefmgchkhbdpaaKn
namespace Go.Proofs.Yteefmgchkhbdpaa
open Go.RowKit

instance : Scal 3 := ⟨⟨_, Try.underlying3, rfl⟩, by kernel_rfl⟩
instance : Scal 4 := ⟨⟨_, Try.underlying4, rfl⟩, by kernel_rfl⟩
instance : Scal 5 := ⟨⟨_, Try.underlying5, rfl⟩, by kernel_rfl⟩
instance : Scal 29 := ⟨⟨_, Try.underlying29, rfl⟩, by kernel_rfl⟩
instance : Scal 22 := ⟨⟨_, Try.underlying22, rfl⟩, by kernel_rfl⟩
instance : Aggr 26 4 := ⟨⟨_, Try.underlying26, rfl⟩, by kernel_rfl⟩
instance : Aggr 55 64 := ⟨⟨_, Try.underlying55, rfl⟩, by kernel_rfl⟩
instance : Aggr 43 2 := ⟨⟨_, Try.underlying43, rfl⟩, by kernel_rfl⟩
instance : Aggr 80 4 := ⟨⟨_, Try.underlying80, rfl⟩, by kernel_rfl⟩
instance : Aggr 25 4 := ⟨⟨_, Try.underlying25, rfl⟩, by kernel_rfl⟩
instance : ZeroV 3 [.int .i64 0] := .of (by kernel_rfl)
instance : ZeroV 26 (i64s [0, 0, 0, 0]) := .of (by kernel_rfl)
instance : ZeroV 80 (u8s [0, 0, 0, 0]) := .of (by kernel_rfl)
instance : ZeroV 25 (i64s [0, 0, 0, 0]) := .of (by kernel_rfl)
instance : ZeroV 22 [.slice none 0 0] := .of (by kernel_rfl)
instance : Scal 77 := ⟨⟨_, Try.underlying77, rfl⟩, by kernel_rfl⟩
instance : Scal 75 := ⟨⟨_, Try.underlying75, rfl⟩, by kernel_rfl⟩
instance : Aggr 51 16 := ⟨⟨_, Try.underlying51, rfl⟩, by kernel_rfl⟩
instance : Aggr 50 18 := ⟨⟨_, Try.underlying50, rfl⟩, by kernel_rfl⟩
instance : Aggr 47 16 := ⟨⟨_, Try.underlying47, rfl⟩, by kernel_rfl⟩
instance : ZeroV 43 (i64s [0, 0]) := .of (by kernel_rfl)
instance : ZeroV 51 (i64s [0, 0, 0, 0, 0, 0, 0, 0, 0, 0, 0, 0, 0, 0, 0, 0]) := .of (by kernel_rfl)
instance : ZeroV 47 (i64s [0, 0, 0, 0, 0, 0, 0, 0, 0, 0, 0, 0, 0, 0, 0, 0]) := .of (by kernel_rfl)
end Go.Proofs.Yteefmgchkhbdpaa
