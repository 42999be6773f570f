/- The types of the program, as the laws of Kn ask for them. -/
import Derived.Test.YtpdpjljfloanfaaDoorKn
set_option linter.all false
namespace Go.Proofs.YtpdpjljfloanfaaDoor
open Go.RowKit

instance : Scal 3 := ⟨⟨_, Tryd.underlying3, rfl⟩, by kernel_rfl⟩
instance : Scal 4 := ⟨⟨_, Tryd.underlying4, rfl⟩, by kernel_rfl⟩
instance : Scal 5 := ⟨⟨_, Tryd.underlying5, rfl⟩, by kernel_rfl⟩
instance : Scal 26 := ⟨⟨_, Tryd.underlying26, rfl⟩, by kernel_rfl⟩
instance : Scal 22 := ⟨⟨_, Tryd.underlying22, rfl⟩, by kernel_rfl⟩
instance : ZeroV 3 [.int .i64 0] := .of (by kernel_rfl)
instance : ZeroV 22 [.slice none 0 0] := .of (by kernel_rfl)
instance : Scal 41 := ⟨⟨_, Tryd.underlying41, rfl⟩, by kernel_rfl⟩
instance : Aggr 25 16 := ⟨⟨_, Tryd.underlying25, rfl⟩, by kernel_rfl⟩
instance : ZeroV 25 (i64s [0, 0, 0, 0, 0, 0, 0, 0, 0, 0, 0, 0, 0, 0, 0, 0]) := .of (by kernel_rfl)
end Go.Proofs.YtpdpjljfloanfaaDoor
