/- The types of the program, as the laws of Kn ask for them. -/
import Derived.Test.YtneggfpmmciohaaDoorKn
set_option linter.all false
namespace Go.Proofs.YtneggfpmmciohaaDoor
open Go.RowKit

instance : Scal 3 := ⟨⟨_, Tryd.underlying3, rfl⟩, by kernel_rfl⟩
instance : Scal 4 := ⟨⟨_, Tryd.underlying4, rfl⟩, by kernel_rfl⟩
instance : Scal 5 := ⟨⟨_, Tryd.underlying5, rfl⟩, by kernel_rfl⟩
instance : ZeroV 3 [.int .i64 0] := .of (by kernel_rfl)
instance : Scal 27 := ⟨⟨_, Tryd.underlying27, rfl⟩, by kernel_rfl⟩
end Go.Proofs.YtneggfpmmciohaaDoor
