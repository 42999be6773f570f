/- A block's texels: the document's; and those of its bytes. -/
import Derived.Test.YtgcijioiicmjiaaDoorE1Paint
import Derived.Test.YtgcijioiicmjiaaDoorE1Rpart
set_option linter.all false
namespace Go.Proofs.YtgcijioiicmjiaaDoor
open Go.RowKit
open Bi Lv Eo

/-! Bytes. -/
end Go.Proofs.YtgcijioiicmjiaaDoor
