/- ETC2 blocks, the document's: the parts and the kind. -/
import Derived.Test.YtgcijioiicmjiaaDoorE2Rsm
import Derived.Test.YtgcijioiicmjiaaDoorE1Rpaint
import Derived.Test.YtgcijioiicmjiaaDoorE2Dec
set_option linter.all false
namespace Go.Proofs.YtgcijioiicmjiaaDoor
open Go.RowKit
open Bi Lv Eo Et

end Go.Proofs.YtgcijioiicmjiaaDoor
