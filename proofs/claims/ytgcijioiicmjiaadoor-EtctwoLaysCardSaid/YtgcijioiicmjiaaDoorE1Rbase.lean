/- The two colours of a block: the document's. -/
import Derived.Test.YtgcijioiicmjiaaDoorE1Base
set_option linter.all false
namespace Go.Proofs.YtgcijioiicmjiaaDoor
open Go.RowKit
open Bi Lv Eo


end Go.Proofs.YtgcijioiicmjiaaDoor
