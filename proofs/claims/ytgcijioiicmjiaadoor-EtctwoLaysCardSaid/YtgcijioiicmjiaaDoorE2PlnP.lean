/- Planar blocks: the texels of a plane's first texel, and of a plane of one colour; no program. -/
import Derived.Test.YtgcijioiicmjiaaDoorE2Awake
import Derived.Test.YtgcijioiicmjiaaDoorE2Rsm
set_option linter.all false
namespace Go.Proofs.YtgcijioiicmjiaaDoor
open Bi Lv
namespace Et
open Eo
theorem list9 (l : List Int) (h : l.length = 9) : ∃ a b c d e f g i j, l = [a, b, c, d, e, f, g, i, j] := by
  match l, h with
  | [a, b, c, d, e, f, g, i, j], _ => exact ⟨a, b, c, d, e, f, g, i, j, rfl⟩
end Et
end Go.Proofs.YtgcijioiicmjiaaDoor
