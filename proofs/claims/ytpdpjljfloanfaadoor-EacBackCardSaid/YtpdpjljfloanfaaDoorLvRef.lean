/- What the reference's Wide and Near answer: the same numbers. -/
import Derived.Test.YtpdpjljfloanfaaDoorLvWide
set_option linter.all false
namespace Go.Proofs.YtpdpjljfloanfaaDoor
open Go.RowKit
open Lv

theorem nearV_no {n bits : Int} (h : ¬ (1 ≤ bits ∧ bits ≤ 8)) : nearV n bits = 0 := if_neg h
end Go.Proofs.YtpdpjljfloanfaaDoor
