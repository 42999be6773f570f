/- The search 'first', for a closure that only reads; the closure of Near, and Near. -/
import Derived.Test.YtpdpjljfloanfaaDoorLvRef
import Derived.Test.YtpdpjljfloanfaaDoorInts
import Derived.Deep.QuietTactic
import Derived.BigQuiet
set_option linter.all false
namespace Go.Proofs.YtpdpjljfloanfaaDoor
open Go.RowKit
open Lv

/-- It answers v, and only draws. -/
def Tells (v : Value) (w : World) (e : Ending) (w' : World) : Prop := e = .returned v ∧ ∃ q, w' = w.drewN q
theorem Tells.below {v : Value} {w : World} {e : Ending} {w' : World} (h : Tells v w e w') : Below w.heap.size w w' := by
  obtain ⟨_, q, rfl⟩ := h
  exact ⟨rfl, rfl, rfl, Nat.le_refl _, fun _ _ => rfl⟩
theorem quiet_same {P : Program} {f : FuncId} {args : Array Value} {w : World} {n : Nat} {v : Value}
    (h : Calls P f args (w.drewN n) fun e w' => e = .returned v ∧ w.drewN n = w') : Calls P f args (w.drewN n) fun e w'' => e = .returned v ∧ ∃ m, w'' = w.drewN m :=
  h.mono fun _ _ ⟨he, hm⟩ => ⟨he, n, hm.symm⟩

end Go.Proofs.YtpdpjljfloanfaaDoor
