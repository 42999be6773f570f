/- Near: its closure, then itself. -/
import Derived.Test.YtpdpjljfloanfaaDoorLvFirst
import Derived.Below
import Derived.IntWalk
set_option linter.all false
namespace Go.Proofs.YtpdpjljfloanfaaDoor
open Go.RowKit
open Lv

/-- Two boxes, one after the other. -/
theorem two_cells (w : World) (x y : Value) (t u : TypeId) : ((w.alloc (.cells #[x] t)).alloc (.cells #[y] u)).cell? ⟨w.heap.size, 0, none⟩ = some x ∧ ((w.alloc (.cells #[x] t)).alloc (.cells #[y] u)).cell? ⟨w.heap.size + 1, 0, none⟩ = some y := by
  constructor
  · have h : Row ((w.alloc (.cells #[x] t)).alloc (.cells #[y] u)) w.heap.size t [x] := (Below.heap_alloc _ _ _ (by simp)).trans (Row.new w t [x])
    exact h.cell 0 x rfl
  · have h := Row.new (w.alloc (.cells #[x] t)) u [y]
    rw [World.size_alloc] at h
    exact h.cell 0 y rfl
theorem two_below (w : World) (x y : Value) (t u : TypeId) (r : Nat) : Below w.heap.size w (((w.alloc (.cells #[x] t)).alloc (.cells #[y] u)).drewN r) :=
  (((Below.refl w.heap.size w).alloc (Nat.le_refl _) _).alloc (by simp) _).trans ⟨rfl, rfl, rfl, Nat.le_refl _, fun _ _ => rfl⟩

end Go.Proofs.YtpdpjljfloanfaaDoor
