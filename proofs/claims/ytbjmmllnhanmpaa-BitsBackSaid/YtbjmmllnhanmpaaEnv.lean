/- What a law over bytes and three numbers knows of its arguments while it runs. -/
import Derived.Test.YtbjmmllnhanmpaaBytes
namespace Go.Proofs.Ytbjmmllnhanmpaa
open Go.RowKit

structure Env (w : World) (A : Option Addr) (n : Nat) (xs : List Nat) (x y z : Int) (wk : World) : Prop where
  bel : Below w.heap.size w wk
  bs : Bs wk wk.heap.size A n xs
  lt : w.heap.size < wk.heap.size
  cx : wk.cell? ⟨w.heap.size, 0, none⟩ = some (.int .i64 x)
  cy : wk.cell? ⟨w.heap.size, 1, none⟩ = some (.int .i64 y)
  cz : wk.cell? ⟨w.heap.size, 2, none⟩ = some (.int .i64 z)

theorem Env.step {w : World} {A : Option Addr} {n : Nat} {xs : List Nat} {x y z : Int} {wk wl : World} (h : Env w A n xs x y z wk) (hb : Below wk.heap.size wk wl) : Env w A n xs x y z wl :=
  ⟨h.bel.trans (hb.mono h.bel.size), (h.bs.below hb).more hb.size, Nat.lt_of_lt_of_le h.lt hb.size, (hb.cell h.lt).trans h.cx, (hb.cell h.lt).trans h.cy, (hb.cell h.lt).trans h.cz⟩

theorem Env.start {w : World} {A : Option Addr} {n : Nat} {xs : List Nat} (x y z : Int) (t : TypeId) (h : Bs w w.heap.size A n xs) : Env w A n xs x y z (w.alloc (.cells #[.int .i64 x, .int .i64 y, .int .i64 z] t)) :=
  have hb := (Below.refl w.heap.size w).alloc (Nat.le_refl _) (.cells #[.int .i64 x, .int .i64 y, .int .i64 z] t)
  have hh : (w.alloc (.cells #[.int .i64 x, .int .i64 y, .int .i64 z] t)).heap[w.heap.size]? = some (.cells #[.int .i64 x, .int .i64 y, .int .i64 z] t (0, 0)) := heap_alloc_new w _
  ⟨hb, (h.below hb).more hb.size, by simp, by rw [cell_of_row _ _ _ _ _ _ hh]; rfl, by rw [cell_of_row _ _ _ _ _ _ hh]; rfl, by rw [cell_of_row _ _ _ _ _ _ hh]; rfl⟩

/-- Bytes that were made stay, too. -/
theorem Bs.later {wk wl : World} {A : Option Addr} {n : Nat} {xs : List Nat} (h : Bs wk wk.heap.size A n xs) (hb : Below wk.heap.size wk wl) : Bs wl wl.heap.size A n xs := (h.below hb).more hb.size
end Go.Proofs.Ytbjmmllnhanmpaa
