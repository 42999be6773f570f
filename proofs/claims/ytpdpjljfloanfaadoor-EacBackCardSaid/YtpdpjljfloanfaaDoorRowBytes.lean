/- A whole array of bytes, out of and into a block that is just that array. -/
import Derived.Test.YtpdpjljfloanfaaDoorBytes
import Derived.Laws.Rows
import Derived.Laws.Tables
import Derived.Below
set_option linter.all false
namespace Go.Proofs.YtpdpjljfloanfaaDoor
open Go.RowKit

theorem Below.setRow {B : Nat} {a w : World} (h : Below B a w) {g : Nat} (hg : B ≤ g) (cs : Array Value) : Below B a (w.setRow g cs) :=
  ⟨h.os, h.tape, h.output, by rw [size_setRow]; exact h.size, fun k hk => by
    have : (w.setRow g cs).heap[k]? = w.heap[k]? := by
      simp only [World.setRow, Array.getElem?_modify]
      rw [if_neg (by omega)]
    rw [this]
    exact h.block k hk⟩

/-- What a store into block g leaves: the row, the size, all else. -/
structure RowAt (w : World) (g : Nat) (t : TypeId) (xs : List Nat) (w' : World) : Prop where
  blk : Blk w' g t xs
  size : w'.heap.size = w.heap.size
  below : ∀ B a, B ≤ g → Below B a w → Below B a w'
  other : ∀ k, k ≠ g → w'.heap[k]? = w.heap[k]?

section
variable {P : Program} {w : World}
theorem wpList_load_bytes {ops : Array Oper} {rest : List Oper} {o : Oper} {a : Act} {Q : Exit → Act → World → Prop} (hgd : o.guard = none) (ty : TypeId) (x : Operand) (ho : o.op = .load ty x)
    (g : Nat) (hx : a.eval x = .pointer (some ⟨g, 0, none⟩)) (t : TypeId) (xs : List Nat) (n : Nat) (e : TypeId) (hg : Blk w g t xs)
    (hu : P.underlying ty = some (.array n e)) (hi : (P.info? ty).map (·.size) = some xs.length)
    (h : wpList P ops Q rest (a.put o.dst (.agg (u8s xs).toArray)) w) : wpList P ops Q (o :: rest) a w :=
  wpList_load_row hgd ty x ho g hx t _ (0, 0) _ hg hu rfl (by simpa [u8s] using hi) h

theorem wpList_store_bytes {ops : Array Oper} {rest : List Oper} {o : Oper} {a : Act} {Q : Exit → Act → World → Prop} (hgd : o.guard = none) (ty : TypeId) (x y : Operand) (ho : o.op = .store ty x y) (hd : o.dst = none)
    (g : Nat) (hx : a.eval x = .pointer (some ⟨g, 0, none⟩)) (xs : List Nat) (hy : a.eval y = .agg (u8s xs).toArray) (t : TypeId) (old : List Nat) (hg : Blk w g t old)
    (hi : (P.info? ty).map (·.size) = some xs.length) (hold : old.length = xs.length)
    (h : ∀ w', RowAt w g t xs w' → wpList P ops Q rest a w') : wpList P ops Q (o :: rest) a w := by
  refine wpList_store_row hgd ty x y ho g _ hx hy t _ hg (by simpa [u8s] using hi) (by simp [u8s, hold]) ?_ ?_
  · rw [Array.all_eq_true_iff_forall_mem]
    intro v hv
    exact u8s_one xs v (by simpa using hv)
  · rw [hd]
    refine h _ ⟨?_, size_setRow _ _ _, fun B b hB hb => Below.setRow hb hB _, fun k hk => ?_⟩
    · unfold Blk at hg ⊢
      simp [World.setRow, Array.getElem?_modify, hg]
    · simp only [World.setRow, Array.getElem?_modify]
      rw [if_neg (by omega)]

/-- A result that lies in a block. -/
theorem results_bytes {fn : Func} {p : Tmp} {ty : TypeId} (h : fn.results = #[.cell p ty]) (tmps : Array Value) (g : Nat) (t : TypeId) (xs : List Nat) (n : Nat) (e : TypeId)
    (hp : tmps.getD p undef = .pointer (some ⟨g, 0, none⟩)) (hg : Blk w g t xs) (hu : P.underlying ty = some (.array n e)) (hi : (P.info? ty).map (·.size) = some xs.length) :
    (results fn tmps).run P w = .ok (.agg (u8s xs).toArray) w :=
  results_cell_row h tmps w g t _ (0, 0) _ hp hg hu rfl (by simpa [u8s] using hi)
end

theorem Blk.new' (w : World) (t : TypeId) (xs : List Nat) : Blk (w.alloc (.cells (u8s xs).toArray t)) w.heap.size t xs := heap_alloc_new w _
theorem Blk.old {w : World} {g : Nat} {t : TypeId} {xs : List Nat} (h : Blk w g t xs) (o : Obj) : Blk (w.alloc o) g t xs := (Below.heap_alloc w o g h.lt).trans h
theorem Blk.rowAt {w w' : World} {g k : Nat} {t t' : TypeId} {xs ys : List Nat} (h : Blk w g t xs) (hr : RowAt w k t' ys w') (hk : g ≠ k) : Blk w' g t xs := (hr.other g hk).trans h
end Go.Proofs.YtpdpjljfloanfaaDoor
