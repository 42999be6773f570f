/- What a law knows of its blocks and images while it runs. -/
import Derived.Test.YtnlaelbceloliaaImSame
namespace Go.Proofs.Ytnlaelbceloliaa
open Go.RowKit
open Im

structure Env (w : World) (L : List (Nat × TypeId × List Value)) (M : List (Value × Int × Int × List Nat)) (u : World) : Prop where
  rows : ∀ r ∈ L, Row u r.1 r.2.1 r.2.2
  imgs : ∀ i ∈ M, Img u i.1 i.2.1 i.2.2.1 i.2.2.2
  bel : Below w.heap.size w u
section
variable {w u u' : World} {L : List (Nat × TypeId × List Value)} {M : List (Value × Int × Int × List Nat)}
theorem Env.later (h : Env w L M u) (hb : Below u.heap.size u u') : Env w L M u' :=
  ⟨fun r hr => (h.rows r hr).below hb (h.rows r hr).lt, fun i hi => (h.imgs i hi).later hb, h.bel.trans (hb.mono h.bel.size)⟩
theorem Env.alloc (h : Env w L M u) (o : Obj) : Env w L M (u.alloc o) := h.later (Below.box u o)
/-- A new block. -/
theorem Env.new (h : Env w L M u) (t : TypeId) (vs : List Value) : Env w ((u.heap.size, t, vs) :: L) M (u.alloc (.cells vs.toArray t)) := by
  refine ⟨fun r hr => ?_, (h.alloc _).imgs, (h.alloc _).bel⟩
  rcases List.mem_cons.1 hr with rfl | hr
  · exact Row.new u t vs
  · exact (h.alloc _).rows r hr
theorem Env.img (h : Env w L M u) {v : Value} {W H : Int} {xs : List Nat} (hi : Img u v W H xs) : Env w L ((v, W, H, xs) :: M) u := by
  refine ⟨h.rows, fun i hm => ?_, h.bel⟩
  rcases List.mem_cons.1 hm with rfl | hm
  · exact hi
  · exact h.imgs i hm
/-- A store into a block that was just made. -/
theorem Env.ints (h : Env w L M u) {o : Obj} {t : TypeId} {zs : List Int} (hr : RowTo (u.alloc o) u.heap.size t zs u') : Env w ((u.heap.size, t, i64s zs) :: L) M u' := by
  have hb : Below u.heap.size u u' := hr.below _ _ (Nat.le_refl _) (Below.box u o)
  refine ⟨fun r hm => ?_, (h.later hb).imgs, (h.later hb).bel⟩
  rcases List.mem_cons.1 hm with rfl | hm
  · exact hr.row
  · exact (h.later hb).rows r hm
theorem Env.part (h : Env w L M u) (L' : List (Nat × TypeId × List Value)) (M' : List (Value × Int × Int × List Nat)) (hL : ∀ r ∈ L', r ∈ L) (hM : ∀ i ∈ M', i ∈ M) : Env w L' M' u := ⟨fun r hr => h.rows r (hL r hr), fun i hi => h.imgs i (hM i hi), h.bel⟩
theorem Env.row (h : Env w L M u) {g : Nat} {t : TypeId} {vs : List Value} (hm : (g, t, vs) ∈ L) : Row u g t vs := h.rows _ hm
theorem Env.image (h : Env w L M u) {v : Value} {W H : Int} {xs : List Nat} (hm : (v, W, H, xs) ∈ M) : Img u v W H xs := h.imgs _ hm
end
theorem Env.drew {w u : World} {L : List (Nat × TypeId × List Value)} {M : List (Value × Int × Int × List Nat)} (h : Env w L M u) : Env w L M u.drew :=
  ⟨fun r hr => h.rows r hr, fun i hi => h.imgs i hi, ⟨h.bel.os, h.bel.tape, h.bel.output, h.bel.size, h.bel.block⟩⟩
end Go.Proofs.Ytnlaelbceloliaa
