/- Bytes of the call's own that may be written: how they are read, set and kept. -/
import Derived.Test.YtbpdaijmclcbdaaImPlain
import Derived.Maps.AppendAt
namespace Go.Proofs.Ytbpdaijmclcbdaa
open Go.RowKit
open Im

/-- Block g begins with the bytes xs; none of its cells is frozen. -/
def Pix (w : World) (g : Nat) (t : TypeId) (xs : List Nat) : Prop :=
  (∀ x ∈ xs, x < 256) ∧ ∃ cur : Array Value, w.heap[g]? = some (.cells cur t (0, 0)) ∧ cur.toList.take xs.length = u8s xs

section
variable {w w' : World} {g : Nat} {t : TypeId} {xs : List Nat}
theorem Pix.lt (h : Pix w g t xs) : g < w.heap.size := by
  obtain ⟨_, cur, hc, _⟩ := h
  exact (Array.getElem?_eq_some_iff.1 hc).1
theorem Pix.cell (h : Pix w g t xs) (i : Nat) (hi : i < xs.length) : w.cell? ⟨g, i, none⟩ = some (.int .u8 ((xs.getD i 0 : Nat) : Int)) := by
  obtain ⟨_, cur, hc, ht⟩ := h
  rw [cell_of_row w g i _ t (0, 0) hc]
  have : (cur.toList.take xs.length)[i]? = some (.int .u8 ((xs.getD i 0 : Nat) : Int)) := by rw [ht, u8s_getElem? xs i hi]
  rw [List.getElem?_take, if_pos hi] at this
  simpa using this
theorem Pix.frozen (h : Pix w g t xs) (i : Nat) : w.frozen? ⟨g, i, none⟩ = false := by
  obtain ⟨_, cur, hc, _⟩ := h
  simp [World.frozen?, hc]
theorem Pix.kept (h : Pix w g t xs) (e : w'.heap[g]? = w.heap[g]?) : Pix w' g t xs := by
  obtain ⟨hx, cur, hc, ht⟩ := h
  exact ⟨hx, cur, e.trans hc, ht⟩
theorem Pix.below {B : Nat} (h : Pix w g t xs) (hb : Below B w w') (hg : g < B) : Pix w' g t xs := h.kept (hb.block g hg)
theorem Pix.later (h : Pix w g t xs) (hb : Below w.heap.size w w') : Pix w' g t xs := h.below hb h.lt
theorem Pix.old (h : Pix w g t xs) (o : Obj) : Pix (w.alloc o) g t xs := h.kept (Below.heap_alloc w o g h.lt)
theorem Pix.set_ (h : Pix w g t xs) (i x : Nat) (hx : x < 256) : Pix (w.setCell ⟨g, i, none⟩ (.int .u8 (x : Int))) g t (xs.set i x) := by
  obtain ⟨h1, cur, hc, ht⟩ := h
  refine ⟨fun y hy => ?_, cur.set! i (.int .u8 (x : Int)), ?_, ?_⟩
  · rcases List.mem_or_eq_of_mem_set hy with h' | rfl
    · exact h1 y h'
    · exact hx
  · simp [World.setCell, Array.getElem?_modify, hc]
  · rw [List.length_set, ← u8s_set, ← ht]
    simp [List.take_set]
theorem Pix.bs (h : Pix w g t xs) {n : Nat} (hn : xs.length = n) : Bs w w.heap.size (some ⟨g, 0, none⟩) n xs :=
  ⟨hn, h.1, fun _ => ⟨g, 0, rfl, h.lt, fun i hi => by rw [Nat.zero_add]; exact h.cell i (by omega)⟩⟩
theorem Pix.of_own {base : Nat} {n cap : Nat} (h : w.ownsRow base t 1 (.slice (some ⟨g, 0, none⟩) n cap) n (u8s xs)) (hx : ∀ x ∈ xs, x < 256) : Pix w g t xs := by
  rcases h.2 with ⟨h0, _⟩ | ⟨g', cap', cur, hv, _, hh, _, _, _, ht⟩
  · cases h0
  · have e : g' = g := by injection hv with a; injection a with a; injection a with a; exact a.symm
    subst e
    have hl : xs.length = n := by have := h.1; simpa [u8s] using this
    exact ⟨hx, cur, hh, by rw [hl]; simpa using ht⟩
theorem Pix.made (w : World) (t : TypeId) (n : Nat) : Pix (w.alloc (.cells (madeCells #[.int .u8 0] n) t)) w.heap.size t (List.replicate n 0) := by
  refine ⟨fun x hx => by rw [List.eq_of_mem_replicate hx]; omega, _, heap_alloc_new w _, ?_⟩
  simp [madeCells, u8s]
  apply List.ext_getElem?
  intro i
  simp [List.getElem?_take, List.getElem?_replicate]
  split
  · rename_i h
    simp [List.getElem?_range h, Nat.mod_one]
  · rfl
end

theorem grown_set (w : World) (a : Addr) (u : Value) : w.grownBy (w.setCell a u) (some a.block) :=
  ⟨rfl, rfl, rfl, by simp, fun k _ hk => heap_setCell_other w a k u (fun e => hk (by rw [e]))⟩
theorem Below.gives {w w' : World} (h : Below w.heap.size w w') (r : Option Nat) : w.grownBy w' r := ⟨h.os, h.tape, h.output, h.size, fun k hk _ => h.block k hk⟩
theorem Row.grown {w w' : World} {r : Option Nat} {g : Nat} {t : TypeId} {vs : List Value} (h : Row w g t vs) (hg : w.grownBy w' r) (hr : some g ≠ r) : Row w' g t vs := (hg.block g h.lt hr).trans h
theorem Pix.grown {w w' : World} {r : Option Nat} {g : Nat} {t : TypeId} {xs : List Nat} (h : Pix w g t xs) (hg : w.grownBy w' r) (hr : some g ≠ r) : Pix w' g t xs := h.kept (hg.block g h.lt hr)
/-- What a store of a whole block's values leaves. -/
structure SetTo (w : World) (g : Nat) (t : TypeId) (vs : List Value) (w' : World) : Prop where
  row : Row w' g t vs
  size : w'.heap.size = w.heap.size
  below : ∀ B a, B ≤ g → Below B a w → Below B a w'
  other : ∀ k, k ≠ g → w'.heap[k]? = w.heap[k]?
  grown : w.grownBy w' (some g)
theorem SetTo.of {w : World} {g : Nat} {t : TypeId} {old : List Value} (h : Row w g t old) (vs : List Value) : SetTo w g t vs (w.setRow g vs.toArray) := by
  have ho : ∀ k, k ≠ g → (w.setRow g vs.toArray).heap[k]? = w.heap[k]? := by
    intro k hk
    simp only [World.setRow, Array.getElem?_modify]
    rw [if_neg (by omega)]
  refine ⟨?_, size_setRow _ _ _, fun B b hB hb => Below.setRow hb hB _, ho, ⟨rfl, rfl, rfl, by rw [size_setRow]; exact Nat.le_refl _, fun k _ hk => ho k (fun e => hk (by rw [e]))⟩⟩
  unfold Row at h ⊢
  simp [World.setRow, Array.getElem?_modify, h]
theorem SetTo.keep {w w' : World} {g : Nat} {t : TypeId} {vs : List Value} (h : SetTo w g t vs w') {k : Nat} {u : TypeId} {us : List Value} (hk : k ≠ g) (hr : Row w k u us) : Row w' k u us := (h.other k hk).trans hr
theorem SetTo.pix {w w' : World} {g : Nat} {t : TypeId} {vs : List Value} (h : SetTo w g t vs w') {k : Nat} {u : TypeId} {us : List Nat} (hk : k ≠ g) (hr : Pix w k u us) : Pix w' k u us := hr.kept (h.other k hk)
section
variable {P : Program} {w : World}
theorem wp_store_img {o : Oper} {a : Act} {K : Act → World → Prop} {Q : Exit → Act → World → Prop} (ty : TypeId) (x y : Operand) (ho : o.op = .store ty x y) (hd : o.dst = none)
    (g : Nat) (W H : Int) (A : Option Addr) (n c : Nat) (hx : a.eval x = .pointer (some ⟨g, 0, none⟩)) (hy : a.eval y = img W H A n c) (t : TypeId) (old : List Value) (hg : Row w g t old) (hl : old.length = 3)
    (hi : (P.info? ty).map (·.size) = some 3)
    (h : ∀ w', SetTo w g t (imL W H A n c) w' → K a w') : o.wp P a w K Q :=
  wp_store_row ty x y ho g (imL W H A n c).toArray hx hy t old.toArray hg hi (by simpa using hl) (by simp [Value.oneCell']) (by rw [hd]; exact h _ (SetTo.of hg _))
theorem wpList_store_img {ops : Array Oper} {rest : List Oper} {o : Oper} {a : Act} {Q : Exit → Act → World → Prop} (hgd : o.guard = none) (ty : TypeId) (x y : Operand) (ho : o.op = .store ty x y) (hd : o.dst = none)
    (g : Nat) (W H : Int) (A : Option Addr) (n c : Nat) (hx : a.eval x = .pointer (some ⟨g, 0, none⟩)) (hy : a.eval y = img W H A n c) (t : TypeId) (old : List Value) (hg : Row w g t old) (hl : old.length = 3)
    (hi : (P.info? ty).map (·.size) = some 3)
    (h : ∀ w', SetTo w g t (imL W H A n c) w' → wpList P ops Q rest a w') : wpList P ops Q (o :: rest) a w :=
  wpList_plain hgd fun _ hK => wp_store_img ty x y ho hd g W H A n c hx hy t old hg hl hi fun w' hs => hK _ _ (h w' hs)
theorem wpList_store_vals {ops : Array Oper} {rest : List Oper} {o : Oper} {a : Act} {Q : Exit → Act → World → Prop} (hgd : o.guard = none) (ty : TypeId) (x y : Operand) (ho : o.op = .store ty x y) (hd : o.dst = none)
    (g : Nat) (vs : List Value) (hx : a.eval x = .pointer (some ⟨g, 0, none⟩)) (hy : a.eval y = .agg vs.toArray) (t : TypeId) (old : List Value) (hg : Row w g t old) (hf : old.length = vs.length ∧ (P.info? ty).map (·.size) = some vs.length ∧ ∀ v ∈ vs, v.oneCell' = true)
    (h : ∀ w', SetTo w g t vs w' → wpList P ops Q rest a w') : wpList P ops Q (o :: rest) a w :=
  wpList_plain hgd fun _ hK => wp_store_row ty x y ho g vs.toArray hx hy t old.toArray hg (by simpa using hf.2.1) (by simpa using hf.1) (all_oneCell_toArray hf.2.2) (by rw [hd]; exact hK _ _ (h _ (SetTo.of hg _)))
theorem wpList_load_img {ops : Array Oper} {rest : List Oper} {o : Oper} {a : Act} {Q : Exit → Act → World → Prop} (hgd : o.guard = none) (ty : TypeId) (x : Operand) (ho : o.op = .load ty x)
    (g : Nat) (hx : a.eval x = .pointer (some ⟨g, 0, none⟩)) (t : TypeId) (W H : Int) (A : Option Addr) (n c : Nat) (fs : Array Field) (hg : Row w g t (imL W H A n c))
    (hu : P.underlying ty = some (.struct fs)) (hi : (P.info? ty).map (·.size) = some 3)
    (h : wpList P ops Q rest (a.put o.dst (img W H A n c)) w) : wpList P ops Q (o :: rest) a w :=
  wpList_load_row hgd ty x ho g hx t _ (0, 0) _ hg hu rfl hi h
end
end Go.Proofs.Ytbpdaijmclcbdaa
