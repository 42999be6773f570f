/- Package-level variables that a walk knows by their cells; literals of numbers, and of structs of numbers; structs of numbers compared. -/
import Derived.Test.YtpdpjljfloanfaaDoorTile
import Derived.Test.YtpdpjljfloanfaaDoorKnG
import Derived.Laws.StructEq
import Derived.Great.BuildSlice
import Derived.LaidLaws
import Derived.Lib.LaidTab
set_option linter.all false
namespace Go.Proofs.YtpdpjljfloanfaaDoor
open Go.RowKit

/-- The cells of block g are these values. -/
def cellsF (g : Nat) (vs : List Value) : World → Prop := fun u => ∀ i v, vs[i]? = some v → u.cell? ⟨g, i, none⟩ = some v
theorem lt_of_cell {u : World} {g i : Nat} {v : Value} (h : u.cell? ⟨g, i, none⟩ = some v) : g < u.heap.size := by
  rcases Nat.lt_or_ge g u.heap.size with h1 | h1
  · exact h1
  · simp [World.cell?, Array.getElem?_eq_none h1] at h
theorem cellsF_keep {u u' : World} {B : List Nat} {g : Nat} {vs : List Value} (h : cellsF g vs u) (hk : Keep B u u') (hB : g ∉ B) : cellsF g vs u' := fun i v hv => by
  have hc := h i v hv
  rw [World.cell?_of_block (w := u) (hk.block g (lt_of_cell hc) hB)]
  exact hc
theorem cellsF_below {u u' : World} {g : Nat} {vs : List Value} (h : cellsF g vs u) (hb : Below u.heap.size u u') : cellsF g vs u' :=
  cellsF_keep (B := []) h (Keep.of_below hb) (by simp)
section
variable {w u u' : World} {R R' : List Res} {F : List (World → Prop)} {ops : Array Oper} {rest : List Oper} {o : Oper} {a : Act} {Q : Exit → Act → World → Prop} {K : Act → World → Prop}
/-- What stood there when the call began. -/
theorem Kn.arg_cells (E : Kn w R F u) {g : Nat} {vs : List Value} (h : cellsF g vs w) : Kn w R (cellsF g vs :: F) u :=
  E.fact fun u' hk i v hv => by
    have hc := h i v hv
    have hlt := lt_of_cell hc
    have hnot : g ∉ blocks R := fun hm => by
      obtain ⟨r, hr, e'⟩ := mem_blocks.1 hm
      have := (Res.range (E.res r hr) e').1
      omega
    rw [World.cell?_of_block (w := u) (hk.block g (Nat.lt_of_lt_of_le hlt E.bel.size) hnot), World.cell?_of_block (w := w) (E.bel.block g hlt)]
    exact hc
theorem kn_gload (E : Kn w R F u) (hgd : o.guard = none) {ty : TypeId} {x : Operand} (ho : o.op = .load ty x) {g i : Nat} (hx : a.eval x = .pointer (some ⟨g, i, none⟩)) {vs : List Value} (hm : cellsF g vs ∈ F) [Scal ty] {v : Value} (hv : vs[i]? = some v)
    (h : wpList Tryd.prog ops Q rest (a.put o.dst v) u) : wpList Tryd.prog ops Q (o :: rest) a u :=
  wpList_plain hgd fun _ hK => by
    have hc := E.get hm i v hv
    unfold Oper.wp execOp
    simp only [ho, hx, Instr.loadAt, Instr.sureAddr, loadVar, Sem.run_bind, Sem.run_pure, Result.andThen_ok, run_isAgg_no, Bool.false_eq_true, if_false, run_load, hc]
    exact hK _ _ h
theorem kn_gloads (E : Kn w R F u) (hgd : o.guard = none) {ty : TypeId} {x : Operand} (ho : o.op = .load ty x) {g : Nat} (hx : a.eval x = .pointer (some ⟨g, 0, none⟩)) {vs : List Value} (hm : cellsF g vs ∈ F) {m : Nat} [A : Aggr ty m] (hl : vs.length = m)
    (h : wpList Tryd.prog ops Q rest (a.put o.dst (.agg vs.toArray)) u) : wpList Tryd.prog ops Q (o :: rest) a u := by
  obtain ⟨d, hu, hd⟩ := A.desc
  refine wpList_load_mid hgd ty x ho g 0 hx vs d (fun j v hv => ?_) hu hd (by rw [A.size, hl]) h
  rw [Nat.zero_add]
  exact E.get hm j v hv
/-- A part of a block's values. -/
theorem Row.rangeV {g : Nat} {t : TypeId} {vs : List Value} (h : Row u g t vs) (p m : Nat) : u.rangeAt g p ((vs.drop p).take m) := fun j v hv => by
  rw [List.getElem?_take] at hv
  split at hv
  · rw [List.getElem?_drop] at hv
    exact h.cell (p + j) v hv
  · cases hv
theorem wp_kn_loadv (E : Kn w R F u) {ty : TypeId} {x : Operand} (ho : o.op = .load ty x) {g off : Nat} (hx : a.eval x = .pointer (some ⟨g, off, none⟩)) {t : TypeId} {vs : List Value} {m : Nat} [Sees R F g t vs] [A : Aggr ty m] {ys : List Value} (hy : (vs.drop off).take m = ys) (hl : ys.length = m)
    (h : K (a.put o.dst (.agg ys.toArray)) u) : o.wp Tryd.prog a u K Q := by
  obtain ⟨d, hu, hd⟩ := A.desc
  have hr : Row u g t vs := E.row
  subst hy
  exact wp_load_mid ty x ho g off hx _ d (hr.rangeV off m) hu hd (by rw [A.size, hl]) h
theorem kn_loadv (E : Kn w R F u) (hgd : o.guard = none) {ty : TypeId} {x : Operand} (ho : o.op = .load ty x) {g off : Nat} (hx : a.eval x = .pointer (some ⟨g, off, none⟩)) {t : TypeId} {vs : List Value} {m : Nat} [Sees R F g t vs] [A : Aggr ty m] {ys : List Value} (hy : (vs.drop off).take m = ys) (hl : ys.length = m)
    (h : wpList Tryd.prog ops Q rest (a.put o.dst (.agg ys.toArray)) u) : wpList Tryd.prog ops Q (o :: rest) a u :=
  wpList_plain hgd fun _ hK => wp_kn_loadv E ho hx hy hl (hK _ _ h)
/-- A literal of numbers in a new block. -/
theorem kn_buildi (E : Kn w R F u) (hgd : o.guard = none) {t e : TypeId} {len : Nat} {parts : Array (Nat × Operand)} (ho : o.op = .buildSlice t len parts) (zs : List Int)
    (hu : Tryd.prog.underlying t = some (.slice e)) (hsz : (Tryd.prog.info? e).map (·.size) = some 1) (hz : ((Tryd.prog.info? e).bind (·.zero)).isSome = true) (hlen : len = zs.length) (hpos : 0 < len) (hsmall : len ≤ 2 ^ 24)
    (hparts : parts.toList = (zs.zipIdx 0).map fun x => (x.2, Operand.const (Value.int .i64 x.1)))
    (h : ∀ g u', Kn w (.row g e (i64s zs) :: R) F u' → u.heap.size ≤ g → wpList Tryd.prog ops Q rest (a.put o.dst (.slice (some ⟨g, 0, none⟩) len len)) u') : wpList Tryd.prog ops Q (o :: rest) a u := by
  refine wpList_buildFlat hgd t e len parts ho .i64 zs hu hsz hz hlen hpos hsmall hparts ?_
  exact h _ _ (E.new e (i64s zs)) (Nat.le_refl _)
/-- What a call has answered in a new block. -/
theorem Kn.newrow (E : Kn w R F u) (hb : Below u.heap.size u u') {g : Nat} {t : TypeId} {vs : List Value} (hg : u.heap.size ≤ g) (hr : Row u' g t vs) : Kn w (.row g t vs :: R) F u' :=
  E.add hb (r := .row g t vs) ⟨Nat.le_trans E.bel.size hg, hr⟩ fun b e => by cases e; exact hg
end
/-- A call's answer: a new block of these values, as a slice of so many. -/
def LitC (u : World) (t : TypeId) (len : Nat) (vs : List Value) (e : Ending) (w' : World) : Prop := ∃ g, e = .returned (.slice (some ⟨g, 0, none⟩) len len) ∧ u.heap.size ≤ g ∧ Row w' g t vs ∧ Below u.heap.size u w'
end Go.Proofs.YtpdpjljfloanfaaDoor
