/- Rows of mixed cells: a part of values stored. -/
import Derived.Test.YtpdpjljfloanfaaDoorBcEq
import Derived.Test.YtpdpjljfloanfaaDoorBtVar
import Derived.Test.YtpdpjljfloanfaaDoorKnB
set_option linter.all false
namespace Go.Proofs.YtpdpjljfloanfaaDoor
open Go.RowKit

structure RowVTo (w : World) (g : Nat) (t : TypeId) (vs : List Value) (w' : World) : Prop where
  row : Row w' g t vs
  size : w'.heap.size = w.heap.size
  os : w'.os = w.os
  tape : w'.tape = w.tape
  output : w'.output = w.output
  other : ∀ k, k ≠ g → w'.heap[k]? = w.heap[k]?
theorem RowVTo.of_cells (g : Nat) (t : TypeId) : ∀ (ys vs : List Value) (o : Nat) (w : World), Row w g t vs → RowVTo w g t (spl vs o ys) (w.setCells g o ys)
  | [], vs, o, w, h => ⟨h, rfl, rfl, rfl, rfl, fun _ _ => rfl⟩
  | y :: ys, vs, o, w, h => by
    have h1 : Row (w.setCell ⟨g, o, none⟩ y) g t (vs.set o y) := h.set_ o y
    have h2 := RowVTo.of_cells g t ys (vs.set o y) (o + 1) _ h1
    have hb : Below 0 (w.setCell ⟨g, o, none⟩ y) (w.setCell ⟨g, o, none⟩ y) := Below.refl _ _
    exact ⟨h2.row, h2.size.trans (by simp), h2.os.trans rfl, h2.tape.trans rfl, h2.output.trans rfl, fun k hk => (h2.other k hk).trans (heap_setCell_other w ⟨g, o, none⟩ k _ hk)⟩
theorem Row.there_v {w : World} {g : Nat} {t : TypeId} {vs : List Value} (h : Row w g t vs) (o m : Nat) (hm : o + m ≤ vs.length) : w.there g o m := by
  intro j hj
  rw [h.cell (o + j) _ (List.getElem?_eq_getElem (by omega)), h.frozen]
  exact ⟨rfl, rfl⟩
section
variable {w u : World} {R R' : List Res} {F : List (World → Prop)} {ops : Array Oper} {rest : List Oper} {o : Oper} {a : Act} {Q : Exit → Act → World → Prop} {K : Act → World → Prop}
theorem wp_kn_storev (E : Kn w R F u) {ty : TypeId} {x y : Operand} (ho : o.op = .store ty x y) (hd : o.dst = none) {g off : Nat} (hx : a.eval x = .pointer (some ⟨g, off, none⟩)) {ys : List Value} (hy : a.eval y = .agg ys.toArray) {t : TypeId} {vs : List Value} [H : HasRow R g t vs] {m : Nat} [A : Aggr ty m] (hl : ys.length = m) (hm : off + m ≤ vs.length) (h1 : ∀ v ∈ ys, v.oneCell' = true) {vs' : List Value} (hs : spl vs off ys = vs')
    [T : Turn R (.row g t vs) (.row g t vs') R'] (h : ∀ u', Kn w R' F u' → K a u') : o.wp Tryd.prog a u K Q := by
  subst hs
  have hr := (E.res _ H.h)
  refine wp_store_mid ty x y ho g off _ hx hy (by simpa using hr.2.there_v off ys.length (by omega)) (by rw [A.size, ← hl]; simp) (all_oneCell_toArray h1) ?_
  rw [hd]
  have ht := RowVTo.of_cells g t ys vs off u hr.2
  refine h _ (E.turned (r := .row g t vs) (r' := .row g t (spl vs off ys)) ⟨ht.os, ht.tape, ht.output, Nat.le_of_eq ht.size.symm, fun k _ hk => ht.other k fun e => hk (by rw [e]; rfl)⟩ ⟨hr.1, ht.row⟩ (.inl rfl))
theorem kn_storev (E : Kn w R F u) (hgd : o.guard = none) {ty : TypeId} {x y : Operand} (ho : o.op = .store ty x y) (hd : o.dst = none) {g off : Nat} (hx : a.eval x = .pointer (some ⟨g, off, none⟩)) {ys : List Value} (hy : a.eval y = .agg ys.toArray) {t : TypeId} {vs : List Value} [H : HasRow R g t vs] {m : Nat} [A : Aggr ty m] (hl : ys.length = m) (hm : off + m ≤ vs.length) (h1 : ∀ v ∈ ys, v.oneCell' = true) {vs' : List Value} (hs : spl vs off ys = vs')
    [T : Turn R (.row g t vs) (.row g t vs') R'] (h : ∀ u', Kn w R' F u' → wpList Tryd.prog ops Q rest a u') : wpList Tryd.prog ops Q (o :: rest) a u :=
  wpList_plain hgd fun _ hK => wp_kn_storev E ho hd hx hy hl hm h1 hs fun u' E' => hK _ _ (h u' E')
end

/-- The fields of a struct, one after another, by what the comparison asks of them. -/
def eqG (d : Nat) (xs ys : Array Value) : List (Bool × TypeId × Nat) → Sem Bool
  | [] => pure true
  | (b, t, o) :: fs => if b = true then do
      let x ← part t xs o
      let y ← part t ys o
      let r ← Op.equalIn d t x y
      if (!r) = true then pure false else eqG d xs ys fs
    else eqG d xs ys fs
theorem eqFields_eqG (d : Nat) (xs ys : Array Value) : ∀ fs : List Field, Op.eqFields d xs ys fs = eqG d xs ys (fs.map fun f => (decide (f.name ≠ "_"), f.type, f.offset))
  | [] => rfl
  | f :: fs => by
    rw [Op.eqFields, List.map_cons, eqG, eqFields_eqG d xs ys fs]
    simp only [decide_eq_true_eq]
theorem eqG_self {d : Nat} {xs : Array Value} {t : TypeId} {o : Nat} {v : Value} (fs : List (Bool × TypeId × Nat)) (w : World) (hp : (part t xs o).run Tryd.prog w = .ok v w) (he : (Op.equalIn d t v v).run Tryd.prog w = .ok true w) :
    (eqG d xs xs ((true, t, o) :: fs)).run Tryd.prog w = (eqG d xs xs fs).run Tryd.prog w := by
  simp only [eqG, if_true, Sem.run_bind, Result.andThen_ok, hp, he, Bool.not_true, Bool.false_eq_true, if_false]
theorem part_scal {xs : Array Value} {t : TypeId} [S : Scal t] {i : Nat} {v : Value} (w : World) (hx : xs[i]? = some v) : (part t xs i).run Tryd.prog w = .ok v w := by
  have h := run_isAgg_no (ty := t) w
  simp [part, h, hx]
theorem part_agg {xs : List Value} {t : TypeId} {m : Nat} [S : Aggr t m] {i : Nat} {ys : List Value} (w : World) (hy : (xs.drop i).take m = ys) : (part t xs.toArray i).run Tryd.prog w = .ok (.agg ys.toArray) w := by
  obtain ⟨d, hu, hd⟩ := S.desc
  have hs := S.size
  have h1 : (isAgg t).run Tryd.prog w = .ok true w := by
    unfold isAgg
    rw [Sem.run_bind, run_underlying hu w]
    cases d <;> simp_all [TypeDesc.isRow]
  cases hq : Tryd.prog.info? t with
  | none => simp [hq] at hs
  | some inf =>
    have hz : inf.size = m := by simpa [hq] using hs
    subst hy
    simp [part, h1, sizeOf, typeInfo, hq, hz, List.extract_toArray, List.extract_eq_take_drop]
end Go.Proofs.YtpdpjljfloanfaaDoor
