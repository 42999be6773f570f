/- Arrays of numbers, and arrays of such arrays, as values and in blocks: an element, a whole row, a row in the middle. -/
import Derived.Test.YtpdpjljfloanfaaDoorProg
import Derived.Test.YtpdpjljfloanfaaDoorInts
import Derived.Test.YtpdpjljfloanfaaDoorRowBytes
import Derived.Deep.MidRow
set_option linter.all false
namespace Go.Proofs.YtpdpjljfloanfaaDoor
open Go.RowKit

/-- An array of numbers, by value. -/
abbrev arr (zs : List Int) : Value := .agg (i64s zs).toArray

theorem i64s_drop (zs : List Int) (k : Nat) : i64s (zs.drop k) = (i64s zs).drop k := by simp [i64s, List.map_drop]
theorem i64s_take (zs : List Int) (k : Nat) : i64s (zs.take k) = (i64s zs).take k := by simp [i64s, List.map_take]

/-- A number of an array by value. -/
theorem run_index_i64 {P : Program} (t e : TypeId) (n : Nat) (hu : P.underlying t = some (.array n e)) (he : P.underlying e = some (.int .i64)) (hs : (P.info? e).map (·.size) = some 1) (zs : List Int) (i : Nat) (hi : i < n) (hn : zs.length = n) (w : World) :
    (Instr.index t (arr zs) (.int .i64 (i : Int))).run P w = .ok (.int .i64 (zs.getD i 0)) w := by
  cases hq : P.info? e with
  | none => simp [hq] at hs
  | some inf =>
    have hz : inf.size = 1 := by simpa [hq] using hs
    have hx : zs[i]? = some (zs[i]'(by omega)) := List.getElem?_eq_getElem (by omega)
    have hc : (0 : Int) ≤ (i : Int) ∧ (i : Int) < (n : Int) := by omega
    simp [Instr.index, run_underlying hu, run_underlying he, asIntOf, hc, go_sem, sizeOf, typeInfo, hq, hz, part, isAgg, arr, i64s, hx]
    omega

/-- An array of an array of arrays by value. -/
theorem run_index_row {P : Program} (t e f : TypeId) (n m : Nat) (hu : P.underlying t = some (.array n e)) (he : P.underlying e = some (.array m f)) (hs : (P.info? e).map (·.size) = some m) (zs : List Int) (i : Nat) (hi : i < n) (hn : zs.length = n * m) (w : World) :
    (Instr.index t (arr zs) (.int .i64 (i : Int))).run P w = .ok (arr ((zs.drop (i * m)).take m)) w := by
  cases hq : P.info? e with
  | none => simp [hq] at hs
  | some inf =>
    have hz : inf.size = m := by simpa [hq] using hs
    have hc : (0 : Int) ≤ (i : Int) ∧ (i : Int) < (n : Int) := by omega
    simp [Instr.index, run_underlying hu, run_underlying he, asIntOf, hc, go_sem, sizeOf, typeInfo, hq, hz, part, isAgg, arr]
    rw [if_pos hi, i64s_take, i64s_drop]

/-- Some values put over those of a list, from a place on. -/
def spl {α : Type} (zs : List α) (o : Nat) : List α → List α
  | [] => zs
  | y :: ys => spl (zs.set o y) (o + 1) ys
theorem spl_length {α : Type} (ys : List α) : ∀ (zs : List α) (o : Nat), (spl zs o ys).length = zs.length := by
  induction ys with
  | nil => intros; rfl
  | cons y ys ih => intro zs o; simp [spl, ih]
theorem spl_get {α : Type} (ys : List α) : ∀ (zs : List α) (o j : Nat), o + ys.length ≤ zs.length → (spl zs o ys)[j]? = if o ≤ j ∧ j < o + ys.length then ys[j - o]? else zs[j]? := by
  induction ys with
  | nil => intro zs o j _; simp [spl]; omega
  | cons y ys ih =>
    intro zs o j h
    simp only [List.length_cons] at h ⊢
    rw [spl, ih _ _ _ (by simp; omega)]
    by_cases h1 : j = o
    · subst h1
      rw [if_neg (by omega), if_pos (by omega)]
      have : j < zs.length := by omega
      simp [List.getElem?_set, this]
    · by_cases h2 : o + 1 ≤ j ∧ j < o + 1 + ys.length
      · rw [if_pos h2, if_pos (by omega), show j - o = (j - (o + 1)) + 1 from by omega]
        simp
      · rw [if_neg h2, if_neg (by omega)]
        simp only [List.getElem?_set]
        rw [if_neg (by omega)]
theorem spl_getD (ys zs : List Int) (o j : Nat) (h : o + ys.length ≤ zs.length) : (spl zs o ys).getD j 0 = if o ≤ j ∧ j < o + ys.length then ys.getD (j - o) 0 else zs.getD j 0 := by
  rw [List.getD_eq_getElem?_getD, spl_get ys zs o j h]
  split <;> rw [List.getD_eq_getElem?_getD]
theorem spl_all {α : Type} (ys zs : List α) (h : ys.length = zs.length) : spl zs 0 ys = ys := by
  apply List.ext_getElem?
  intro j
  rw [spl_get _ _ _ _ (by omega)]
  split
  · simp
  · rw [List.getElem?_eq_none (by omega), List.getElem?_eq_none (by omega)]
theorem i64s_spl (ys : List Int) : ∀ (zs : List Int) (o : Nat), spl (i64s zs) o (i64s ys) = i64s (spl zs o ys) := by
  induction ys with
  | nil => intros; rfl
  | cons y ys ih =>
    intro zs o
    show spl ((i64s zs).set o (.int .i64 y)) (o + 1) (i64s ys) = i64s (spl (zs.set o y) (o + 1) ys)
    rw [i64s_set, ih]

/-- What stores into block g leave. -/
structure RowTo (w : World) (g : Nat) (t : TypeId) (zs : List Int) (w' : World) : Prop where
  row : Row w' g t (i64s zs)
  size : w'.heap.size = w.heap.size
  below : ∀ B a, B ≤ g → Below B a w → Below B a w'
  other : ∀ k, k ≠ g → w'.heap[k]? = w.heap[k]?
theorem RowTo.keep {w w' : World} {g : Nat} {t : TypeId} {zs : List Int} (h : RowTo w g t zs w') {k : Nat} {u : TypeId} {vs : List Value} (hk : k ≠ g) (hr : Row w k u vs) : Row w' k u vs := (h.other k hk).trans hr
theorem RowTo.of_cells (g : Nat) (t : TypeId) : ∀ (ys zs : List Int) (o : Nat) (w : World), Row w g t (i64s zs) → RowTo w g t (spl zs o ys) (w.setCells g o (i64s ys))
  | [], zs, o, w, h => ⟨h, rfl, fun _ _ _ h => h, fun _ _ => rfl⟩
  | y :: ys, zs, o, w, h => by
    have h1 : Row (w.setCell ⟨g, o, none⟩ (.int .i64 y)) g t (i64s (zs.set o y)) := by
      have := h.set_ o (.int .i64 y)
      rwa [i64s_set] at this
    have h2 := RowTo.of_cells g t ys (zs.set o y) (o + 1) _ h1
    exact ⟨h2.row, h2.size.trans (by simp), fun B a hB hb => h2.below B a hB (hb.setCell hB _), fun k hk => (h2.other k hk).trans (heap_setCell_other w ⟨g, o, none⟩ k _ hk)⟩

section
variable {P : Program} {w : World}
theorem Row.range {g : Nat} {t : TypeId} {zs : List Int} (h : Row w g t (i64s zs)) (o m : Nat) : w.rangeAt g o (i64s ((zs.drop o).take m)) := by
  intro j v hv
  refine h.cell (o + j) v ?_
  rw [i64s_take, i64s_drop, List.getElem?_take] at hv
  split at hv
  · rwa [List.getElem?_drop] at hv
  · cases hv
theorem Row.there_ {g : Nat} {t : TypeId} {zs : List Int} (h : Row w g t (i64s zs)) (o m : Nat) (hm : o + m ≤ zs.length) : w.there g o m := by
  intro j hj
  rw [h.cell (o + j) _ (i64s_get zs (o + j) (by omega)), h.frozen]
  exact ⟨rfl, rfl⟩

/-- A whole array out of its block. -/
theorem wpList_load_ints {ops : Array Oper} {rest : List Oper} {o : Oper} {a : Act} {Q : Exit → Act → World → Prop} (hgd : o.guard = none) (ty : TypeId) (x : Operand) (ho : o.op = .load ty x)
    (g : Nat) (hx : a.eval x = .pointer (some ⟨g, 0, none⟩)) (t : TypeId) (zs : List Int) (n : Nat) (e : TypeId) (hg : Row w g t (i64s zs))
    (hu : P.underlying ty = some (.array n e)) (hi : (P.info? ty).map (·.size) = some zs.length)
    (h : wpList P ops Q rest (a.put o.dst (arr zs)) w) : wpList P ops Q (o :: rest) a w :=
  wpList_load_row hgd ty x ho g hx t _ (0, 0) _ hg hu rfl (by simpa [i64s] using hi) h
/-- The same where the operation is guarded. -/
theorem wpList_wanted {ops : Array Oper} {rest : List Oper} {o : Oper} {a : Act} {Q : Exit → Act → World → Prop} (hw : Region.wanted o (yielded ops a.tmps) = true)
    (h : ∀ K : Act → World → Prop, (∀ a w, wpList P ops Q rest a w → K a w) → o.wp P a w K Q) : wpList P ops Q (o :: rest) a w :=
  wpList_step fun K hK => by rw [if_pos hw]; exact h K hK
theorem wpList_load_ints_if {ops : Array Oper} {rest : List Oper} {o : Oper} {a : Act} {Q : Exit → Act → World → Prop} (hw : Region.wanted o (yielded ops a.tmps) = true) (ty : TypeId) (x : Operand) (ho : o.op = .load ty x)
    (g : Nat) (hx : a.eval x = .pointer (some ⟨g, 0, none⟩)) (t : TypeId) (zs : List Int) (n : Nat) (e : TypeId) (hg : Row w g t (i64s zs))
    (hu : P.underlying ty = some (.array n e)) (hi : (P.info? ty).map (·.size) = some zs.length)
    (h : wpList P ops Q rest (a.put o.dst (arr zs)) w) : wpList P ops Q (o :: rest) a w :=
  wpList_wanted hw fun _ hK => wp_load_row ty x ho g hx t _ (0, 0) _ hg hu rfl (by simpa [i64s] using hi) (hK _ _ h)
/-- An array out of the middle of a block. -/
theorem wpList_load_part {ops : Array Oper} {rest : List Oper} {o : Oper} {a : Act} {Q : Exit → Act → World → Prop} (hgd : o.guard = none) (ty : TypeId) (x : Operand) (ho : o.op = .load ty x)
    (g off : Nat) (hx : a.eval x = .pointer (some ⟨g, off, none⟩)) (t : TypeId) (zs : List Int) (n m : Nat) (e : TypeId) (hg : Row w g t (i64s zs)) (hm : off + m ≤ zs.length)
    (hu : P.underlying ty = some (.array n e)) (hi : (P.info? ty).map (·.size) = some m)
    (h : wpList P ops Q rest (a.put o.dst (arr ((zs.drop off).take m))) w) : wpList P ops Q (o :: rest) a w :=
  wpList_load_mid hgd ty x ho g off hx _ _ (hg.range off m) hu rfl (by rw [hi, i64s_length, List.length_take, List.length_drop]; congr 1; omega) h
/-- An array into a block, from a place on. -/
theorem wpList_store_part {ops : Array Oper} {rest : List Oper} {o : Oper} {a : Act} {Q : Exit → Act → World → Prop} (hgd : o.guard = none) (ty : TypeId) (x y : Operand) (ho : o.op = .store ty x y) (hd : o.dst = none)
    (g off : Nat) (hx : a.eval x = .pointer (some ⟨g, off, none⟩)) (ys : List Int) (hy : a.eval y = arr ys) (t : TypeId) (zs : List Int) (hg : Row w g t (i64s zs))
    (hi : (P.info? ty).map (·.size) = some ys.length) (hm : off + ys.length ≤ zs.length)
    (h : ∀ w', RowTo w g t (spl zs off ys) w' → wpList P ops Q rest a w') : wpList P ops Q (o :: rest) a w := by
  refine wpList_store_mid hgd ty x y ho g off _ hx hy (by simpa [i64s_length] using hg.there_ off ys.length hm) (by simpa [i64s] using hi) (all_oneCell_toArray (i64s_one ys)) ?_
  rw [hd]
  exact h _ (RowTo.of_cells g t ys zs off w hg)
/-- A whole array into its block. -/
theorem wpList_store_ints {ops : Array Oper} {rest : List Oper} {o : Oper} {a : Act} {Q : Exit → Act → World → Prop} (hgd : o.guard = none) (ty : TypeId) (x y : Operand) (ho : o.op = .store ty x y) (hd : o.dst = none)
    (g : Nat) (hx : a.eval x = .pointer (some ⟨g, 0, none⟩)) (ys : List Int) (hy : a.eval y = arr ys) (t : TypeId) (zs : List Int) (hg : Row w g t (i64s zs))
    (hi : (P.info? ty).map (·.size) = some ys.length) (hm : ys.length = zs.length)
    (h : ∀ w', RowTo w g t ys w' → wpList P ops Q rest a w') : wpList P ops Q (o :: rest) a w :=
  wpList_store_part hgd ty x y ho hd g 0 hx ys hy t zs hg hi (by omega) (by rw [spl_all ys zs hm]; exact h)
/-- A result that lies in a block. -/
theorem results_ints {fn : Func} {p : Tmp} {ty : TypeId} (h : fn.results = #[.cell p ty]) (tmps : Array Value) (g : Nat) (t : TypeId) (zs : List Int) (n : Nat) (e : TypeId)
    (hp : tmps.getD p undef = .pointer (some ⟨g, 0, none⟩)) (hg : Row w g t (i64s zs)) (hu : P.underlying ty = some (.array n e)) (hi : (P.info? ty).map (·.size) = some zs.length) :
    (results fn tmps).run P w = .ok (arr zs) w :=
  results_cell_row h tmps w g t _ (0, 0) _ hp hg hu rfl (by simpa [i64s] using hi)
end
theorem Row.newInts (w : World) (t : TypeId) (zs : List Int) : Row (w.alloc (.cells (i64s zs).toArray t)) w.heap.size t (i64s zs) := Row.new w t _
theorem Row.zero4 (w : World) (t : TypeId) : Row (w.alloc (.cells #[.int .i64 0, .int .i64 0, .int .i64 0, .int .i64 0] t)) w.heap.size t (i64s [0, 0, 0, 0]) := Row.newInts w t [0, 0, 0, 0]
theorem Row.old {w : World} {g : Nat} {t : TypeId} {vs : List Value} (h : Row w g t vs) (o : Obj) : Row (w.alloc o) g t vs := (Below.heap_alloc w o g h.lt).trans h
theorem Row.int {w : World} {g : Nat} {t : TypeId} {zs : List Int} (h : Row w g t (i64s zs)) (i : Nat) (hi : i < zs.length) : w.cell? ⟨g, i, none⟩ = some (.int .i64 (zs.getD i 0)) := h.cell i _ (i64s_get zs i hi)
end Go.Proofs.YtpdpjljfloanfaaDoor
