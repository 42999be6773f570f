/- Results, and drawn regions, by what a walk knows. -/
import Derived.Test.YtpdpjljfloanfaaDoorTy
import Derived.Test.YtpdpjljfloanfaaDoorHeld
import Derived.Deep.MidRow
set_option linter.all false
namespace Go.Proofs.YtpdpjljfloanfaaDoor
open Go.RowKit

section
variable {w u : World} {R R' : List Res} {F : List (World → Prop)}
theorem run_loadVar_kn (E : Kn w R F u) {ty : TypeId} {g : Nat} {t : TypeId} {vs : List Value} {m : Nat} [Sees R F g t vs] [A : Aggr ty m] (hl : vs.length = m) : (loadVar ty ⟨g, 0, none⟩).run Tryd.prog u = .ok (.agg vs.toArray) u := by
  obtain ⟨d, hu, hd⟩ := A.desc
  exact run_loadVar_row u g t ty vs.toArray (0, 0) d E.row hu (by cases d <;> simp_all [TypeDesc.isRow]) (by rw [A.size, ← hl]; simp)
theorem run_loadVar_kn1 (E : Kn w R F u) {ty : TypeId} {g i : Nat} {t : TypeId} {vs : List Value} {v : Value} [Sees R F g t vs] [A : Scal ty] (hv : vs[i]? = some v) : (loadVar ty ⟨g, i, none⟩).run Tryd.prog u = .ok v u := by
  have hc := E.cell g i hv
  simp only [loadVar, Sem.run_bind, run_isAgg_no, Result.andThen_ok, Bool.false_eq_true, if_false, run_load, hc]
theorem results_kn2 (E : Kn w R F u) {fn : Func} {p q : Tmp} {ty : TypeId} (h : fn.results = #[.cell p ty, .tmp q]) (tmps : Array Value) {g : Nat} (hp : tmps.getD p undef = .pointer (some ⟨g, 0, none⟩)) {t : TypeId} {vs : List Value} {m : Nat} [Sees R F g t vs] [A : Aggr ty m] (hl : vs.length = m) :
    (results fn tmps).run Tryd.prog u = .ok (.tuple #[.agg vs.toArray, tmps.getD q undef]) u := by
  have hp' : tmps[p]?.getD undef = .pointer (some ⟨g, 0, none⟩) := by simpa using hp
  simp [results, h, hp', asAddr, run_loadVar_kn E hl]
theorem results_kn (E : Kn w R F u) {fn : Func} {p : Tmp} {ty : TypeId} (h : fn.results = #[.cell p ty]) (tmps : Array Value) {g : Nat} (hp : tmps.getD p undef = .pointer (some ⟨g, 0, none⟩)) {t : TypeId} {vs : List Value} {m : Nat} [Sees R F g t vs] [A : Aggr ty m] (hl : vs.length = m) :
    (results fn tmps).run Tryd.prog u = .ok (.agg vs.toArray) u := by
  have hp' : tmps[p]?.getD undef = .pointer (some ⟨g, 0, none⟩) := by simpa using hp
  simp [results, h, hp', asAddr, run_loadVar_kn E hl]
theorem results_kn1 (E : Kn w R F u) {fn : Func} {p : Tmp} {ty : TypeId} (h : fn.results = #[.cell p ty]) (tmps : Array Value) {g : Nat} (hp : tmps.getD p undef = .pointer (some ⟨g, 0, none⟩)) {t : TypeId} {v : Value} [Sees R F g t [v]] [A : Scal ty] :
    (results fn tmps).run Tryd.prog u = .ok v u := by
  have hp' : tmps[p]?.getD undef = .pointer (some ⟨g, 0, none⟩) := by simpa using hp
  simp [results, h, hp', asAddr, show (loadVar ty ⟨g, 0, none⟩).run Tryd.prog u = .ok v u from run_loadVar_kn1 E (t := t) (vs := [v]) rfl]

/-! Loads inside a drawn region. -/
theorem yield_load {ops : Array Oper} {o : Oper} {a : Act} (hw : Region.wanted o (yielded ops a.tmps) = true) {ty : TypeId} {x : Operand} (ho : o.op = .load ty x) {g i : Nat} (hx : a.eval x = .pointer (some ⟨g, i, none⟩)) {t : TypeId} {vs : List Value} [Sees R F g t vs] [Scal ty] {v : Value} (hv : vs[i]? = some v) :
    YieldsIf Tryd.prog ops (Kn w R F) o v a :=
  .inl ⟨hw, fun u E => by
    unfold execOp
    simp only [ho, hx, Instr.loadAt, Instr.sureAddr, Sem.run_bind, Sem.run_pure, Result.andThen_ok, run_loadVar_kn1 E hv]⟩
theorem yield_loads {ops : Array Oper} {o : Oper} {a : Act} (hw : Region.wanted o (yielded ops a.tmps) = true) {ty : TypeId} {x : Operand} (ho : o.op = .load ty x) {g : Nat} (hx : a.eval x = .pointer (some ⟨g, 0, none⟩)) {t : TypeId} {vs : List Value} {m : Nat} [Sees R F g t vs] [Aggr ty m] (hl : vs.length = m) :
    YieldsIf Tryd.prog ops (Kn w R F) o (.agg vs.toArray) a :=
  .inl ⟨hw, fun u E => by
    unfold execOp
    simp only [ho, hx, Instr.loadAt, Instr.sureAddr, Sem.run_bind, Sem.run_pure, Result.andThen_ok, run_loadVar_kn E hl]⟩
theorem yield_loadp {ops : Array Oper} {o : Oper} {a : Act} (hw : Region.wanted o (yielded ops a.tmps) = true) {ty : TypeId} {x : Operand} (ho : o.op = .load ty x) {g off : Nat} (hx : a.eval x = .pointer (some ⟨g, off, none⟩)) {t : TypeId} {zs : List Int} {m : Nat} [Sees R F g t (i64s zs)] [A : Aggr ty m] (hl : off + m ≤ zs.length) :
    YieldsIf Tryd.prog ops (Kn w R F) o (arr ((zs.drop off).take m)) a := by
  obtain ⟨d, hu, hd⟩ := A.desc
  exact yieldsIf_load_mid hw ty x ho g off hx _ d (fun u E => Row.range (Sees.h E) off m) hu hd (by rw [A.size, i64s_length, List.length_take, List.length_drop, Nat.min_eq_left (by omega)])

theorem yield_loadi {ops : Array Oper} {o : Oper} {a : Act} (hw : Region.wanted o (yielded ops a.tmps) = true) {ty : TypeId} {x : Operand} (ho : o.op = .load ty x) {g i : Nat} (hx : a.eval x = .pointer (some ⟨g, i, none⟩)) {t : TypeId} {zs : List Int} [Sees R F g t (i64s zs)] [Scal ty] (hi : i < zs.length) :
    YieldsIf Tryd.prog ops (Kn w R F) o (.int .i64 (zs.getD i 0)) a := yield_load hw ho hx (i64s_get zs i hi)
theorem yield_loadu {ops : Array Oper} {o : Oper} {a : Act} (hw : Region.wanted o (yielded ops a.tmps) = true) {ty : TypeId} {x : Operand} (ho : o.op = .load ty x) {g i : Nat} (hx : a.eval x = .pointer (some ⟨g, i, none⟩)) {t : TypeId} {zs : List Nat} [Sees R F g t (u8s zs)] [Scal ty] (hi : i < zs.length) :
    YieldsIf Tryd.prog ops (Kn w R F) o (.int .u8 ((zs.getD i 0 : Nat) : Int)) a := yield_load hw ho hx (u8s_getElem? zs i hi)

/-! A row that the call has made by append, known by its block: its elements read and written. -/
class HasOwnAt (R : List Res) (g : Nat) (n cap : outParam Nat) (e : outParam TypeId) (size : outParam Nat) (xs : outParam (List Value)) : Prop where
  h : Res.own e size (.slice (some ⟨g, 0, none⟩) n cap) n xs ∈ R
instance {r : Res} {g n cap : Nat} {e : TypeId} {size : Nat} {xs : List Value} [H : HasOwnAt R g n cap e size xs] : HasOwnAt (r :: R) g n cap e size xs := ⟨List.mem_cons_of_mem _ H.h⟩
instance {g n cap : Nat} {e : TypeId} {size : Nat} {xs : List Value} : HasOwnAt (.own e size (.slice (some ⟨g, 0, none⟩) n cap) n xs :: R) g n cap e size xs := ⟨List.mem_cons_self⟩
theorem own_cell {B g n cap size : Nat} {e : TypeId} {xs : List Value} (h : u.ownsRow B e size (.slice (some ⟨g, 0, none⟩) n cap) n xs) {i : Nat} {v : Value} (hv : xs[i]? = some v) : u.cell? ⟨g, i, none⟩ = some v := by
  rcases h.2 with ⟨h0, _⟩ | ⟨g', cap', cur, hv', _, hh, _, _, _, ht⟩
  · cases h0
  · have e : g' = g := by injection hv' with a; injection a with a; injection a with a; exact a.symm
    subst e
    rw [cell_of_row u g' i cur _ (0, 0) hh]
    rw [← ht, List.getElem?_take] at hv
    split at hv
    · simpa using hv
    · cases hv
theorem own_set {B g n cap size : Nat} {e : TypeId} {xs : List Value} (h : u.ownsRow B e size (.slice (some ⟨g, 0, none⟩) n cap) n xs) {i : Nat} (hi : i < xs.length) (v : Value) : (u.setCell ⟨g, i, none⟩ v).ownsRow B e size (.slice (some ⟨g, 0, none⟩) n cap) n (xs.set i v) ∧ u.frozen? ⟨g, i, none⟩ = false := by
  rcases h.2 with ⟨h0, _⟩ | ⟨g', cap', cur, hv', hb, hh, h1, h2, h3, ht⟩
  · cases h0
  · have e1 : g' = g := by injection hv' with a; injection a with a; injection a with a; exact a.symm
    have e2 : cap' = cap := by injection hv' with _ _ a; exact a.symm
    subst e1 e2
    refine ⟨⟨by rw [List.length_set]; exact h.1, .inr ⟨g', cap', cur.setIfInBounds i v, rfl, hb, ?_, h1, h2, by simpa using h3, ?_⟩⟩, by simp [World.frozen?, hh]⟩
    · simp [World.setCell, Array.getElem?_modify, hh]
    · rw [← ht, Array.toList_setIfInBounds, List.take_set]
section
variable {ops : Array Oper} {rest : List Oper} {o : Oper} {a : Act} {Q : Exit → Act → World → Prop} {K : Act → World → Prop}
theorem wp_kn_loado (E : Kn w R F u) {ty : TypeId} {x : Operand} (ho : o.op = .load ty x) {g i : Nat} (hx : a.eval x = .pointer (some ⟨g, i, none⟩)) {n cap size : Nat} {e : TypeId} {xs : List Value} [H : HasOwnAt R g n cap e size xs] [Scal ty] {v : Value} (hv : xs[i]? = some v)
    (h : K (a.put o.dst v) u) : o.wp Tryd.prog a u K Q := by
  have hc := own_cell (E.res _ H.h) hv
  unfold Oper.wp execOp
  simp only [ho, hx, Instr.loadAt, Instr.sureAddr, loadVar, Sem.run_bind, Sem.run_pure, Result.andThen_ok, run_isAgg_no, Bool.false_eq_true, if_false, run_load, hc]
  exact h
theorem kn_loado (E : Kn w R F u) (hgd : o.guard = none) {ty : TypeId} {x : Operand} (ho : o.op = .load ty x) {g i : Nat} (hx : a.eval x = .pointer (some ⟨g, i, none⟩)) {n cap size : Nat} {e : TypeId} {xs : List Value} [H : HasOwnAt R g n cap e size xs] [Scal ty] {v : Value} (hv : xs[i]? = some v)
    (h : wpList Tryd.prog ops Q rest (a.put o.dst v) u) : wpList Tryd.prog ops Q (o :: rest) a u :=
  wpList_plain hgd fun _ hK => wp_kn_loado E ho hx hv (hK _ _ h)
/-- A byte into such a row. -/
theorem wp_kn_storeo (E : Kn w R F u) {ty : TypeId} {x y : Operand} (ho : o.op = .store ty x y) (hd : o.dst = none) {g i : Nat} (hx : a.eval x = .pointer (some ⟨g, i, none⟩)) {z : Nat} (hy : a.eval y = .int .u8 (z : Int)) {n cap size : Nat} {e : TypeId} {zs : List Nat} [H : HasOwnAt R g n cap e size (u8s zs)] [S : Scal ty] (hi : i < zs.length)
    [T : Turn R (.own e size (.slice (some ⟨g, 0, none⟩) n cap) n (u8s zs)) (.own e size (.slice (some ⟨g, 0, none⟩) n cap) n (u8s (zs.set i z))) R'] (h : ∀ u', Kn w R' F u' → K a u') : o.wp Tryd.prog a u K Q := by
  have hr := E.res _ H.h
  have hcell := own_cell hr (u8s_getElem? zs i hi)
  obtain ⟨hset, hfr⟩ := own_set hr (i := i) (by rw [u8s_length]; exact hi) (.int .u8 (z : Int))
  have hk : (storeVar ty ⟨g, i, none⟩ (.int .u8 (z : Int))).run Tryd.prog u = .ok () (u.setCell ⟨g, i, none⟩ (.int .u8 (z : Int))) := by
    have hs := S.size
    cases hq : Tryd.prog.info? ty with
    | none => simp [hq] at hs
    | some inf =>
      have hz : inf.size = 1 := by simpa [hq] using hs
      simp [storeVar, sizeOf, typeInfo, hq, Value.cells, hz, storeCells, run_store _ _ _ (.int .u8 (z : Int)) _ rfl, add_at', show (⟨g, i, none⟩ : Addr).add 0 = ⟨g, i, none⟩ from by unfold Addr.add; split <;> simp_all, hcell, hfr]
  unfold Oper.wp execOp
  simp only [ho, hx, hy, Instr.storeAt, Instr.sureAddr, Sem.run_bind, Sem.run_pure, Result.andThen_ok, hk]
  show K (a.put o.dst undef) _
  rw [hd]
  refine h _ (E.turned (r := .own e size (.slice (some ⟨g, 0, none⟩) n cap) n (u8s zs)) (r' := .own e size (.slice (some ⟨g, 0, none⟩) n cap) n (u8s (zs.set i z))) (grown_set' u ⟨g, i, none⟩ _) ?_ (.inl rfl))
  rw [u8s_set] at hset
  exact hset
theorem kn_storeo (E : Kn w R F u) (hgd : o.guard = none) {ty : TypeId} {x y : Operand} (ho : o.op = .store ty x y) (hd : o.dst = none) {g i : Nat} (hx : a.eval x = .pointer (some ⟨g, i, none⟩)) {z : Nat} (hy : a.eval y = .int .u8 (z : Int)) {n cap size : Nat} {e : TypeId} {zs : List Nat} [H : HasOwnAt R g n cap e size (u8s zs)] [S : Scal ty] (hi : i < zs.length)
    [T : Turn R (.own e size (.slice (some ⟨g, 0, none⟩) n cap) n (u8s zs)) (.own e size (.slice (some ⟨g, 0, none⟩) n cap) n (u8s (zs.set i z))) R'] (h : ∀ u', Kn w R' F u' → wpList Tryd.prog ops Q rest a u') : wpList Tryd.prog ops Q (o :: rest) a u :=
  wpList_plain hgd fun _ hK => wp_kn_storeo E ho hd hx hy hi fun u' E' => hK _ _ (h u' E')
/-- A slice literal of no element. -/
theorem wp_kn_build0 (E : Kn w R F u) {t e : TypeId} (ho : o.op = .buildSlice t 0 #[]) (hu : Tryd.prog.underlying t = some (.slice e)) {z : Value} {bytes size : Nat} (hinfo : (Tryd.prog.info? e).map (fun i => (i.zero, i.size, i.bytes)) = some (some z, size, bytes))
    (h : ∀ g u', Kn w (.own e size (.slice (some ⟨g, 0, none⟩) 0 0) 0 [] :: R) F u' → K (a.put o.dst (.slice (some ⟨g, 0, none⟩) 0 0)) u') : o.wp Tryd.prog a u K Q := by
  obtain ⟨i, hi, hz0, hz1, hz2⟩ := info_parts hinfo
  unfold Oper.wp execOp
  simp [ho, Instr.buildSlice, run_underlying hu, sizeOf, typeInfo, zeroValue, hi, hz0, Instr.fill, newRow]
  rw [show (Array.map (fun _ : Nat => (default : Value)) (Array.range 0)) = #[] from by simp [Array.range]]
  refine h u.heap.size _ (E.add (r := .own e size (.slice (some ⟨u.heap.size, 0, none⟩) 0 0) 0 []) (Below.box' u _) ⟨by simp, .inr ⟨u.heap.size, 0, #[], rfl, E.bel.size, heap_alloc_new u _, Nat.le_refl _, by simp [maxLen], by simp, by simp⟩⟩ fun b hb => by cases hb; exact Nat.le_refl _)
theorem wp_kn_build0b (E : Kn w R F u) {t e : TypeId} (ho : o.op = .buildSlice t 0 #[]) (hu : Tryd.prog.underlying t = some (.slice e)) {z : Value} {bytes size : Nat} (hinfo : (Tryd.prog.info? e).map (fun i => (i.zero, i.size, i.bytes)) = some (some z, size, bytes))
    (h : ∀ g u', Kn w (.own e size (.slice (some ⟨g, 0, none⟩) 0 0) 0 (u8s []) :: R) F u' → K (a.put o.dst (.slice (some ⟨g, 0, none⟩) 0 0)) u') : o.wp Tryd.prog a u K Q := wp_kn_build0 E ho hu hinfo h
/-- 'append' at the single operation: what is appended reads as bytes. -/
theorem wp_kn_appendb (E : Kn w R F u) {s x : Operand} {t : TypeId} (ho : o.op = .call { callee := .builtin .append, args := #[s, x], argTypes := #[t, t] })
    {v : Value} {n : Nat} {xs : List Nat} {e : TypeId} [H : HasOwnAny R v e 1 n (u8s xs)] (hs : a.eval s = v) [P : Pull R (.own e 1 v n (u8s xs)) R'] (ht : Tryd.prog.underlying t = some (.slice e))
    (hinfo : (Tryd.prog.info? e).map (fun i => (i.zero, i.size, i.bytes)) = some (some (.int .u8 0), 1, 1))
    {A : Option Addr} {m c : Nat} (hx : a.eval x = .slice A m c) {ys : List Nat} (hr : Bs u u.heap.size A m ys) (hn : n + m ≤ 140737488355328) (hm : 0 < m)
    (h : ∀ v' u', Kn w (.own e 1 v' (n + m) (u8s (xs ++ ys)) :: R') F u' → K (a.put o.dst v') u') : o.wp Tryd.prog a u K Q := by
  obtain ⟨i, hi, hz0, hz1, hz2⟩ := info_parts hinfo
  obtain ⟨b, off, rfl, _, hc⟩ := hr.2.2 hm
  obtain ⟨v', u', hrun, h2, h3, h4, h5⟩ := run_append_own_at (P := Tryd.prog) u w.heap.size t o.type e i (.int .u8 0) 1 1 ht hi hz0 hz1 hz2 rfl (by decide) v n (u8s xs) (E.res _ H.h) ⟨b, off, none⟩ m c (u8s ys) (by rw [u8s_length, hr.1]; omega)
    (fun j y hy => by
      have hj : j < ys.length := by
        rcases Nat.lt_or_ge j ys.length with h' | h'
        · exact h'
        · rw [List.getElem?_eq_none (by rw [u8s_length]; exact h')] at hy; cases hy
      rw [u8s_getElem? ys j hj] at hy
      cases hy
      rw [show (⟨b, off, none⟩ : Addr).add j = ⟨b, off + j, none⟩ from by unfold Addr.add; split <;> simp_all]
      exact hc j (by rw [← hr.1]; exact hj)) (u8s_one ys) (by unfold maxLen; omega) (by omega) E.bel.size
  unfold Oper.wp execOp
  simp only [ho, resolve, invoke, builtin, Sem.run_bind, Sem.run_pure, Result.andThen_ok, List.map_toArray, List.map_cons, List.map_nil, hs, hx, hrun]
  obtain ⟨R1, R2, rfl, rfl⟩ := P.h
  refine h v' u' (Kn.perm (E.turn (r' := .own e 1 v' (n + m) (u8s (xs ++ ys))) h3 (by rw [u8s_append]; exact h2) ?_) List.perm_middle)
  rcases h5 with h5 | h5
  · exact .inl h5
  · exact .inr fun b e => by
      have : some b = some u.heap.size := e.symm.trans h5
      cases this
      exact Nat.le_refl _
theorem wp_kn_alloc (E : Kn w R F u) {ty : TypeId} (ho : o.op = .alloc ty) {zs : List Value} [Z : ZeroV ty zs]
    (h : ∀ g u', Kn w (.row g ty zs :: R) F u' → K (a.put o.dst (.pointer (some ⟨g, 0, none⟩))) u') : o.wp Tryd.prog a u K Q := by
  obtain ⟨i, z, hi, hz, hc⟩ := Z.h
  unfold Oper.wp execOp
  simp only [ho, Instr.alloc, zeroValue, typeInfo, Sem.run_bind, Sem.run_pure, Result.andThen_ok, run_program, hi, hz, newVar, newRow, run_newObj, hc]
  exact h _ _ (E.new ty zs)
end
end
end Go.Proofs.YtpdpjljfloanfaaDoor
