/- The tables of blocks of two halves: the program's, out of its variable; the document's. -/
import Derived.Test.YtgcijioiicmjiaaDoorE1Small
set_option linter.all false
namespace Go.Proofs.YtgcijioiicmjiaaDoor
open Go.RowKit
open Bi Lv Eo

/-- The tables lie in the program's variable. -/
def Nums (W : World) : Prop := cellsF 13 (i64s numL) W
theorem Kn.arg_nums {w u : World} {R : List Res} {F : List (World → Prop)} (E : Kn w R F u) (h : Nums w) : Kn w R (Nums :: F) u := E.arg_cells h
section
variable {w u u' : World} {R R' : List Res} {F : List (World → Prop)} {ops : Array Oper} {rest : List Oper} {o : Oper} {a : Act} {Q : Exit → Act → World → Prop} {K : Act → World → Prop}
theorem cells_range {u : World} {g : Nat} {zs : List Int} (h : cellsF g (i64s zs) u) (off m : Nat) : u.rangeAt g off (i64s ((zs.drop off).take m)) := fun j v hv => by
  rw [i64s_take, i64s_drop, List.getElem?_take] at hv
  split at hv
  · rw [List.getElem?_drop] at hv
    exact h (off + j) v hv
  · cases hv
theorem kn_gloadp (E : Kn w R F u) (hgd : o.guard = none) {ty : TypeId} {x : Operand} (ho : o.op = .load ty x) {g off : Nat} (hx : a.eval x = .pointer (some ⟨g, off, none⟩)) {zs : List Int} (hm : cellsF g (i64s zs) ∈ F) {m : Nat} [A : Aggr ty m] (hl : off + m ≤ zs.length)
    (h : wpList Tryd.prog ops Q rest (a.put o.dst (arr ((zs.drop off).take m))) u) : wpList Tryd.prog ops Q (o :: rest) a u := by
  obtain ⟨d, hu, hd⟩ := A.desc
  refine wpList_load_mid hgd ty x ho g off hx _ d (cells_range (E.get hm) off m) hu hd (by rw [A.size, i64s_length, List.length_take, List.length_drop, Nat.min_eq_left (by omega)]) h
end
theorem num_part : ∀ k, k < 8 → (numL.drop (k * 2)).take 2 = [numL.getD (2 * k) 0, numL.getD (2 * k + 1) 0] := by decide
set_option maxHeartbeats 2000000 in
set_option maxRecDepth 100000 in
theorem table_any (n : Int) (w : World) (hN : Nums w) : Calls Tryd.prog 75 #[.int .i64 n] w fun e w' => e = .returned (arr (tabV n)) ∧ Below w.heap.size w w' := by
  have E := Lib.hid ((Kn.start w).arg_cells (show cellsF 13 (i64s numL) w from hN))
  have hL := Lib.hid (fun u => lowest_any n 3 3 rfl u (by omega))
  rw [show ((2 ^ 3 : Nat) : Int) = 8 from rfl] at hL
  obtain ⟨k, hk⟩ : ∃ k : Nat, n % 8 = (k : Int) := ⟨(n % 8).toNat, by omega⟩
  have hk8 : k < 8 := by omega
  rw [hk] at hL
  have hT : tabV n = tab4 k := by unfold tabV; rw [hk]; rfl
  have hp := Lib.hid (num_part k hk8)
  have hb : -183 ≤ numL.getD (2 * k) 0 ∧ numL.getD (2 * k) 0 ≤ 183 := (tab4_bd k hk8 0 (by omega))
  have hb2 : -183 ≤ numL.getD (2 * k + 1) 0 ∧ numL.getD (2 * k + 1) 0 ≤ 183 := (tab4_bd k hk8 1 (by omega))
  have hll : Hid (numL.length = 16) := rfl
  rw [hT]
  unfold tab4
  clear hT hk hN
  generalize numL.getD (2 * k) 0 = x at *
  generalize numL.getD (2 * k + 1) 0 = y at *
  generalize numL = NL at *
  go_enter Tryd.func75, Tryd.ntmps75
  go_wp2_with (first
    | (go_at_call 54; refine (hL.out _).mono ?_; rintro e w1 ⟨rfl, rfl⟩)
    | ((with_reducible refine kn_gloadp (g := 13) (off := k * 2) E.out rfl rfl rfl List.mem_cons_self ?hl ?_); (case hl => have := hll.out; omega); rw [hp.out])
    | ((with_reducible refine kn_loadi (g := g3) (i := 0) E.out rfl rfl rfl ?hl ?_); (case hl => decide))
    | ((with_reducible refine kn_loadi (g := g3) (i := 1) E.out rfl rfl rfl ?hl ?_); (case hl => decide))
    | ((with_reducible refine kn_load E.out rfl rfl rfl rfl ?_)) | ((with_reducible refine kn_load_if E.out rfl rfl rfl rfl ?_)) | ((with_reducible refine kn_loads E.out rfl rfl rfl ?_ ?_); (focus (first | rfl | (simp only [i64s_length, u8s_length]; first | rfl | assumption | omega)))) | ((with_reducible refine kn_loads_if E.out rfl rfl rfl ?_ ?_); (focus (first | rfl | (simp only [i64s_length, u8s_length]; first | rfl | assumption | omega)))) | ((with_reducible refine kn_stores E.out rfl rfl rfl rfl rfl ?_ ?_ ?_); (focus (first | exact ⟨rfl, rfl⟩ | (simp only [i64s_length, u8s_length]; refine ⟨?_, ?_⟩ <;> first | rfl | assumption | omega))); (focus (first | exact i64s_one _ | exact u8s_one _ | simp [Value.oneCell'])); clear E; intro u E0; have E := Lib.hid E0; clear E0) | ((with_reducible refine kn_alloc (o := ⟨some 2, _, _, _, _, _⟩) E.out rfl rfl ?_); clear E; intro g2 u E0 hb0; have E := Lib.hid E0; clear E0 hb0) | ((with_reducible refine kn_box (o := ⟨some 2, _, _, _, _, _⟩) E.out rfl rfl rfl ?_); clear E; intro g2 u E0 hb0; have E := Lib.hid E0; clear E0 hb0) | ((with_reducible refine kn_box_int (o := ⟨some 2, _, _, _, _, _⟩) E.out rfl rfl rfl ?_); clear E; intro g2 u E0 hb0; have E := Lib.hid E0; clear E0 hb0) | ((with_reducible refine kn_box_slice (o := ⟨some 2, _, _, _, _, _⟩) E.out rfl rfl rfl ?_); clear E; intro g2 u E0 hb0; have E := Lib.hid E0; clear E0 hb0) | ((with_reducible refine kn_box_bool (o := ⟨some 2, _, _, _, _, _⟩) E.out rfl rfl rfl ?_); clear E; intro g2 u E0 hb0; have E := Lib.hid E0; clear E0 hb0) | ((with_reducible refine kn_box_func (o := ⟨some 2, _, _, _, _, _⟩) E.out rfl rfl rfl ?_); clear E; intro g2 u E0 hb0; have E := Lib.hid E0; clear E0 hb0) | ((with_reducible refine kn_alloc (o := ⟨some 3, _, _, _, _, _⟩) E.out rfl rfl ?_); clear E; intro g3 u E0 hb0; have E := Lib.hid E0; clear E0 hb0) | ((with_reducible refine kn_box (o := ⟨some 3, _, _, _, _, _⟩) E.out rfl rfl rfl ?_); clear E; intro g3 u E0 hb0; have E := Lib.hid E0; clear E0 hb0) | ((with_reducible refine kn_box_int (o := ⟨some 3, _, _, _, _, _⟩) E.out rfl rfl rfl ?_); clear E; intro g3 u E0 hb0; have E := Lib.hid E0; clear E0 hb0) | ((with_reducible refine kn_box_slice (o := ⟨some 3, _, _, _, _, _⟩) E.out rfl rfl rfl ?_); clear E; intro g3 u E0 hb0; have E := Lib.hid E0; clear E0 hb0) | ((with_reducible refine kn_box_bool (o := ⟨some 3, _, _, _, _, _⟩) E.out rfl rfl rfl ?_); clear E; intro g3 u E0 hb0; have E := Lib.hid E0; clear E0 hb0) | ((with_reducible refine kn_box_func (o := ⟨some 3, _, _, _, _, _⟩) E.out rfl rfl rfl ?_); clear E; intro g3 u E0 hb0; have E := Lib.hid E0; clear E0 hb0))
  refine bodyPost_ret (results_kn E.out rfl _ rfl (by rfl)) rfl ?_
  exact ⟨rfl, E.out.bel⟩

theorem kn_buildm {w u : World} {R : List Res} {F : List (World → Prop)} {ops : Array Oper} {rest : List Oper} {o : Oper} {a : Act} {Q : Exit → Act → World → Prop} (E : Kn w R F u) (hgd : o.guard = none) {t e : TypeId} {len : Nat} {parts : Array (Nat × Operand)} (ho : o.op = .buildSlice t len parts) (vs : List Value) (pl : List (Nat × Value)) {m : Nat} {zc : Array Value}
    (hu : Tryd.prog.underlying t = some (.slice e)) (hi : (Tryd.prog.info? e).map (fun i => (i.size, i.zero.map (·.cells))) = some (m, some zc)) (hpos : ¬ len * m = 0) (hsmall : ¬ len * m > 2 ^ 24)
    (hf : Instr.fill (fun i => some (i * m, m)) ((Array.range (len * m)).map (zc[· % zc.size]!)) pl = some vs.toArray)
    (hparts : (parts.map fun (i, x) => (i, a.eval x)).toList = pl)
    (h : ∀ g u', Kn w (.row g e vs :: R) F u' → u.heap.size ≤ g → wpList Tryd.prog ops Q rest (a.put o.dst (.slice (some ⟨g, 0, none⟩) len len)) u') : wpList Tryd.prog ops Q (o :: rest) a u := by
  cases hie : Tryd.prog.info? e with
  | none => simp [hie] at hi
  | some ie =>
    cases hz : ie.zero with
    | none => simp [hie, hz] at hi
    | some z =>
      simp only [hie, hz, Option.map_some, Option.some.injEq, Prod.mk.injEq] at hi
      obtain ⟨rfl, rfl⟩ := hi
      refine wpList_buildSlice hgd t e len parts ho vs.toArray ie z hu hie hz hsmall hpos ?_ (h _ _ (E.new e vs) (Nat.le_refl _))
      rw [hparts]
      exact hf
end Go.Proofs.YtgcijioiicmjiaaDoor
