/- The tables of blocks of two halves: the program's, out of its variable; the document's. -/
import Derived.Test.YtgcijioiicmjiaaDoorE1Small
set_option linter.all false
namespace Go.Proofs.YtgcijioiicmjiaaDoor
open Go.RowKit
open Bi Lv Eo

/-- The tables lie in the program's variable. -/
def Nums (W : World) : Prop := cellsF 13 (i64s numL) W
theorem Kn.arg_nums {w u : World} {R : List Res} {F : List (World → Prop)} (E : Kn w R F u) (h : Nums w) : Kn w R (Nums :: F) u := E.arg_cells h
section
variable {w u u' : World} {R R' : List Res} {F : List (World → Prop)} {ops : Array Oper} {rest : List Oper} {o : Oper} {a : Act} {Q : Exit → Act → World → Prop} {K : Act → World → Prop}
theorem cells_range {u : World} {g : Nat} {zs : List Int} (h : cellsF g (i64s zs) u) (off m : Nat) : u.rangeAt g off (i64s ((zs.drop off).take m)) := fun j v hv => by
  rw [i64s_take, i64s_drop, List.getElem?_take] at hv
  split at hv
  · rw [List.getElem?_drop] at hv
    exact h (off + j) v hv
  · cases hv
theorem kn_gloadp (E : Kn w R F u) (hgd : o.guard = none) {ty : TypeId} {x : Operand} (ho : o.op = .load ty x) {g off : Nat} (hx : a.eval x = .pointer (some ⟨g, off, none⟩)) {zs : List Int} (hm : cellsF g (i64s zs) ∈ F) {m : Nat} [A : Aggr ty m] (hl : off + m ≤ zs.length)
    (h : wpList Tryd.prog ops Q rest (a.put o.dst (arr ((zs.drop off).take m))) u) : wpList Tryd.prog ops Q (o :: rest) a u := by
  obtain ⟨d, hu, hd⟩ := A.desc
  refine wpList_load_mid hgd ty x ho g off hx _ d (cells_range (E.get hm) off m) hu hd (by rw [A.size, i64s_length, List.length_take, List.length_drop, Nat.min_eq_left (by omega)]) h
end
theorem num_part : ∀ k, k < 8 → (numL.drop (k * 2)).take 2 = [numL.getD (2 * k) 0, numL.getD (2 * k + 1) 0] := by decide
set_option maxHeartbeats 2000000 in
set_option maxRecDepth 100000 in
theorem table_any (n : Int) (w : World) (hN : Nums w) : Calls Tryd.prog 75 #[.int .i64 n] w fun e w' => e = .returned (arr (tabV n)) ∧ Below w.heap.size w w' := by
  have E := Lib.hid ((Kn.start w).arg_cells (show cellsF 13 (i64s numL) w from hN))
  have hL := Lib.hid (fun u => lowest_any n 3 3 rfl u (by omega))
  rw [show ((2 ^ 3 : Nat) : Int) = 8 from rfl] at hL
  obtain ⟨k, hk⟩ : ∃ k : Nat, n % 8 = (k : Int) := ⟨(n % 8).toNat, by omega⟩
  have hk8 : k < 8 := by omega
  rw [hk] at hL
  have hT : tabV n = tab4 k := by unfold tabV; rw [hk]; rfl
  have hp := Lib.hid (num_part k hk8)
  have hb : -183 ≤ numL.getD (2 * k) 0 ∧ numL.getD (2 * k) 0 ≤ 183 := (tab4_bd k hk8 0 (by omega))
  have hb2 : -183 ≤ numL.getD (2 * k + 1) 0 ∧ numL.getD (2 * k + 1) 0 ≤ 183 := (tab4_bd k hk8 1 (by omega))
  have hll : Hid (numL.length = 16) := rfl
  rw [hT]
  unfold tab4
  clear hT hk hN
  generalize numL.getD (2 * k) 0 = x at *
  generalize numL.getD (2 * k + 1) 0 = y at *
  generalize numL = NL at *
  go_enter Tryd.func75, Tryd.ntmps75
  go_wp2_with (first
    | (go_at_call 54; refine (hL.out _).mono ?_; rintro e w1 ⟨rfl, rfl⟩)
    | ((with_reducible refine kn_gloadp (g := 13) (off := k * 2) E.out rfl rfl rfl List.mem_cons_self ?hl ?_); (case hl => have := hll.out; omega); rw [hp.out])
    | ((with_reducible refine kn_loadi (g := g3) (i := 0) E.out rfl rfl rfl ?hl ?_); (case hl => decide))
    | ((with_reducible refine kn_loadi (g := g3) (i := 1) E.out rfl rfl rfl ?hl ?_); (case hl => decide))
    | ((with_reducible refine kn_load E.out rfl rfl rfl rfl ?_)) | ((with_reducible refine kn_load_if E.out rfl rfl rfl rfl ?_)) | ((with_reducible refine kn_loads E.out rfl rfl rfl ?_ ?_); (focus (first | rfl | (simp only [i64s_length, u8s_length]; first | rfl | assumption | omega)))) | ((with_reducible refine kn_loads_if E.out rfl rfl rfl ?_ ?_); (focus (first | rfl | (simp only [i64s_length, u8s_length]; first | rfl | assumption | omega)))) | ((with_reducible refine kn_stores E.out rfl rfl rfl rfl rfl ?_ ?_ ?_); (focus (first | exact ⟨rfl, rfl⟩ | (simp only [i64s_length, u8s_length]; refine ⟨?_, ?_⟩ <;> first | rfl | assumption | omega))); (focus (first | exact i64s_one _ | exact u8s_one _ | simp [Value.oneCell'])); clear E; intro u E0; have E := Lib.hid E0; clear E0) | ((with_reducible refine kn_alloc (o := ⟨some 2, _, _, _, _, _⟩) E.out rfl rfl ?_); clear E; intro g2 u E0 hb0; have E := Lib.hid E0; clear E0 hb0) | ((with_reducible refine kn_box (o := ⟨some 2, _, _, _, _, _⟩) E.out rfl rfl rfl ?_); clear E; intro g2 u E0 hb0; have E := Lib.hid E0; clear E0 hb0) | ((with_reducible refine kn_box_int (o := ⟨some 2, _, _, _, _, _⟩) E.out rfl rfl rfl ?_); clear E; intro g2 u E0 hb0; have E := Lib.hid E0; clear E0 hb0) | ((with_reducible refine kn_box_slice (o := ⟨some 2, _, _, _, _, _⟩) E.out rfl rfl rfl ?_); clear E; intro g2 u E0 hb0; have E := Lib.hid E0; clear E0 hb0) | ((with_reducible refine kn_box_bool (o := ⟨some 2, _, _, _, _, _⟩) E.out rfl rfl rfl ?_); clear E; intro g2 u E0 hb0; have E := Lib.hid E0; clear E0 hb0) | ((with_reducible refine kn_box_func (o := ⟨some 2, _, _, _, _, _⟩) E.out rfl rfl rfl ?_); clear E; intro g2 u E0 hb0; have E := Lib.hid E0; clear E0 hb0) | ((with_reducible refine kn_alloc (o := ⟨some 3, _, _, _, _, _⟩) E.out rfl rfl ?_); clear E; intro g3 u E0 hb0; have E := Lib.hid E0; clear E0 hb0) | ((with_reducible refine kn_box (o := ⟨some 3, _, _, _, _, _⟩) E.out rfl rfl rfl ?_); clear E; intro g3 u E0 hb0; have E := Lib.hid E0; clear E0 hb0) | ((with_reducible refine kn_box_int (o := ⟨some 3, _, _, _, _, _⟩) E.out rfl rfl rfl ?_); clear E; intro g3 u E0 hb0; have E := Lib.hid E0; clear E0 hb0) | ((with_reducible refine kn_box_slice (o := ⟨some 3, _, _, _, _, _⟩) E.out rfl rfl rfl ?_); clear E; intro g3 u E0 hb0; have E := Lib.hid E0; clear E0 hb0) | ((with_reducible refine kn_box_bool (o := ⟨some 3, _, _, _, _, _⟩) E.out rfl rfl rfl ?_); clear E; intro g3 u E0 hb0; have E := Lib.hid E0; clear E0 hb0) | ((with_reducible refine kn_box_func (o := ⟨some 3, _, _, _, _, _⟩) E.out rfl rfl rfl ?_); clear E; intro g3 u E0 hb0; have E := Lib.hid E0; clear E0 hb0))
  refine bodyPost_ret (results_kn E.out rfl _ rfl (by rfl)) rfl ?_
  exact ⟨rfl, E.out.bel⟩

theorem kn_buildm {w u : World} {R : List Res} {F : List (World → Prop)} {ops : Array Oper} {rest : List Oper} {o : Oper} {a : Act} {Q : Exit → Act → World → Prop} (E : Kn w R F u) (hgd : o.guard = none) {t e : TypeId} {len : Nat} {parts : Array (Nat × Operand)} (ho : o.op = .buildSlice t len parts) (vs : List Value) (pl : List (Nat × Value)) {m : Nat} {zc : Array Value}
    (hu : Tryd.prog.underlying t = some (.slice e)) (hi : (Tryd.prog.info? e).map (fun i => (i.size, i.zero.map (·.cells))) = some (m, some zc)) (hpos : ¬ len * m = 0) (hsmall : ¬ len * m > 2 ^ 24)
    (hf : Instr.fill (fun i => some (i * m, m)) ((Array.range (len * m)).map (zc[· % zc.size]!)) pl = some vs.toArray)
    (hparts : (parts.map fun (i, x) => (i, a.eval x)).toList = pl)
    (h : ∀ g u', Kn w (.row g e vs :: R) F u' → u.heap.size ≤ g → wpList Tryd.prog ops Q rest (a.put o.dst (.slice (some ⟨g, 0, none⟩) len len)) u') : wpList Tryd.prog ops Q (o :: rest) a u := by
  cases hie : Tryd.prog.info? e with
  | none => simp [hie] at hi
  | some ie =>
    cases hz : ie.zero with
    | none => simp [hie, hz] at hi
    | some z =>
      simp only [hie, hz, Option.map_some, Option.some.injEq, Prod.mk.injEq] at hi
      obtain ⟨rfl, rfl⟩ := hi
      refine wpList_buildSlice hgd t e len parts ho vs.toArray ie z hu hie hz hsmall hpos ?_ (h _ _ (E.new e vs) (Nat.le_refl _))
      rw [hparts]
      exact hf
theorem fill8 (t5 t6 t7 t8 t9 t10 t11 t12 : Nat) : Instr.fill (fun i => some (i * 1, 1)) ((Array.range (8 * 1)).map (#[Value.slice none 0 0][· % (#[Value.slice none 0 0] : Array Value).size]!)) [(0, .slice (some ⟨t5, 0, none⟩) 2 2), (1, .slice (some ⟨t6, 0, none⟩) 2 2), (2, .slice (some ⟨t7, 0, none⟩) 2 2), (3, .slice (some ⟨t8, 0, none⟩) 2 2), (4, .slice (some ⟨t9, 0, none⟩) 2 2), (5, .slice (some ⟨t10, 0, none⟩) 2 2), (6, .slice (some ⟨t11, 0, none⟩) 2 2), (7, .slice (some ⟨t12, 0, none⟩) 2 2)] = some ([.slice (some ⟨t5, 0, none⟩) 2 2, .slice (some ⟨t6, 0, none⟩) 2 2, .slice (some ⟨t7, 0, none⟩) 2 2, .slice (some ⟨t8, 0, none⟩) 2 2, .slice (some ⟨t9, 0, none⟩) 2 2, .slice (some ⟨t10, 0, none⟩) 2 2, .slice (some ⟨t11, 0, none⟩) 2 2, .slice (some ⟨t12, 0, none⟩) 2 2] : List Value).toArray := by kernel_rfl
theorem slot_info : (Tryd.prog.info? 73).map (fun i => (i.size, i.zero.map (·.cells))) = some (1, some #[.slice none 0 0]) := by kernel_rfl
theorem kn_build8 {w u : World} {R : List Res} {F : List (World → Prop)} {ops : Array Oper} {rest : List Oper} {o : Oper} {a : Act} {Q : Exit → Act → World → Prop} (E : Kn w R F u) (hgd : o.guard = none) {x5 x6 x7 x8 x9 x10 x11 x12 : Operand} {t5 t6 t7 t8 t9 t10 t11 t12 : Nat}
    (ho : o.op = .buildSlice 122 8 #[(0, x5), (1, x6), (2, x7), (3, x8), (4, x9), (5, x10), (6, x11), (7, x12)]) (h5 : a.eval x5 = .slice (some ⟨t5, 0, none⟩) 2 2) (h6 : a.eval x6 = .slice (some ⟨t6, 0, none⟩) 2 2) (h7 : a.eval x7 = .slice (some ⟨t7, 0, none⟩) 2 2) (h8 : a.eval x8 = .slice (some ⟨t8, 0, none⟩) 2 2) (h9 : a.eval x9 = .slice (some ⟨t9, 0, none⟩) 2 2) (h10 : a.eval x10 = .slice (some ⟨t10, 0, none⟩) 2 2) (h11 : a.eval x11 = .slice (some ⟨t11, 0, none⟩) 2 2) (h12 : a.eval x12 = .slice (some ⟨t12, 0, none⟩) 2 2)
    (h : ∀ g u', Kn w (.row g 73 [.slice (some ⟨t5, 0, none⟩) 2 2, .slice (some ⟨t6, 0, none⟩) 2 2, .slice (some ⟨t7, 0, none⟩) 2 2, .slice (some ⟨t8, 0, none⟩) 2 2, .slice (some ⟨t9, 0, none⟩) 2 2, .slice (some ⟨t10, 0, none⟩) 2 2, .slice (some ⟨t11, 0, none⟩) 2 2, .slice (some ⟨t12, 0, none⟩) 2 2] :: R) F u' → wpList Tryd.prog ops Q rest (a.put o.dst (.slice (some ⟨g, 0, none⟩) 8 8)) u') : wpList Tryd.prog ops Q (o :: rest) a u :=
  kn_buildm E hgd ho [.slice (some ⟨t5, 0, none⟩) 2 2, .slice (some ⟨t6, 0, none⟩) 2 2, .slice (some ⟨t7, 0, none⟩) 2 2, .slice (some ⟨t8, 0, none⟩) 2 2, .slice (some ⟨t9, 0, none⟩) 2 2, .slice (some ⟨t10, 0, none⟩) 2 2, .slice (some ⟨t11, 0, none⟩) 2 2, .slice (some ⟨t12, 0, none⟩) 2 2] [(0, .slice (some ⟨t5, 0, none⟩) 2 2), (1, .slice (some ⟨t6, 0, none⟩) 2 2), (2, .slice (some ⟨t7, 0, none⟩) 2 2), (3, .slice (some ⟨t8, 0, none⟩) 2 2), (4, .slice (some ⟨t9, 0, none⟩) 2 2), (5, .slice (some ⟨t10, 0, none⟩) 2 2), (6, .slice (some ⟨t11, 0, none⟩) 2 2), (7, .slice (some ⟨t12, 0, none⟩) 2 2)] Tryd.underlying122 slot_info (by omega) (by omega) (fill8 t5 t6 t7 t8 t9 t10 t11 t12) (by simp only [List.map_toArray, List.map_cons, List.map_nil, h5, h6, h7, h8, h9, h10, h11, h12]) fun g u' E' _ => h g u' E'
theorem pick8 {w u : World} {k g2 g13 t5 t6 t7 t8 t9 t10 t11 t12 : Nat} (E : Kn w [.row g13 73 [.slice (some ⟨t5, 0, none⟩) 2 2, .slice (some ⟨t6, 0, none⟩) 2 2, .slice (some ⟨t7, 0, none⟩) 2 2, .slice (some ⟨t8, 0, none⟩) 2 2, .slice (some ⟨t9, 0, none⟩) 2 2, .slice (some ⟨t10, 0, none⟩) 2 2, .slice (some ⟨t11, 0, none⟩) 2 2, .slice (some ⟨t12, 0, none⟩) 2 2], .row t12 3 (i64s [47, 183]), .row t11 3 (i64s [33, 106]), .row t10 3 (i64s [24, 80]), .row t9 3 (i64s [18, 60]), .row t8 3 (i64s [13, 42]), .row t7 3 (i64s [9, 29]), .row t6 3 (i64s [5, 17]), .row t5 3 (i64s [2, 8]), .row g2 24 (i64s [0, 0, 0, 0])] [] u) (hk : k < 8) :
    ∃ gk, ([.slice (some ⟨t5, 0, none⟩) 2 2, .slice (some ⟨t6, 0, none⟩) 2 2, .slice (some ⟨t7, 0, none⟩) 2 2, .slice (some ⟨t8, 0, none⟩) 2 2, .slice (some ⟨t9, 0, none⟩) 2 2, .slice (some ⟨t10, 0, none⟩) 2 2, .slice (some ⟨t11, 0, none⟩) 2 2, .slice (some ⟨t12, 0, none⟩) 2 2] : List Value)[k]? = some (.slice (some ⟨gk, 0, none⟩) 2 2) ∧ Kn w [.row g2 24 (i64s [0, 0, 0, 0])] [rowF gk 3 (i64s [numL.getD (2 * k) 0, numL.getD (2 * k + 1) 0])] u := by
  obtain rfl | rfl | rfl | rfl | rfl | rfl | rfl | rfl : k = 0 ∨ k = 1 ∨ k = 2 ∨ k = 3 ∨ k = 4 ∨ k = 5 ∨ k = 6 ∨ k = 7 := by omega
  · exact ⟨t5, rfl, (E.rest t5).part [.row g2 24 (i64s [0, 0, 0, 0])] [rowF t5 3 (i64s [2, 8])] (by repeat (first | exact List.Sublist.refl _ | apply List.Sublist.cons_cons | apply List.Sublist.cons)) (fun _ h => h)⟩
  · exact ⟨t6, rfl, (E.rest t6).part [.row g2 24 (i64s [0, 0, 0, 0])] [rowF t6 3 (i64s [5, 17])] (by repeat (first | exact List.Sublist.refl _ | apply List.Sublist.cons_cons | apply List.Sublist.cons)) (fun _ h => h)⟩
  · exact ⟨t7, rfl, (E.rest t7).part [.row g2 24 (i64s [0, 0, 0, 0])] [rowF t7 3 (i64s [9, 29])] (by repeat (first | exact List.Sublist.refl _ | apply List.Sublist.cons_cons | apply List.Sublist.cons)) (fun _ h => h)⟩
  · exact ⟨t8, rfl, (E.rest t8).part [.row g2 24 (i64s [0, 0, 0, 0])] [rowF t8 3 (i64s [13, 42])] (by repeat (first | exact List.Sublist.refl _ | apply List.Sublist.cons_cons | apply List.Sublist.cons)) (fun _ h => h)⟩
  · exact ⟨t9, rfl, (E.rest t9).part [.row g2 24 (i64s [0, 0, 0, 0])] [rowF t9 3 (i64s [18, 60])] (by repeat (first | exact List.Sublist.refl _ | apply List.Sublist.cons_cons | apply List.Sublist.cons)) (fun _ h => h)⟩
  · exact ⟨t10, rfl, (E.rest t10).part [.row g2 24 (i64s [0, 0, 0, 0])] [rowF t10 3 (i64s [24, 80])] (by repeat (first | exact List.Sublist.refl _ | apply List.Sublist.cons_cons | apply List.Sublist.cons)) (fun _ h => h)⟩
  · exact ⟨t11, rfl, (E.rest t11).part [.row g2 24 (i64s [0, 0, 0, 0])] [rowF t11 3 (i64s [33, 106])] (by repeat (first | exact List.Sublist.refl _ | apply List.Sublist.cons_cons | apply List.Sublist.cons)) (fun _ h => h)⟩
  · exact ⟨t12, rfl, (E.rest t12).part [.row g2 24 (i64s [0, 0, 0, 0])] [rowF t12 3 (i64s [47, 183])] (by repeat (first | exact List.Sublist.refl _ | apply List.Sublist.cons_cons | apply List.Sublist.cons)) (fun _ h => h)⟩
set_option maxHeartbeats 8000000 in
set_option maxRecDepth 100000 in
theorem rtable_any (n : Int) (w : World) : Calls Tryd.prog 63 #[.int .i64 n] w fun e w' => e = .returned (arr (tabV n)) ∧ Below w.heap.size w w' := by
  have E := Lib.hid (Kn.start w)
  have hL := Lib.hid (fun u => mod10_any n 8 u (by omega) (by omega))
  obtain ⟨k, hk⟩ : ∃ k : Nat, n % 8 = (k : Int) := ⟨(n % 8).toNat, by omega⟩
  have hk8 : k < 8 := by omega
  rw [hk] at hL
  have hT : tabV n = tab4 k := by unfold tabV; rw [hk]; rfl
  rw [hT]
  have hb : -183 ≤ numL.getD (2 * k) 0 ∧ numL.getD (2 * k) 0 ≤ 183 := (tab4_bd k hk8 0 (by omega))
  have hb2 : -183 ≤ numL.getD (2 * k + 1) 0 ∧ numL.getD (2 * k + 1) 0 ≤ 183 := (tab4_bd k hk8 1 (by omega))
  have hsz : (Tryd.prog.info? 3).map (·.size) = some 1 := by kernel_rfl
  have hzz : ((Tryd.prog.info? 3).bind (·.zero)).isSome = true := by kernel_rfl
  have hf8 := Lib.hid fill8
  have hsi := Lib.hid slot_info
  unfold tab4
  clear hT hk
  obtain ⟨x, hx⟩ : ∃ x, numL.getD (2 * k) 0 = x := ⟨_, rfl⟩
  obtain ⟨y, hy⟩ : ∃ y, numL.getD (2 * k + 1) 0 = y := ⟨_, rfl⟩
  rw [hx, hy]
  rw [hx] at hb
  rw [hy] at hb2
  have hwx := Lib.hid (show IntKind.i64.wrap (-x) = -x from by rw [IntKind.wrap_i64]; omega)
  have hwy := Lib.hid (show IntKind.i64.wrap (-y) = -y from by rw [IntKind.wrap_i64]; omega)
  have hl4 := Lib.hid (show (i64s [0, 0, 0, 0]).length = 4 ∧ (i64s [x, y, -x, -y]).length = 4 from ⟨rfl, rfl⟩)
  have HX := Lib.hid hx
  have HY := Lib.hid hy
  clear hx hy
  go_enter Tryd.func63, Tryd.ntmps63
  go_wp2_with (first
    | (go_at_call 64; refine (hL.out _).mono ?_; rintro e w1 ⟨rfl, rfl⟩)
    | ((with_reducible refine kn_buildi E.out rfl rfl [2, 8] Tryd.underlying73 hsz hzz ?_ ?_ ?_ ?_ ?_); (focus (rfl)); (focus (omega)); (focus (omega)); (focus (rfl)); clear E; intro t5 u E0 hg; have E := Lib.hid E0; clear E0 hg; (try simp only [Act.put, List.setIfInBounds_toArray, List.set_cons_zero, List.set_cons_succ]))
    | ((with_reducible refine kn_buildi E.out rfl rfl [5, 17] Tryd.underlying73 hsz hzz ?_ ?_ ?_ ?_ ?_); (focus (rfl)); (focus (omega)); (focus (omega)); (focus (rfl)); clear E; intro t6 u E0 hg; have E := Lib.hid E0; clear E0 hg; (try simp only [Act.put, List.setIfInBounds_toArray, List.set_cons_zero, List.set_cons_succ]))
    | ((with_reducible refine kn_buildi E.out rfl rfl [9, 29] Tryd.underlying73 hsz hzz ?_ ?_ ?_ ?_ ?_); (focus (rfl)); (focus (omega)); (focus (omega)); (focus (rfl)); clear E; intro t7 u E0 hg; have E := Lib.hid E0; clear E0 hg; (try simp only [Act.put, List.setIfInBounds_toArray, List.set_cons_zero, List.set_cons_succ]))
    | ((with_reducible refine kn_buildi E.out rfl rfl [13, 42] Tryd.underlying73 hsz hzz ?_ ?_ ?_ ?_ ?_); (focus (rfl)); (focus (omega)); (focus (omega)); (focus (rfl)); clear E; intro t8 u E0 hg; have E := Lib.hid E0; clear E0 hg; (try simp only [Act.put, List.setIfInBounds_toArray, List.set_cons_zero, List.set_cons_succ]))
    | ((with_reducible refine kn_buildi E.out rfl rfl [18, 60] Tryd.underlying73 hsz hzz ?_ ?_ ?_ ?_ ?_); (focus (rfl)); (focus (omega)); (focus (omega)); (focus (rfl)); clear E; intro t9 u E0 hg; have E := Lib.hid E0; clear E0 hg; (try simp only [Act.put, List.setIfInBounds_toArray, List.set_cons_zero, List.set_cons_succ]))
    | ((with_reducible refine kn_buildi E.out rfl rfl [24, 80] Tryd.underlying73 hsz hzz ?_ ?_ ?_ ?_ ?_); (focus (rfl)); (focus (omega)); (focus (omega)); (focus (rfl)); clear E; intro t10 u E0 hg; have E := Lib.hid E0; clear E0 hg; (try simp only [Act.put, List.setIfInBounds_toArray, List.set_cons_zero, List.set_cons_succ]))
    | ((with_reducible refine kn_buildi E.out rfl rfl [33, 106] Tryd.underlying73 hsz hzz ?_ ?_ ?_ ?_ ?_); (focus (rfl)); (focus (omega)); (focus (omega)); (focus (rfl)); clear E; intro t11 u E0 hg; have E := Lib.hid E0; clear E0 hg; (try simp only [Act.put, List.setIfInBounds_toArray, List.set_cons_zero, List.set_cons_succ]))
    | ((with_reducible refine kn_buildi E.out rfl rfl [47, 183] Tryd.underlying73 hsz hzz ?_ ?_ ?_ ?_ ?_); (focus (rfl)); (focus (omega)); (focus (omega)); (focus (rfl)); clear E; intro t12 u E0 hg; have E := Lib.hid E0; clear E0 hg; (try simp only [Act.put, List.setIfInBounds_toArray, List.set_cons_zero, List.set_cons_succ]))
    | ((with_reducible refine kn_build8 E.out rfl rfl rfl rfl rfl rfl rfl rfl rfl rfl ?_); clear E; intro g13 u E0; have E := Lib.hid E0; clear E0; (try simp only [Act.put, List.setIfInBounds_toArray, List.set_cons_zero, List.set_cons_succ]))
    | (have E1 := pick8 E.out hk8
       rw [HX.out, HY.out] at E1
       obtain ⟨gk, hgk, E1⟩ := E1
       replace hgk := Lib.hid hgk
       (with_reducible refine kn_load (g := g13) (i := k) E.out rfl rfl rfl hgk.out ?_)
       clear E
       have E := Lib.hid E1
       clear E1)
    | ((with_reducible refine kn_load E.out rfl rfl rfl rfl ?_)) | ((with_reducible refine kn_load_if E.out rfl rfl rfl rfl ?_)) | ((with_reducible refine kn_loads E.out rfl rfl rfl ?_ ?_); (focus (first | rfl | (simp only [i64s_length, u8s_length]; first | rfl | assumption | omega)))) | ((with_reducible refine kn_loads_if E.out rfl rfl rfl ?_ ?_); (focus (first | rfl | (simp only [i64s_length, u8s_length]; first | rfl | assumption | omega)))) | ((with_reducible refine kn_stores E.out rfl rfl rfl rfl rfl ?_ ?_ ?_); (focus (first | exact ⟨rfl, rfl⟩ | (simp only [i64s_length, u8s_length]; refine ⟨?_, ?_⟩ <;> first | rfl | assumption | omega))); (focus (first | exact i64s_one _ | exact u8s_one _ | simp [Value.oneCell'])); clear E; intro u E0; have E := Lib.hid E0; clear E0) | ((with_reducible refine kn_alloc (o := ⟨some 2, _, _, _, _, _⟩) E.out rfl rfl ?_); clear E; intro g2 u E0 hb0; have E := Lib.hid E0; clear E0 hb0) | ((with_reducible refine kn_box (o := ⟨some 2, _, _, _, _, _⟩) E.out rfl rfl rfl ?_); clear E; intro g2 u E0 hb0; have E := Lib.hid E0; clear E0 hb0) | ((with_reducible refine kn_box_int (o := ⟨some 2, _, _, _, _, _⟩) E.out rfl rfl rfl ?_); clear E; intro g2 u E0 hb0; have E := Lib.hid E0; clear E0 hb0) | ((with_reducible refine kn_box_slice (o := ⟨some 2, _, _, _, _, _⟩) E.out rfl rfl rfl ?_); clear E; intro g2 u E0 hb0; have E := Lib.hid E0; clear E0 hb0) | ((with_reducible refine kn_box_bool (o := ⟨some 2, _, _, _, _, _⟩) E.out rfl rfl rfl ?_); clear E; intro g2 u E0 hb0; have E := Lib.hid E0; clear E0 hb0) | ((with_reducible refine kn_box_func (o := ⟨some 2, _, _, _, _, _⟩) E.out rfl rfl rfl ?_); clear E; intro g2 u E0 hb0; have E := Lib.hid E0; clear E0 hb0))
  refine wp_region_held_drew (S := Kn w [] [rowF gk 3 (i64s [x, y])]) (by kernel_rfl) (E.out.drew.part _ _ (by repeat (first | exact List.Sublist.refl _ | apply List.Sublist.cons_cons | apply List.Sublist.cons)) (by simp)) (fun kS => ?_)
  have E1 := Lib.hid E.out.drew
  generalize World.drew _ = u1 at kS E1 ⊢
  clear E
  have E := E1
  clear E1
  (refine takeL (i := 0) (v := _) rfl (by kernel_rfl) (by kernel_rfl) (by kernel_rfl) (fun _ _ _ h => h) (by first | exact Or.inl ⟨by rfl, (by intro u hSu; clear hSu; go_simp; try with_reducible rfl)⟩ | exact Or.inr ⟨by rfl, rfl⟩) kS ?_; (try simp only [Act.put, List.setIfInBounds_toArray, List.set_cons_zero, List.set_cons_succ])); (refine takeL (i := 1) (v := _) rfl (by kernel_rfl) (by kernel_rfl) (by kernel_rfl) (fun _ _ _ h => h) (by first | exact Or.inl ⟨by rfl, (by intro u hSu; clear hSu; go_simp; try with_reducible rfl)⟩ | exact Or.inr ⟨by rfl, rfl⟩) kS ?_; (try simp only [Act.put, List.setIfInBounds_toArray, List.set_cons_zero, List.set_cons_succ]))
  (refine takeL (i := 2) (v := _) rfl (by kernel_rfl) (by kernel_rfl) (by kernel_rfl) (fun _ _ _ h => h) (by first | exact yield_load rfl rfl rfl rfl | exact yield_loads rfl rfl rfl rfl | exact yield_loads rfl rfl rfl (by simp only [i64s_length, u8s_length]; first | assumption | omega) | exact yield_loadi rfl rfl rfl (by first | assumption | omega) | exact yield_loadp rfl rfl rfl (by first | assumption | omega)) kS ?_; (try simp only [Act.put, List.setIfInBounds_toArray, List.set_cons_zero, List.set_cons_succ]))
  (refine takeL (i := 3) (v := _) rfl (by kernel_rfl) (by kernel_rfl) (by kernel_rfl) (fun _ _ _ h => h) (by first | exact Or.inl ⟨by rfl, (by intro u hSu; clear hSu; go_simp; try with_reducible rfl)⟩ | exact Or.inr ⟨by rfl, rfl⟩) kS ?_; (try simp only [Act.put, List.setIfInBounds_toArray, List.set_cons_zero, List.set_cons_succ])); (refine takeL (i := 4) (v := _) rfl (by kernel_rfl) (by kernel_rfl) (by kernel_rfl) (fun _ _ _ h => h) (by first | exact Or.inl ⟨by rfl, (by intro u hSu; clear hSu; go_simp; try with_reducible rfl)⟩ | exact Or.inr ⟨by rfl, rfl⟩) kS ?_; (try simp only [Act.put, List.setIfInBounds_toArray, List.set_cons_zero, List.set_cons_succ]))
  (refine takeL (i := 5) (v := _) rfl (by kernel_rfl) (by kernel_rfl) (by kernel_rfl) (fun _ _ _ h => h) (by first | exact yield_load rfl rfl rfl rfl | exact yield_loads rfl rfl rfl rfl | exact yield_loads rfl rfl rfl (by simp only [i64s_length, u8s_length]; first | assumption | omega) | exact yield_loadi rfl rfl rfl (by first | assumption | omega) | exact yield_loadp rfl rfl rfl (by first | assumption | omega)) kS ?_; (try simp only [Act.put, List.setIfInBounds_toArray, List.set_cons_zero, List.set_cons_succ]))
  (refine takeL (i := 6) (v := _) rfl (by kernel_rfl) (by kernel_rfl) (by kernel_rfl) (fun _ _ _ h => h) (by first | exact Or.inl ⟨by rfl, (by intro u hSu; clear hSu; go_simp; try with_reducible rfl)⟩ | exact Or.inr ⟨by rfl, rfl⟩) kS ?_; (try simp only [Act.put, List.setIfInBounds_toArray, List.set_cons_zero, List.set_cons_succ])); (refine takeL (i := 7) (v := _) rfl (by kernel_rfl) (by kernel_rfl) (by kernel_rfl) (fun _ _ _ h => h) (by first | exact Or.inl ⟨by rfl, (by intro u hSu; clear hSu; go_simp; try with_reducible rfl)⟩ | exact Or.inr ⟨by rfl, rfl⟩) kS ?_; (try simp only [Act.put, List.setIfInBounds_toArray, List.set_cons_zero, List.set_cons_succ]))
  (refine takeL (i := 8) (v := _) rfl (by kernel_rfl) (by kernel_rfl) (by kernel_rfl) (fun _ _ _ h => h) (by first | exact yield_load rfl rfl rfl rfl | exact yield_loads rfl rfl rfl rfl | exact yield_loads rfl rfl rfl (by simp only [i64s_length, u8s_length]; first | assumption | omega) | exact yield_loadi rfl rfl rfl (by first | assumption | omega) | exact yield_loadp rfl rfl rfl (by first | assumption | omega)) kS ?_; (try simp only [Act.put, List.setIfInBounds_toArray, List.set_cons_zero, List.set_cons_succ]))
  (refine takeL (i := 9) (v := _) rfl (by kernel_rfl) (by kernel_rfl) (by kernel_rfl) (fun _ _ _ h => h) (by first | exact Or.inl ⟨by rfl, (by intro u hSu; clear hSu; go_simp; try with_reducible rfl)⟩ | exact Or.inr ⟨by rfl, rfl⟩) kS ?_; (try simp only [Act.put, List.setIfInBounds_toArray, List.set_cons_zero, List.set_cons_succ]))
  (try rw [hwx.out])
  (refine takeL (i := 10) (v := _) rfl (by kernel_rfl) (by kernel_rfl) (by kernel_rfl) (fun _ _ _ h => h) (by first | exact Or.inl ⟨by rfl, (by intro u hSu; clear hSu; go_simp; try with_reducible rfl)⟩ | exact Or.inr ⟨by rfl, rfl⟩) kS ?_; (try simp only [Act.put, List.setIfInBounds_toArray, List.set_cons_zero, List.set_cons_succ])); (refine takeL (i := 11) (v := _) rfl (by kernel_rfl) (by kernel_rfl) (by kernel_rfl) (fun _ _ _ h => h) (by first | exact Or.inl ⟨by rfl, (by intro u hSu; clear hSu; go_simp; try with_reducible rfl)⟩ | exact Or.inr ⟨by rfl, rfl⟩) kS ?_; (try simp only [Act.put, List.setIfInBounds_toArray, List.set_cons_zero, List.set_cons_succ]))
  (refine takeL (i := 12) (v := _) rfl (by kernel_rfl) (by kernel_rfl) (by kernel_rfl) (fun _ _ _ h => h) (by first | exact yield_load rfl rfl rfl rfl | exact yield_loads rfl rfl rfl rfl | exact yield_loads rfl rfl rfl (by simp only [i64s_length, u8s_length]; first | assumption | omega) | exact yield_loadi rfl rfl rfl (by first | assumption | omega) | exact yield_loadp rfl rfl rfl (by first | assumption | omega)) kS ?_; (try simp only [Act.put, List.setIfInBounds_toArray, List.set_cons_zero, List.set_cons_succ]))
  (refine takeL (i := 13) (v := _) rfl (by kernel_rfl) (by kernel_rfl) (by kernel_rfl) (fun _ _ _ h => h) (by first | exact Or.inl ⟨by rfl, (by intro u hSu; clear hSu; go_simp; try with_reducible rfl)⟩ | exact Or.inr ⟨by rfl, rfl⟩) kS ?_; (try simp only [Act.put, List.setIfInBounds_toArray, List.set_cons_zero, List.set_cons_succ]))
  (try rw [hwy.out])
  (refine takeL (i := 14) (v := _) rfl (by kernel_rfl) (by kernel_rfl) (by kernel_rfl) (fun _ _ _ h => h) (by first | exact Or.inl ⟨by rfl, (by intro u hSu; clear hSu; go_simp; try with_reducible rfl)⟩ | exact Or.inr ⟨by rfl, rfl⟩) kS ?_; (try simp only [Act.put, List.setIfInBounds_toArray, List.set_cons_zero, List.set_cons_succ]))

  refine callL (i := 15) rfl (by kernel_rfl) (fun K hK => ?_)
  (rw [if_pos (by rfl)]; with_reducible refine wp_kn_stores (vs := i64s [x, y, -x, -y]) E.out rfl rfl rfl rfl hl4.out (i64s_one _) ?_; clear E kS; intro u E0; have E := Lib.hid E0; clear E0; (refine hK.out _ _ (E.out.part _ _ (by repeat (first | exact List.Sublist.refl _ | apply List.Sublist.cons_cons | apply List.Sublist.cons)) (by simp)) (fun kS => ?_); clear hK K; (try simp only [Act.put, List.setIfInBounds_toArray, List.set_cons_zero, List.set_cons_succ])))
  refine wpAnyH_done (by kernel_rfl) ?_ _
  go_wp2_with fail
  refine bodyPost_ret (results_kn E.out rfl _ rfl (by rfl)) rfl ?_
  exact ⟨rfl, E.out.bel⟩
end Go.Proofs.YtgcijioiicmjiaaDoor
