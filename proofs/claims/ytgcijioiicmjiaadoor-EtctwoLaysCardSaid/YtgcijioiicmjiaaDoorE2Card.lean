/- What the rows' lists give: the program's variables hold the tables; and a world of that kind. -/
import Derived.Test.YtgcijioiicmjiaaDoorRows
import Derived.Test.YtgcijioiicmjiaaDoorE2Dec
import Derived.OpenShut
import Derived.LaidMore
import Derived.Deep.DeepHandedRow
import Derived.Lib.LaidTab
set_option linter.all false
namespace Go.Proofs.YtgcijioiicmjiaaDoor
open Go.RowKit Go.ChangeShapes Go.WideShapes Go.ChangeAt
open Eo Et

theorem chunks (m : Nat) : ∀ (zss : List (List Int)) (cs : List Value), cs.length = zss.length * m → (∀ i, i < zss.length → (cs.drop (i * m)).take m = i64s (zss.getD i [])) → cs = i64s zss.flatten
  | [], cs, hl, _ => by
    rw [List.length_nil, Nat.zero_mul] at hl
    rw [List.eq_nil_of_length_eq_zero hl]
    rfl
  | z :: zss, cs, hl, h => by
    have h0 := h 0 (by simp)
    rw [Nat.zero_mul, List.drop_zero] at h0
    have hr := chunks m zss (cs.drop m) (by rw [List.length_drop, hl, List.length_cons, Nat.succ_mul]; omega) fun i hi => by
      have h1 := h (i + 1) (by simp; omega)
      rw [List.drop_drop, show m + i * m = (i + 1) * m by rw [Nat.succ_mul]; omega]
      exact h1
    have e : cs = cs.take m ++ cs.drop m := (List.take_append_drop m cs).symm
    rw [e, h0, hr]
    show i64s z ++ i64s zss.flatten = i64s (z ++ zss.flatten)
    simp [i64s]
/-- A reading of type t as this datum is of these numbers. -/
def Means (t : TypeId) (D : DataW Unit) (zs : List Int) : Prop := ∀ (w : World) (fuel : Nat) (cs : List Value) (x : DataW Unit × List MemPlace), DataW.trod (fun _ => ()) Tryd.prog w 0 (fun _ => true) false fuel t cs = some x → x.1 = D → cs = i64s zs
theorem means_int (z : Int) : Means 3 (.lit (.int .i64 z)) [z] := fun w fuel cs x h e => by
  obtain ⟨n, rfl, rfl, _⟩ := DataW.trod_int Tryd.underlying3 h
  simp only [DataW.lit.injEq, Lit.int.injEq, true_and] at e
  subst e
  rfl
theorem means_arr {t e : TypeId} {n m : Nat} (ht : Tryd.prog.underlying t = some (.array n e)) (hm : Tryd.prog.cellsOf e = m) (hct : Tryd.prog.cellsOf t = n * m) {Ds : List (DataW Unit)} {zss : List (List Int)} (hz : zss.length = n) (h : ∀ i, i < n → ∃ D, Ds[i]? = some D ∧ Means e D (zss.getD i [])) : Means t (.agg Ds) zss.flatten := fun w fuel cs x hx ex => by
  obtain ⟨xs, k, _, rfl, hl, hn, hel⟩ := DataW.trod_array ht hx
  rw [hct] at hl
  rw [hm] at hel
  have ex' : xs.map (·.1) = Ds := by simpa using ex
  refine chunks m zss cs (by rw [hl, hz]) fun i hi => ?_
  obtain ⟨D, hD, hM⟩ := h i (by omega)
  have hxi : xs[i]? = some (xs[i]'(by omega)) := List.getElem?_eq_getElem (by omega)
  have h1 := hel i (by omega)
  rw [hxi] at h1
  refine hM w k _ _ h1 ?_
  rw [← ex', List.getElem?_map, hxi] at hD
  exact Option.some.inj hD
theorem fRun : Tryd.prog.underlying 75 = some (.struct (Tryd.prog.fieldsOf 75)) := by kernel_rfl
theorem fRuns : (Tryd.prog.fieldsOf 75).toList.map (fun f => (f.type, f.offset)) = [(3, 0), (3, 1)] := by kernel_rfl
theorem cInt : Tryd.prog.cellsOf 3 = 1 := by kernel_rfl
theorem cRun : Tryd.prog.cellsOf 75 = 2 := by kernel_rfl
set_option maxRecDepth 100000 in
theorem means_run (a m : Int) : Means 75 (.agg [.lit (.int .i64 a), .lit (.int .i64 m)]) [a, m] := fun w fuel cs x h e => by
  obtain ⟨xs, n, _, rfl, hl, hlen, hh⟩ := DataW.trod_struct fRun h
  have hf := fRuns
  generalize Tryd.prog.fieldsOf 75 = fs at *
  obtain ⟨l⟩ := fs
  have h2 : l.length = 2 := by simpa using congrArg List.length hf
  match l, h2, hf, hlen, hh with
  | [f0, f1], _, hf, hlen, hh =>
    simp only [List.map_cons, List.map_nil, List.cons.injEq, Prod.mk.injEq, and_true] at hf
    obtain ⟨⟨e0, d0⟩, e1, d1⟩ := hf
    match xs, hlen, e with
    | [y0, y1], _, e =>
      have h0 := hh 0 f0 rfl
      have h1 := hh 1 f1 rfl
      rw [e0, d0, cInt] at h0
      rw [e1, d1, cInt] at h1
      simp only [List.map_cons, List.map_nil, DataW.agg.injEq, List.cons.injEq, and_true] at e
      have k0 := means_int a w n _ _ h0 e.1
      have k1 := means_int m w n _ _ h1 e.2
      rw [cRun] at hl
      match cs, hl with
      | [c0, c1], _ =>
        simp [i64s] at k0 k1
        rw [k0, k1]
        rfl
/-- Three runs; nine; more. -/
theorem means_runs (a0 m0 a1 m1 a2 m2 : Int) : Means 80 (.agg [.agg [.lit (.int .i64 a0), .lit (.int .i64 m0)], .agg [.lit (.int .i64 a1), .lit (.int .i64 m1)], .agg [.lit (.int .i64 a2), .lit (.int .i64 m2)]]) [a0, m0, a1, m1, a2, m2] :=
  means_arr (zss := [[a0, m0], [a1, m1], [a2, m2]]) Tryd.underlying80 cRun (by kernel_rfl) rfl fun i hi => by
    obtain rfl | rfl | rfl : i = 0 ∨ i = 1 ∨ i = 2 := by omega
    all_goals exact ⟨_, rfl, means_run _ _⟩
theorem cRuns : Tryd.prog.cellsOf 80 = 6 := by kernel_rfl
theorem cRuns3 : Tryd.prog.cellsOf 81 = 18 := by kernel_rfl
theorem means_three {D0 D1 D2 : DataW Unit} {z0 z1 z2 : List Int} (h0 : Means 80 D0 z0) (h1 : Means 80 D1 z1) (h2 : Means 80 D2 z2) : Means 81 (.agg [D0, D1, D2]) (z0 ++ (z1 ++ (z2 ++ []))) :=
  means_arr (zss := [z0, z1, z2]) Tryd.underlying81 cRuns (by kernel_rfl) rfl fun i hi => by
    obtain rfl | rfl | rfl : i = 0 ∨ i = 1 ∨ i = 2 := by omega
    · exact ⟨_, rfl, h0⟩
    · exact ⟨_, rfl, h1⟩
    · exact ⟨_, rfl, h2⟩
theorem means_two {D0 D1 : DataW Unit} {z0 z1 : List Int} (h0 : Means 81 D0 z0) (h1 : Means 81 D1 z1) : Means 116 (.agg [D0, D1]) (z0 ++ (z1 ++ [])) :=
  means_arr (zss := [z0, z1]) Tryd.underlying116 cRuns3 (by kernel_rfl) rfl fun i hi => by
    obtain rfl | rfl : i = 0 ∨ i = 1 := by omega
    · exact ⟨_, rfl, h0⟩
    · exact ⟨_, rfl, h1⟩
theorem means_nine {D0 D1 D2 : DataW Unit} {z0 z1 z2 : List Int} (h0 : Means 81 D0 z0) (h1 : Means 81 D1 z1) (h2 : Means 81 D2 z2) : Means 82 (.agg [D0, D1, D2]) (z0 ++ (z1 ++ (z2 ++ []))) :=
  means_arr (zss := [z0, z1, z2]) Tryd.underlying82 cRuns3 (by kernel_rfl) rfl fun i hi => by
    obtain rfl | rfl | rfl : i = 0 ∨ i = 1 ∨ i = 2 := by omega
    · exact ⟨_, rfl, h0⟩
    · exact ⟨_, rfl, h1⟩
    · exact ⟨_, rfl, h2⟩
theorem flat1 (zs : List Int) : (zs.map fun z => [z]).flatten = zs := by
  induction zs with
  | nil => rfl
  | cons z zs ih => rw [List.map_cons, List.flatten_cons, ih]; rfl
theorem means_ints {t : TypeId} {n : Nat} (ht : Tryd.prog.underlying t = some (.array n 3)) (hct : Tryd.prog.cellsOf t = n * 1) (zs : List Int) (hz : zs.length = n) : Means t (.agg (zs.map fun z => .lit (.int .i64 z))) zs := by
  have h := means_arr (Ds := zs.map fun z => .lit (.int .i64 z)) (zss := zs.map fun z => [z]) ht cInt hct (by rw [List.length_map]; exact hz) fun i hi => by
    have hx : zs[i]? = some (zs[i]'(by omega)) := List.getElem?_eq_getElem (by omega)
    refine ⟨_, by rw [List.getElem?_map, hx]; rfl, ?_⟩
    rw [List.getD_eq_getElem?_getD, List.getElem?_map, hx]
    exact means_int _
  rw [flat1] at h
  exact h
theorem means_pair (a b : Int) : Means 45 (.agg [.lit (.int .i64 a), .lit (.int .i64 b)]) [a, b] := means_ints Tryd.underlying45 (by kernel_rfl) [a, b] rfl
theorem data_T : Means 116 (Rows.laid_swatch_etctwo_colourT : DataW Unit) tcL := means_two (means_three (means_runs _ _ _ _ _ _) (means_runs _ _ _ _ _ _) (means_runs _ _ _ _ _ _)) (means_three (means_runs _ _ _ _ _ _) (means_runs _ _ _ _ _ _) (means_runs _ _ _ _ _ _))
theorem data_H : Means 116 (Rows.laid_swatch_etctwo_colourH : DataW Unit) hcL := means_two (means_three (means_runs _ _ _ _ _ _) (means_runs _ _ _ _ _ _) (means_runs _ _ _ _ _ _)) (means_three (means_runs _ _ _ _ _ _) (means_runs _ _ _ _ _ _) (means_runs _ _ _ _ _ _))
theorem data_P : Means 82 (Rows.laid_swatch_etctwo_colourPlanar : DataW Unit) plL := means_nine (means_three (means_runs _ _ _ _ _ _) (means_runs _ _ _ _ _ _) (means_runs _ _ _ _ _ _)) (means_three (means_runs _ _ _ _ _ _) (means_runs _ _ _ _ _ _) (means_runs _ _ _ _ _ _)) (means_three (means_runs _ _ _ _ _ _) (means_runs _ _ _ _ _ _) (means_runs _ _ _ _ _ _))
theorem data_dT : Means 80 (Rows.laid_swatch_etctwo_distanceT : DataW Unit) (rV dtA dtM) := means_runs _ _ _ _ _ _
theorem data_dH : Means 80 (Rows.laid_swatch_etctwo_distanceH : DataW Unit) (rV dhA dhM) := means_runs _ _ _ _ _ _
theorem data_bf : Means 80 (Rows.laid_swatch_etctwo_blueFirst : DataW Unit) [19, 2, 0, 0, 0, 0] := means_runs _ _ _ _ _ _
theorem data_bs : Means 80 (Rows.laid_swatch_etctwo_blueSecond : DataW Unit) [22, 2, 0, 0, 0, 0] := means_runs _ _ _ _ _ _
theorem data_ba : Means 75 (Rows.laid_swatch_etctwo_blueAbove : DataW Unit) [16, 3] := means_run _ _
theorem data_bb : Means 75 (Rows.laid_swatch_etctwo_blueBelow : DataW Unit) [21, 1] := means_run _ _
theorem data_df : Means 75 (Rows.laid_swatch_etctwo_diff : DataW Unit) [30, 1] := means_run _ _
theorem data_kp : Means 84 (Rows.laid_swatch_etctwo_keepers : DataW Unit) [0, 1, 8, 1] :=
  means_arr (zss := [[0, 1], [8, 1]]) Tryd.underlying84 cRun (by kernel_rfl) rfl fun i hi => by
    obtain rfl | rfl : i = 0 ∨ i = 1 := by omega
    all_goals exact ⟨_, rfl, means_run _ _⟩
theorem data_dis : Means 72 (Rows.laid_swatch_etctwo_distances : DataW Unit) disL := means_ints Tryd.underlying72 (by kernel_rfl) disL rfl
theorem data_kb : Means 24 (Rows.laid_swatch_etctwo_kindsByChannel : DataW Unit) kbL := means_ints Tryd.underlying24 (by kernel_rfl) kbL rfl
theorem data_num : Means 129 (Rows.laid_swatch_etcone_numbers : DataW Unit) numL :=
  means_arr (zss := [[2, 8], [5, 17], [9, 29], [13, 42], [18, 60], [24, 80], [33, 106], [47, 183]]) Tryd.underlying129 (show Tryd.prog.cellsOf 45 = 2 by kernel_rfl) (by kernel_rfl) rfl fun i hi => by
    obtain rfl | rfl | rfl | rfl | rfl | rfl | rfl | rfl : i = 0 ∨ i = 1 ∨ i = 2 ∨ i = 3 ∨ i = 4 ∨ i = 5 ∨ i = 6 ∨ i = 7 := by omega
    all_goals exact ⟨_, rfl, means_pair _ _⟩
def laidL : List (String × DataW Unit) := [("swatch/etcone.numbers", Rows.laid_swatch_etcone_numbers), ("swatch/etctwo.colourT", Rows.laid_swatch_etctwo_colourT), ("swatch/etctwo.colourH", Rows.laid_swatch_etctwo_colourH), ("swatch/etctwo.colourPlanar", Rows.laid_swatch_etctwo_colourPlanar), ("swatch/etctwo.distanceT", Rows.laid_swatch_etctwo_distanceT), ("swatch/etctwo.distanceH", Rows.laid_swatch_etctwo_distanceH), ("swatch/etctwo.keepers", Rows.laid_swatch_etctwo_keepers), ("swatch/etctwo.blueAbove", Rows.laid_swatch_etctwo_blueAbove), ("swatch/etctwo.blueBelow", Rows.laid_swatch_etctwo_blueBelow), ("swatch/etctwo.diff", Rows.laid_swatch_etctwo_diff), ("swatch/etctwo.blueFirst", Rows.laid_swatch_etctwo_blueFirst), ("swatch/etctwo.blueSecond", Rows.laid_swatch_etctwo_blueSecond), ("swatch/etctwo.distances", Rows.laid_swatch_etctwo_distances), ("swatch/etctwo.kindsByChannel", Rows.laid_swatch_etctwo_kindsByChannel)]
theorem g_num : Tryd.prog.globalNamed "swatch/etcone.numbers" = some 13 := by kernel_rfl
theorem y_num : (Tryd.prog.globals[13]?).map (·.type) = some 129 := by kernel_rfl
theorem g_T : Tryd.prog.globalNamed "swatch/etctwo.colourT" = some 9 := by kernel_rfl
theorem y_T : (Tryd.prog.globals[9]?).map (·.type) = some 116 := by kernel_rfl
theorem g_H : Tryd.prog.globalNamed "swatch/etctwo.colourH" = some 12 := by kernel_rfl
theorem y_H : (Tryd.prog.globals[12]?).map (·.type) = some 116 := by kernel_rfl
theorem g_P : Tryd.prog.globalNamed "swatch/etctwo.colourPlanar" = some 1 := by kernel_rfl
theorem y_P : (Tryd.prog.globals[1]?).map (·.type) = some 82 := by kernel_rfl
theorem g_dT : Tryd.prog.globalNamed "swatch/etctwo.distanceT" = some 10 := by kernel_rfl
theorem y_dT : (Tryd.prog.globals[10]?).map (·.type) = some 80 := by kernel_rfl
theorem g_dH : Tryd.prog.globalNamed "swatch/etctwo.distanceH" = some 11 := by kernel_rfl
theorem y_dH : (Tryd.prog.globals[11]?).map (·.type) = some 80 := by kernel_rfl
theorem g_kp : Tryd.prog.globalNamed "swatch/etctwo.keepers" = some 7 := by kernel_rfl
theorem y_kp : (Tryd.prog.globals[7]?).map (·.type) = some 84 := by kernel_rfl
theorem g_ba : Tryd.prog.globalNamed "swatch/etctwo.blueAbove" = some 5 := by kernel_rfl
theorem y_ba : (Tryd.prog.globals[5]?).map (·.type) = some 75 := by kernel_rfl
theorem g_bb : Tryd.prog.globalNamed "swatch/etctwo.blueBelow" = some 6 := by kernel_rfl
theorem y_bb : (Tryd.prog.globals[6]?).map (·.type) = some 75 := by kernel_rfl
theorem g_df : Tryd.prog.globalNamed "swatch/etctwo.diff" = some 2 := by kernel_rfl
theorem y_df : (Tryd.prog.globals[2]?).map (·.type) = some 75 := by kernel_rfl
theorem g_bf : Tryd.prog.globalNamed "swatch/etctwo.blueFirst" = some 3 := by kernel_rfl
theorem y_bf : (Tryd.prog.globals[3]?).map (·.type) = some 80 := by kernel_rfl
theorem g_bs : Tryd.prog.globalNamed "swatch/etctwo.blueSecond" = some 4 := by kernel_rfl
theorem y_bs : (Tryd.prog.globals[4]?).map (·.type) = some 80 := by kernel_rfl
theorem g_dis : Tryd.prog.globalNamed "swatch/etctwo.distances" = some 0 := by kernel_rfl
theorem y_dis : (Tryd.prog.globals[0]?).map (·.type) = some 72 := by kernel_rfl
theorem g_kb : Tryd.prog.globalNamed "swatch/etctwo.kindsByChannel" = some 8 := by kernel_rfl
theorem y_kb : (Tryd.prog.globals[8]?).map (·.type) = some 24 := by kernel_rfl
theorem cells_var {W : World} {name : String} {g : Nat} {cs : Array Value} {vs : List Value} (hg : Tryd.prog.globalNamed name = some g) (hv : W.var? Tryd.prog name = some cs) (hc : cs.toList = vs) : cellsF g vs W := fun i v hi => by
  rw [World.var?_cell hg hv i, ← Array.getElem?_toList, hc]
  exact hi
set_option maxRecDepth 100000 in
theorem tabs {W : World} (h : laidMetH Tryd.prog laidL W) : Glb W := by
  rw [MakeChecks.laidMetH_plain _ _ _ (by kernel_rfl)] at h
  obtain ⟨ps, ⟨g0, t0, cs0, f0, p0, q0, hg0, ht0, hv0, hd0, ⟨g1, t1, cs1, f1, p1, q1, hg1, ht1, hv1, hd1, ⟨g2, t2, cs2, f2, p2, q2, hg2, ht2, hv2, hd2, ⟨g3, t3, cs3, f3, p3, q3, hg3, ht3, hv3, hd3, ⟨g4, t4, cs4, f4, p4, q4, hg4, ht4, hv4, hd4, ⟨g5, t5, cs5, f5, p5, q5, hg5, ht5, hv5, hd5, ⟨g6, t6, cs6, f6, p6, q6, hg6, ht6, hv6, hd6, ⟨g7, t7, cs7, f7, p7, q7, hg7, ht7, hv7, hd7, ⟨g8, t8, cs8, f8, p8, q8, hg8, ht8, hv8, hd8, ⟨g9, t9, cs9, f9, p9, q9, hg9, ht9, hv9, hd9, ⟨g10, t10, cs10, f10, p10, q10, hg10, ht10, hv10, hd10, ⟨g11, t11, cs11, f11, p11, q11, hg11, ht11, hv11, hd11, ⟨g12, t12, cs12, f12, p12, q12, hg12, ht12, hv12, hd12, ⟨g13, t13, cs13, f13, p13, q13, hg13, ht13, hv13, hd13, _, _⟩, _⟩, _⟩, _⟩, _⟩, _⟩, _⟩, _⟩, _⟩, _⟩, _⟩, _⟩, _⟩, _⟩, _, _⟩ := h
  obtain rfl := Option.some.inj (g_num.symm.trans hg0)
  obtain rfl := Option.some.inj (y_num.symm.trans ht0)
  obtain rfl := Option.some.inj (g_T.symm.trans hg1)
  obtain rfl := Option.some.inj (y_T.symm.trans ht1)
  obtain rfl := Option.some.inj (g_H.symm.trans hg2)
  obtain rfl := Option.some.inj (y_H.symm.trans ht2)
  obtain rfl := Option.some.inj (g_P.symm.trans hg3)
  obtain rfl := Option.some.inj (y_P.symm.trans ht3)
  obtain rfl := Option.some.inj (g_dT.symm.trans hg4)
  obtain rfl := Option.some.inj (y_dT.symm.trans ht4)
  obtain rfl := Option.some.inj (g_dH.symm.trans hg5)
  obtain rfl := Option.some.inj (y_dH.symm.trans ht5)
  obtain rfl := Option.some.inj (g_kp.symm.trans hg6)
  obtain rfl := Option.some.inj (y_kp.symm.trans ht6)
  obtain rfl := Option.some.inj (g_ba.symm.trans hg7)
  obtain rfl := Option.some.inj (y_ba.symm.trans ht7)
  obtain rfl := Option.some.inj (g_bb.symm.trans hg8)
  obtain rfl := Option.some.inj (y_bb.symm.trans ht8)
  obtain rfl := Option.some.inj (g_df.symm.trans hg9)
  obtain rfl := Option.some.inj (y_df.symm.trans ht9)
  obtain rfl := Option.some.inj (g_bf.symm.trans hg10)
  obtain rfl := Option.some.inj (y_bf.symm.trans ht10)
  obtain rfl := Option.some.inj (g_bs.symm.trans hg11)
  obtain rfl := Option.some.inj (y_bs.symm.trans ht11)
  obtain rfl := Option.some.inj (g_dis.symm.trans hg12)
  obtain rfl := Option.some.inj (y_dis.symm.trans ht12)
  obtain rfl := Option.some.inj (g_kb.symm.trans hg13)
  obtain rfl := Option.some.inj (y_kb.symm.trans ht13)
  exact ⟨cells_var g_num hv0 (data_num _ _ _ _ hd0 rfl), cells_var g_T hv1 (data_T _ _ _ _ hd1 rfl), cells_var g_H hv2 (data_H _ _ _ _ hd2 rfl), cells_var g_P hv3 (data_P _ _ _ _ hd3 rfl), cells_var g_dT hv4 (data_dT _ _ _ _ hd4 rfl), cells_var g_dH hv5 (data_dH _ _ _ _ hd5 rfl), cells_var g_dis hv12 (data_dis _ _ _ _ hd12 rfl), cells_var g_kb hv13 (data_kb _ _ _ _ hd13 rfl), cells_var g_df hv9 (data_df _ _ _ _ hd9 rfl), cells_var g_kp hv6 (data_kp _ _ _ _ hd6 rfl), cells_var g_ba hv7 (data_ba _ _ _ _ hd7 rfl), cells_var g_bb hv8 (data_bb _ _ _ _ hd8 rfl), cells_var g_bf hv10 (data_bf _ _ _ _ hd10 rfl), cells_var g_bs hv11 (data_bs _ _ _ _ hd11 rfl)⟩

/-- A world in which the tables lie. -/
def lay2 (cs : Array Value) : Obj → Obj
  | .cells _ t frozen => .cells cs t frozen
  | o => o
noncomputable def laidWorld (os : Os) : World :=
  { World.holding Tryd.prog os ⟨#[], #[], []⟩ with heap := ((((((((((((((World.holding Tryd.prog os ⟨#[], #[], []⟩).heap.modify 13 (lay2 (i64s numL).toArray)).modify 9 (lay2 (i64s tcL).toArray)).modify 12 (lay2 (i64s hcL).toArray)).modify 1 (lay2 (i64s plL).toArray)).modify 10 (lay2 (i64s (rV dtA dtM)).toArray)).modify 11 (lay2 (i64s (rV dhA dhM)).toArray)).modify 7 (lay2 (i64s [0, 1, 8, 1]).toArray)).modify 5 (lay2 (i64s [16, 3]).toArray)).modify 6 (lay2 (i64s [21, 1]).toArray)).modify 2 (lay2 (i64s [30, 1]).toArray)).modify 3 (lay2 (i64s [19, 2, 0, 0, 0, 0]).toArray)).modify 4 (lay2 (i64s [22, 2, 0, 0, 0, 0]).toArray)).modify 0 (lay2 (i64s disL).toArray)).modify 8 (lay2 (i64s kbL).toArray) }
theorem own : ownKnob Tryd.prog.godebug = none := by kernel_rfl
set_option maxRecDepth 100000 in
theorem laid_met (os : Os) (args : Array Value) : laidMet Tryd.prog laidL ((laidWorld os).forCall (fun _ _ => 0) ⟨#[], args, []⟩).memory :=
  laidMet_of_run' 8 (by kernel_rfl) (by kernel_rfl)
end Go.Proofs.YtgcijioiicmjiaaDoor
