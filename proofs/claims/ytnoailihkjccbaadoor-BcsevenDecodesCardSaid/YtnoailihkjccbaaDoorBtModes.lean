/- The modes: a literal of structs; structs of ten numbers compared. -/
import Derived.Test.YtnoailihkjccbaaDoorBtTab
set_option linter.all false
namespace Go.Proofs.YtnoailihkjccbaaDoor
open Go.RowKit
open Bt

namespace Bt
def z10 : List Int := [0, 0, 0, 0, 0, 0, 0, 0, 0, 0]
def modeV (k : Nat) : Value := .agg (i64s ((modesL.drop (10 * k)).take 10)).toArray
def modesP : List (Nat × Value) := [(0, modeV 0), (1, modeV 1), (2, modeV 2), (3, modeV 3), (4, modeV 4), (5, modeV 5), (6, modeV 6), (7, modeV 7)]
end Bt
instance : Aggr 49 10 := ⟨⟨_, Tryd.underlying49, rfl⟩, by kernel_rfl⟩
instance : Aggr 54 10 := ⟨⟨_, Tryd.underlying54, rfl⟩, by kernel_rfl⟩
instance : ZeroV 49 (i64s [0, 0, 0, 0, 0, 0, 0, 0, 0, 0]) := .of (by kernel_rfl)
instance : ZeroV 54 (i64s [0, 0, 0, 0, 0, 0, 0, 0, 0, 0]) := .of (by kernel_rfl)

theorem kn_builds {w u : World} {R : List Res} {F : List (World → Prop)} {ops : Array Oper} {rest : List Oper} {o : Oper} {a : Act} {Q : Exit → Act → World → Prop} (E : Kn w R F u) (hgd : o.guard = none) {t e : TypeId} {len : Nat} {parts : Array (Nat × Operand)} (ho : o.op = .buildSlice t len parts) (vs : List Value) (pl : List (Nat × Value)) {m : Nat} {zc : Array Value}
    (hu : Tryd.prog.underlying t = some (.slice e)) (hi : (Tryd.prog.info? e).map (fun i => (i.size, i.zero.map (·.cells))) = some (m, some zc)) (hpos : ¬ len * m = 0) (hsmall : ¬ len * m > 2 ^ 24)
    (hf : Instr.fill (fun i => some (i * m, m)) ((Array.range (len * m)).map (zc[· % zc.size]!)) pl = some vs.toArray)
    (hparts : (parts.map fun (i, x) => (i, a.eval x)).toList = pl)
    (h : ∀ g u', Kn w (.row g e vs :: R) F u' → u.heap.size ≤ g → wpList Tryd.prog ops Q rest (a.put o.dst (.slice (some ⟨g, 0, none⟩) len len)) u') : wpList Tryd.prog ops Q (o :: rest) a u := by
  cases hie : Tryd.prog.info? e with
  | none => simp [hie] at hi
  | some ie =>
    cases hz : ie.zero with
    | none => simp [hie, hz] at hi
    | some z =>
      simp only [hie, hz, Option.map_some, Option.some.injEq, Prod.mk.injEq] at hi
      obtain ⟨rfl, rfl⟩ := hi
      refine wpList_buildSlice hgd t e len parts ho vs.toArray ie z hu hie hz hsmall hpos ?_ (h _ _ (E.new e vs) (Nat.le_refl _))
      rw [hparts]
      exact hf
theorem mode_info : (Tryd.prog.info? 49).map (fun i => (i.size, i.zero.map (·.cells))) = some (10, some (i64s z10).toArray) := by kernel_rfl
theorem rmode_info : (Tryd.prog.info? 54).map (fun i => (i.size, i.zero.map (·.cells))) = some (10, some (i64s z10).toArray) := by kernel_rfl
theorem modes_fill : Instr.fill (fun i => some (i * 10, 10)) ((Array.range (8 * 10)).map ((i64s z10).toArray[· % (i64s z10).toArray.size]!)) modesP = some (i64s modesL).toArray := by kernel_rfl

set_option maxHeartbeats 2000000 in
set_option maxRecDepth 100000 in
theorem modes (w : World) : Calls Tryd.prog 23 #[] w (LitC w 49 8 (i64s modesL)) := by
  have E := Lib.hid (Kn.start w)
  go_enter Tryd.func23, Tryd.ntmps23
  go_wp2_with (first
    | ((with_reducible refine kn_builds E.out rfl rfl (i64s modesL) modesP Tryd.underlying50 mode_info ?_ ?_ modes_fill ?_ ?_); (focus (omega)); (focus (omega)); (focus (simp only [List.map_toArray, List.map_cons, List.map_nil]; rfl)); clear E; intro gg u E0 hg; have E := Lib.hid E0; clear E0)
    | ((with_reducible refine kn_load E.out rfl rfl rfl rfl ?_)) | ((with_reducible refine kn_load_if E.out rfl rfl rfl rfl ?_)) | ((with_reducible refine kn_loads E.out rfl rfl rfl ?_ ?_); (focus (first | rfl | (simp only [i64s_length, u8s_length]; first | rfl | assumption | omega)))) | ((with_reducible refine kn_loads_if E.out rfl rfl rfl ?_ ?_); (focus (first | rfl | (simp only [i64s_length, u8s_length]; first | rfl | assumption | omega)))) | ((with_reducible refine kn_store1_int E.out rfl rfl rfl rfl rfl ?_); clear E; intro u E0; have E := Lib.hid E0; clear E0) | ((with_reducible refine kn_store1_slice E.out rfl rfl rfl rfl rfl ?_); clear E; intro u E0; have E := Lib.hid E0; clear E0) | ((with_reducible refine kn_store1_bool E.out rfl rfl rfl rfl rfl ?_); clear E; intro u E0; have E := Lib.hid E0; clear E0) | ((with_reducible refine kn_stores E.out rfl rfl rfl rfl rfl ?_ ?_ ?_); (focus (first | exact ⟨rfl, rfl⟩ | (simp only [i64s_length, u8s_length]; refine ⟨?_, ?_⟩ <;> first | rfl | assumption | omega))); (focus (first | exact i64s_one _ | exact u8s_one _ | simp [Value.oneCell'])); clear E; intro u E0; have E := Lib.hid E0; clear E0) | ((with_reducible refine kn_alloc E.out rfl rfl ?_); clear E; intro g u E0 hb0; have E := Lib.hid E0; clear E0 hb0) | ((with_reducible refine kn_box E.out rfl rfl rfl ?_); clear E; intro g u E0 hb0; have E := Lib.hid E0; clear E0 hb0) | ((with_reducible refine kn_box_int E.out rfl rfl rfl ?_); clear E; intro g u E0 hb0; have E := Lib.hid E0; clear E0 hb0) | ((with_reducible refine kn_box_slice E.out rfl rfl rfl ?_); clear E; intro g u E0 hb0; have E := Lib.hid E0; clear E0 hb0) | ((with_reducible refine kn_box_bool E.out rfl rfl rfl ?_); clear E; intro g u E0 hb0; have E := Lib.hid E0; clear E0 hb0) | ((with_reducible refine kn_box_func E.out rfl rfl rfl ?_); clear E; intro g u E0 hb0; have E := Lib.hid E0; clear E0 hb0))
  go_ret
  exact ⟨gg, rfl, by first | exact hg | exact Nat.le_trans E.out.bel.size hg, E.out.row, E.out.bel⟩
set_option maxHeartbeats 2000000 in
set_option maxRecDepth 100000 in
theorem rmodes (w : World) : Calls Tryd.prog 25 #[] w (LitC w 54 8 (i64s modesL)) := by
  have E := Lib.hid (Kn.start w)
  go_enter Tryd.func25, Tryd.ntmps25
  go_wp2_with (first
    | ((with_reducible refine kn_builds E.out rfl rfl (i64s modesL) modesP Tryd.underlying55 rmode_info ?_ ?_ modes_fill ?_ ?_); (focus (omega)); (focus (omega)); (focus (simp only [List.map_toArray, List.map_cons, List.map_nil]; rfl)); clear E; intro gg u E0 hg; have E := Lib.hid E0; clear E0)
    | ((with_reducible refine kn_load E.out rfl rfl rfl rfl ?_)) | ((with_reducible refine kn_load_if E.out rfl rfl rfl rfl ?_)) | ((with_reducible refine kn_loads E.out rfl rfl rfl ?_ ?_); (focus (first | rfl | (simp only [i64s_length, u8s_length]; first | rfl | assumption | omega)))) | ((with_reducible refine kn_loads_if E.out rfl rfl rfl ?_ ?_); (focus (first | rfl | (simp only [i64s_length, u8s_length]; first | rfl | assumption | omega)))) | ((with_reducible refine kn_store1_int E.out rfl rfl rfl rfl rfl ?_); clear E; intro u E0; have E := Lib.hid E0; clear E0) | ((with_reducible refine kn_store1_slice E.out rfl rfl rfl rfl rfl ?_); clear E; intro u E0; have E := Lib.hid E0; clear E0) | ((with_reducible refine kn_store1_bool E.out rfl rfl rfl rfl rfl ?_); clear E; intro u E0; have E := Lib.hid E0; clear E0) | ((with_reducible refine kn_stores E.out rfl rfl rfl rfl rfl ?_ ?_ ?_); (focus (first | exact ⟨rfl, rfl⟩ | (simp only [i64s_length, u8s_length]; refine ⟨?_, ?_⟩ <;> first | rfl | assumption | omega))); (focus (first | exact i64s_one _ | exact u8s_one _ | simp [Value.oneCell'])); clear E; intro u E0; have E := Lib.hid E0; clear E0) | ((with_reducible refine kn_alloc E.out rfl rfl ?_); clear E; intro g u E0 hb0; have E := Lib.hid E0; clear E0 hb0) | ((with_reducible refine kn_box E.out rfl rfl rfl ?_); clear E; intro g u E0 hb0; have E := Lib.hid E0; clear E0 hb0) | ((with_reducible refine kn_box_int E.out rfl rfl rfl ?_); clear E; intro g u E0 hb0; have E := Lib.hid E0; clear E0 hb0) | ((with_reducible refine kn_box_slice E.out rfl rfl rfl ?_); clear E; intro g u E0 hb0; have E := Lib.hid E0; clear E0 hb0) | ((with_reducible refine kn_box_bool E.out rfl rfl rfl ?_); clear E; intro g u E0 hb0; have E := Lib.hid E0; clear E0 hb0) | ((with_reducible refine kn_box_func E.out rfl rfl rfl ?_); clear E; intro g u E0 hb0; have E := Lib.hid E0; clear E0 hb0))
  go_ret
  exact ⟨gg, rfl, by first | exact hg | exact Nat.le_trans E.out.bel.size hg, E.out.row, E.out.bel⟩
/-- The fields of a struct, one after another, by what the comparison asks of them. -/
def eqF (d : Nat) (xs ys : Array Value) : List (Bool × TypeId × Nat) → Sem Bool
  | [] => pure true
  | (b, t, o) :: fs => if b = true then do
      let x ← part t xs o
      let y ← part t ys o
      let r ← Op.equalIn d t x y
      if (!r) = true then pure false else eqF d xs ys fs
    else eqF d xs ys fs
theorem eqFields_eqF (d : Nat) (xs ys : Array Value) : ∀ fs : List Field, Op.eqFields d xs ys fs = eqF d xs ys (fs.map fun f => (decide (f.name ≠ "_"), f.type, f.offset))
  | [] => rfl
  | f :: fs => by
    rw [Op.eqFields, List.map_cons, eqF, eqFields_eqF d xs ys fs]
    simp only [decide_eq_true_eq]
theorem part_int {xs : Array Value} {i : Nat} {z : Int} (w : World) (hx : xs[i]? = some (.int .i64 z)) : (part 3 xs i).run Tryd.prog w = .ok (.int .i64 z) w := by
  simp [part, isAgg, run_underlying Tryd.underlying3, hx]
theorem eqF_int (d : Nat) {xs ys : Array Value} {x y : Int} {o : Nat} (fs : List (Bool × TypeId × Nat)) (w : World) (hx : xs[o]? = some (.int .i64 x)) (hy : ys[o]? = some (.int .i64 y)) :
    (eqF (d + 1) xs ys ((true, 3, o) :: fs)).run Tryd.prog w = if (x == y) = true then (eqF (d + 1) xs ys fs).run Tryd.prog w else .ok false w := by
  simp only [eqF, if_true, Sem.run_bind, Result.andThen_ok, part_int w hx, part_int w hy, run_equalIn_int w d _ .i64 .i64 x y Tryd.underlying3]
  cases x == y <;> simp
theorem ite_ok (c b : Bool) (w : World) : (if c = true then (Result.ok b w : Result Bool) else .ok false w) = .ok (c && b) w := by cases c <;> rfl
theorem eq_mode (x0 x1 x2 x3 x4 x5 x6 x7 x8 x9 y0 y1 y2 y3 y4 y5 y6 y7 y8 y9 : Int) (w : World) :
    (Op.equalIn 10000 49 (.agg #[.int .i64 x0, .int .i64 x1, .int .i64 x2, .int .i64 x3, .int .i64 x4, .int .i64 x5, .int .i64 x6, .int .i64 x7, .int .i64 x8, .int .i64 x9]) (.agg #[.int .i64 y0, .int .i64 y1, .int .i64 y2, .int .i64 y3, .int .i64 y4, .int .i64 y5, .int .i64 y6, .int .i64 y7, .int .i64 y8, .int .i64 y9])).run Tryd.prog w = .ok (x0 == y0 && x1 == y1 && x2 == y2 && x3 == y3 && x4 == y4 && x5 == y5 && x6 == y6 && x7 == y7 && x8 == y8 && x9 == y9) w := by
  have hf : Tryd.prog.underlying 49 = some (.struct (Tryd.prog.fieldsOf 49)) := by kernel_rfl
  have hs : Tryd.prog.stoodInHeld 49 = false := by kernel_rfl
  have hg : (Tryd.prog.fieldsOf 49).toList.map (fun f => (decide (f.name ≠ "_"), f.type, f.offset)) = [(true, 3, 0), (true, 3, 1), (true, 3, 2), (true, 3, 3), (true, 3, 4), (true, 3, 5), (true, 3, 6), (true, 3, 7), (true, 3, 8), (true, 3, 9)] := by kernel_rfl
  rw [run_equalIn_struct w 9999 _ _ _ hf hs, eqFields_eqF, hg]
  obtain ⟨X, hX⟩ : ∃ X : Array Value, X = #[.int .i64 x0, .int .i64 x1, .int .i64 x2, .int .i64 x3, .int .i64 x4, .int .i64 x5, .int .i64 x6, .int .i64 x7, .int .i64 x8, .int .i64 x9] := ⟨_, rfl⟩
  obtain ⟨Y, hY⟩ : ∃ Y : Array Value, Y = #[.int .i64 y0, .int .i64 y1, .int .i64 y2, .int .i64 y3, .int .i64 y4, .int .i64 y5, .int .i64 y6, .int .i64 y7, .int .i64 y8, .int .i64 y9] := ⟨_, rfl⟩
  rw [← hX, ← hY]
  have a0 : X[0]? = some (.int .i64 x0) := by rw [hX]; rfl
  have b0 : Y[0]? = some (.int .i64 y0) := by rw [hY]; rfl
  have a1 : X[1]? = some (.int .i64 x1) := by rw [hX]; rfl
  have b1 : Y[1]? = some (.int .i64 y1) := by rw [hY]; rfl
  have a2 : X[2]? = some (.int .i64 x2) := by rw [hX]; rfl
  have b2 : Y[2]? = some (.int .i64 y2) := by rw [hY]; rfl
  have a3 : X[3]? = some (.int .i64 x3) := by rw [hX]; rfl
  have b3 : Y[3]? = some (.int .i64 y3) := by rw [hY]; rfl
  have a4 : X[4]? = some (.int .i64 x4) := by rw [hX]; rfl
  have b4 : Y[4]? = some (.int .i64 y4) := by rw [hY]; rfl
  have a5 : X[5]? = some (.int .i64 x5) := by rw [hX]; rfl
  have b5 : Y[5]? = some (.int .i64 y5) := by rw [hY]; rfl
  have a6 : X[6]? = some (.int .i64 x6) := by rw [hX]; rfl
  have b6 : Y[6]? = some (.int .i64 y6) := by rw [hY]; rfl
  have a7 : X[7]? = some (.int .i64 x7) := by rw [hX]; rfl
  have b7 : Y[7]? = some (.int .i64 y7) := by rw [hY]; rfl
  have a8 : X[8]? = some (.int .i64 x8) := by rw [hX]; rfl
  have b8 : Y[8]? = some (.int .i64 y8) := by rw [hY]; rfl
  have a9 : X[9]? = some (.int .i64 x9) := by rw [hX]; rfl
  have b9 : Y[9]? = some (.int .i64 y9) := by rw [hY]; rfl
  rw [eqF_int 9998 _ w a0 b0, eqF_int 9998 _ w a1 b1, eqF_int 9998 _ w a2 b2, eqF_int 9998 _ w a3 b3, eqF_int 9998 _ w a4 b4, eqF_int 9998 _ w a5 b5, eqF_int 9998 _ w a6 b6, eqF_int 9998 _ w a7 b7, eqF_int 9998 _ w a8 b8, eqF_int 9998 _ w a9 b9]
  simp only [eqF, Sem.run_pure, ite_ok, Bool.and_assoc, Bool.and_true]
end Go.Proofs.YtnoailihkjccbaaDoor
