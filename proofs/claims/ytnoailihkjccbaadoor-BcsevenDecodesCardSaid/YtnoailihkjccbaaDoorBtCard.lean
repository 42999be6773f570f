/- What the rows' lists give: the tables lie in the program's variables; and a world of that kind. -/
import Derived.Test.YtnoailihkjccbaaDoorRows
import Derived.Test.YtnoailihkjccbaaDoorBtAwake
import Derived.OpenShut
import Derived.LaidMore
import Derived.Deep.DeepHandedRow
import Derived.Lib.LaidTab
set_option linter.all false
namespace Go.Proofs.YtnoailihkjccbaaDoor
open Go.RowKit Go.ChangeShapes Go.WideShapes Go.ChangeAt
open Bt

theorem gTwos : Tryd.prog.globalNamed "swatch/bctable.twos" = some 0 := by kernel_rfl
theorem gThrees : Tryd.prog.globalNamed "swatch/bctable.threes" = some 1 := by kernel_rfl
theorem gAnch : Tryd.prog.globalNamed "swatch/bctable.anchors" = some 2 := by kernel_rfl
theorem yTwos : (Tryd.prog.globals[0]?).map (·.type) = some 100 := by kernel_rfl
theorem yThrees : (Tryd.prog.globals[1]?).map (·.type) = some 102 := by kernel_rfl
theorem yAnch : (Tryd.prog.globals[2]?).map (·.type) = some 109 := by kernel_rfl
theorem cU16 : Tryd.prog.cellsOf 99 = 1 := by kernel_rfl
theorem cU32 : Tryd.prog.cellsOf 101 = 1 := by kernel_rfl
theorem cU8 : Tryd.prog.cellsOf 5 = 1 := by kernel_rfl
theorem cA16 : Tryd.prog.cellsOf 100 = 64 := by kernel_rfl
theorem cA32 : Tryd.prog.cellsOf 102 = 64 := by kernel_rfl
theorem cA8 : Tryd.prog.cellsOf 107 = 64 := by kernel_rfl
theorem cSub : Tryd.prog.cellsOf 106 = 2 := by kernel_rfl
theorem cInt : Tryd.prog.cellsOf 3 = 1 := by kernel_rfl
theorem cRow : Tryd.prog.cellsOf 108 = 66 := by kernel_rfl
theorem cAnch : Tryd.prog.cellsOf 109 = 198 := by kernel_rfl
theorem fSub : Tryd.prog.underlying 106 = some (.struct (Tryd.prog.fieldsOf 106)) := by kernel_rfl
theorem fRow : Tryd.prog.underlying 108 = some (.struct (Tryd.prog.fieldsOf 108)) := by kernel_rfl
theorem fSubs : (Tryd.prog.fieldsOf 106).toList.map (fun f => (f.type, f.offset)) = [(3, 0), (3, 1)] := by kernel_rfl
theorem fRows : (Tryd.prog.fieldsOf 108).toList.map (fun f => (f.type, f.offset)) = [(106, 0), (107, 2)] := by kernel_rfl

/-- A struct of two fields, opened. -/
theorem open_two {H : Type} {enc : TypeId × Value → H} {w : World} {base : Nat} {sp : Nat → Bool} {held : Bool} {fuel : Nat} {t t0 t1 o1 : Nat} {cs : List Value} {x : DataW H × List MemPlace}
    (ht : Tryd.prog.underlying t = some (.struct (Tryd.prog.fieldsOf t))) (hf : (Tryd.prog.fieldsOf t).toList.map (fun f => (f.type, f.offset)) = [(t0, 0), (t1, o1)])
    (h : DataW.trod enc Tryd.prog w base sp held fuel t cs = some x) :
    ∃ n y0 y1, x.1 = .agg [y0.1, y1.1] ∧ cs.length = Tryd.prog.cellsOf t ∧ DataW.trod enc Tryd.prog w base sp held n t0 ((cs.drop 0).take (Tryd.prog.cellsOf t0)) = some y0 ∧ DataW.trod enc Tryd.prog w base sp held n t1 ((cs.drop o1).take (Tryd.prog.cellsOf t1)) = some y1 := by
  obtain ⟨xs, n, _, rfl, hl, hlen, hh⟩ := DataW.trod_struct ht h
  generalize Tryd.prog.fieldsOf t = fs at *
  obtain ⟨l⟩ := fs
  have h2 : l.length = 2 := by simpa using congrArg List.length hf
  match l, h2, hf, hlen, hh with
  | [f0, f1], _, hf, hlen, hh =>
    simp only [List.map_cons, List.map_nil, List.cons.injEq, Prod.mk.injEq, and_true] at hf
    obtain ⟨⟨e0, d0⟩, e1, d1⟩ := hf
    match xs, hlen with
    | [y0, y1], _ =>
      have h0 := hh 0 f0 rfl
      have h1 := hh 1 f1 rfl
      rw [e0, d0] at h0
      rw [e1, d1] at h1
      exact ⟨n, y0, y1, rfl, hl, h0, h1⟩

set_option maxRecDepth 100000 in
/-- A row of the anchors' table, out of what it reads as. -/
theorem row_cells {w : World} {fuel : Nat} {cs : List Value} {p q : Int} {xs : List Nat} {pl : List MemPlace} (hx : xs.length = 64)
    (h : DataW.trod (fun _ => ()) Tryd.prog w 0 (fun _ => true) false fuel 108 cs = some (.agg [.agg [.lit (.int .i64 p), .lit (.int .i64 q)], Lib.tabData .u8 (ints xs)], pl)) : cs = anR p q xs := by
  obtain ⟨n, y0, y1, e, hl, h0, h1⟩ := open_two fRow fRows h
  simp only [DataW.agg.injEq, List.cons.injEq, and_true] at e
  obtain ⟨e0, e1⟩ := e
  obtain ⟨n', z0, z1, e', hl', k0, k1⟩ := open_two fSub fSubs h0
  rw [← e0] at e'
  simp only [DataW.agg.injEq, List.cons.injEq, and_true] at e'
  obtain ⟨e2, e3⟩ := e'
  rw [cSub] at k0 k1 h0
  rw [cA8] at h1
  rw [cInt] at k0 k1
  rw [cRow] at hl
  obtain ⟨m0, c0, r0, _⟩ := DataW.trod_int Tryd.underlying3 k0
  obtain ⟨m1, c1, r1, _⟩ := DataW.trod_int Tryd.underlying3 k1
  rw [r0] at e2
  rw [r1] at e3
  simp only [DataW.lit.injEq, Lit.int.injEq, true_and] at e2 e3
  subst e2 e3
  have h1' : DataW.trod (fun _ => ()) Tryd.prog w 0 (fun _ => true) false n 107 ((cs.drop 2).take 64) = some (Lib.tabData .u8 (ints xs), y1.2) := by rw [h1, e1]
  have c2 := Lib.cells_of_tab Tryd.underlying107 Tryd.underlying5 cU8 cA8 h1'
  match cs, hl with
  | a :: b :: r, hl =>
    have hr : r.length = 64 := by simpa using hl
    simp only [List.drop_zero, List.take_succ_cons, List.take_zero, List.cons.injEq, and_true, List.drop_succ_cons] at c0 c1 c2
    rw [List.take_of_length_le (by omega)] at c2
    rw [c0, c1, c2, anR]
    simp [u8s, ints]

theorem data_twos : (Rows.laid_swatch_bctable_twos : DataW Unit) = Lib.tabData .u16 twosL := by kernel_rfl
theorem data_threes : (Rows.laid_swatch_bctable_threes : DataW Unit) = Lib.tabData .u32 threesL := by kernel_rfl
theorem data_anch : (Rows.laid_swatch_bctable_anchors : DataW Unit) = .agg [.agg [.agg [.lit (.int .i64 2), .lit (.int .i64 1)], Lib.tabData .u8 (ints an21)], .agg [.agg [.lit (.int .i64 3), .lit (.int .i64 1)], Lib.tabData .u8 (ints an31)], .agg [.agg [.lit (.int .i64 3), .lit (.int .i64 2)], Lib.tabData .u8 (ints an32)]] := by kernel_rfl
/-- What the three rows list. -/
def laidL : List (String × DataW Unit) := [("swatch/bctable.twos", Rows.laid_swatch_bctable_twos), ("swatch/bctable.threes", Rows.laid_swatch_bctable_threes), ("swatch/bctable.anchors", Rows.laid_swatch_bctable_anchors)]

theorem cells_var {W : World} {name : String} {g : Nat} {cs : Array Value} {vs : List Value} (hg : Tryd.prog.globalNamed name = some g) (hv : W.var? Tryd.prog name = some cs) (hc : cs.toList = vs) : cellsF g vs W := fun i v hi => by
  rw [World.var?_cell hg hv i, ← Array.getElem?_toList, hc]
  exact hi
set_option maxRecDepth 100000 in
theorem tabs {W : World} (h : laidMetH Tryd.prog laidL W) : Tabs W := by
  rw [MakeChecks.laidMetH_plain _ _ _ (by kernel_rfl)] at h
  obtain ⟨ps, ⟨g0, t0, cs0, f0, p0, q0, hg0, ht0, hv0, hd0, ⟨g1, t1, cs1, f1, p1, q1, hg1, ht1, hv1, hd1, ⟨g2, t2, cs2, f2, p2, q2, hg2, ht2, hv2, hd2, _, _⟩, _⟩, _⟩, _, _⟩ := h
  obtain rfl := Option.some.inj (gTwos.symm.trans hg0)
  obtain rfl := Option.some.inj (gThrees.symm.trans hg1)
  obtain rfl := Option.some.inj (gAnch.symm.trans hg2)
  obtain rfl := Option.some.inj (yTwos.symm.trans ht0)
  obtain rfl := Option.some.inj (yThrees.symm.trans ht1)
  obtain rfl := Option.some.inj (yAnch.symm.trans ht2)
  rw [data_twos] at hd0
  rw [data_threes] at hd1
  rw [data_anch] at hd2
  refine ⟨cells_var gTwos hv0 (Lib.cells_of_tab Tryd.underlying100 Tryd.underlying99 cU16 cA16 hd0), cells_var gThrees hv1 (Lib.cells_of_tab Tryd.underlying102 Tryd.underlying101 cU32 cA32 hd1), cells_var gAnch hv2 ?_⟩
  obtain ⟨xs, m, _, hx, hl, hn, hel⟩ := DataW.trod_array Tryd.underlying109 hd2
  rw [cAnch] at hl
  simp only [Prod.mk.injEq, DataW.agg.injEq] at hx
  match xs, hn, hx, hel with
  | [x0, x1, x2], _, hx, hel =>
    simp only [List.map_cons, List.map_nil, List.cons.injEq, and_true] at hx
    obtain ⟨⟨e0, e1, e2⟩, _⟩ := hx
    have h0 := hel 0 (by decide)
    have h1 := hel 1 (by decide)
    have h2 := hel 2 (by decide)
    rw [cRow] at h0 h1 h2
    have k0 := row_cells (p := 2) (q := 1) (xs := an21) (pl := x0.2) rfl (h0.trans (show some x0 = _ from by rw [e0]))
    have k1 := row_cells (p := 3) (q := 1) (xs := an31) (pl := x1.2) rfl (h1.trans (show some x1 = _ from by rw [e1]))
    have k2 := row_cells (p := 3) (q := 2) (xs := an32) (pl := x2.2) rfl (h2.trans (show some x2 = _ from by rw [e2]))
    generalize cs2.toList = l at *
    have e : l = (l.drop (0 * 66)).take 66 ++ ((l.drop (1 * 66)).take 66 ++ (l.drop (2 * 66)).take 66) := by
      rw [Nat.zero_mul, List.drop_zero, Nat.one_mul, show 2 * 66 = 66 + 66 from rfl, ← List.drop_drop, List.take_of_length_le (l := List.drop 66 (List.drop 66 l)) (by simp [hl]), List.take_append_drop, List.take_append_drop]
    rw [e, k0, k1, k2, anchV, List.append_assoc]

/-- A world in which the tables lie. -/
def lay (cs : Array Value) : Obj → Obj
  | .cells _ t frozen => .cells cs t frozen
  | o => o
noncomputable def laidWorld (os : Os) : World :=
  { World.holding Tryd.prog os ⟨#[], #[], []⟩ with heap := (((World.holding Tryd.prog os ⟨#[], #[], []⟩).heap.modify 0 (lay (ks .u16 twosL).toArray)).modify 1 (lay (ks .u32 threesL).toArray)).modify 2 (lay anchV.toArray) }
theorem own : ownKnob Tryd.prog.godebug = none := by kernel_rfl
set_option maxRecDepth 100000 in
theorem laid_met (os : Os) (args : Array Value) : laidMet Tryd.prog laidL ((laidWorld os).forCall (fun _ _ => 0) ⟨#[], args, []⟩).memory :=
  laidMet_of_run' 8 (by kernel_rfl) (by kernel_rfl)
end Go.Proofs.YtnoailihkjccbaaDoor
