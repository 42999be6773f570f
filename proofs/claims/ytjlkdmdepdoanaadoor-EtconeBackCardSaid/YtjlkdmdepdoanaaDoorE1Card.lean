/- What the rows' lists give: the tables lie in the program's variable; and a world of that kind. -/
import Derived.Test.YtjlkdmdepdoanaaDoorRows
import Derived.Test.YtjlkdmdepdoanaaDoorE1Tab
import Derived.OpenShut
import Derived.LaidMore
import Derived.Deep.DeepHandedRow
import Derived.Lib.LaidTab
set_option linter.all false
namespace Go.Proofs.YtjlkdmdepdoanaaDoor
open Go.RowKit Go.ChangeShapes Go.WideShapes Go.ChangeAt
open Eo

theorem gNum : Tryd.prog.globalNamed "swatch/etcone.numbers" = some 0 := by kernel_rfl
theorem yNum : (Tryd.prog.globals[0]?).map (·.type) = some 68 := by kernel_rfl
theorem cInt : Tryd.prog.cellsOf 3 = 1 := by kernel_rfl
theorem cA2 : Tryd.prog.cellsOf 25 = 2 := by kernel_rfl
theorem cA82 : Tryd.prog.cellsOf 68 = 16 := by kernel_rfl
def laidL : List (String × DataW Unit) := [("swatch/etcone.numbers", Rows.laid_swatch_etcone_numbers)]
theorem data_num : (Rows.laid_swatch_etcone_numbers : DataW Unit) = .agg [Lib.tabData .i64 [2, 8], Lib.tabData .i64 [5, 17], Lib.tabData .i64 [9, 29], Lib.tabData .i64 [13, 42], Lib.tabData .i64 [18, 60], Lib.tabData .i64 [24, 80], Lib.tabData .i64 [33, 106], Lib.tabData .i64 [47, 183]] := by kernel_rfl
theorem cells_var {W : World} {name : String} {g : Nat} {cs : Array Value} {vs : List Value} (hg : Tryd.prog.globalNamed name = some g) (hv : W.var? Tryd.prog name = some cs) (hc : cs.toList = vs) : cellsF g vs W := fun i v hi => by
  rw [World.var?_cell hg hv i, ← Array.getElem?_toList, hc]
  exact hi
theorem row2 {w : World} {fuel : Nat} {cs : List Value} {l : List Int} {x : DataW Unit × List MemPlace} (h : DataW.trod (fun _ => ()) Tryd.prog w 0 (fun _ => true) false fuel 25 cs = some x) (e : x.1 = Lib.tabData .i64 l) : cs = l.map (Value.int .i64) :=
  Lib.cells_of_tab Tryd.underlying25 Tryd.underlying3 cInt cA2 (h.trans (show some x = some (Lib.tabData .i64 l, x.2) from by rw [← e]))
theorem chop (l : List Value) (h : l.length = 16) : l = (l.drop (0 * 2)).take 2 ++ ((l.drop (1 * 2)).take 2 ++ ((l.drop (2 * 2)).take 2 ++ ((l.drop (3 * 2)).take 2 ++ ((l.drop (4 * 2)).take 2 ++ ((l.drop (5 * 2)).take 2 ++ ((l.drop (6 * 2)).take 2 ++ (l.drop (7 * 2)).take 2)))))) := by
  match l, h with
  | [a0, a1, a2, a3, a4, a5, a6, a7, a8, a9, a10, a11, a12, a13, a14, a15], _ => rfl
set_option maxRecDepth 100000 in
theorem tabs {W : World} (h : laidMetH Tryd.prog laidL W) : Nums W := by
  rw [MakeChecks.laidMetH_plain _ _ _ (by kernel_rfl)] at h
  obtain ⟨ps, ⟨g0, t0, cs0, f0, p0, q0, hg0, ht0, hv0, hd0, _, _⟩, _, _⟩ := h
  obtain rfl := Option.some.inj (gNum.symm.trans hg0)
  obtain rfl := Option.some.inj (yNum.symm.trans ht0)
  rw [data_num] at hd0
  refine cells_var gNum hv0 ?_
  obtain ⟨xs, m, _, hx, hl, hn, hel⟩ := DataW.trod_array Tryd.underlying68 hd0
  rw [cA82] at hl
  simp only [Prod.mk.injEq, DataW.agg.injEq] at hx
  match xs, hn, hx, hel with
  | [x0, x1, x2, x3, x4, x5, x6, x7], _, hx, hel =>
    simp only [List.map_cons, List.map_nil, List.cons.injEq, and_true] at hx
    obtain ⟨⟨e0, e1, e2, e3, e4, e5, e6, e7⟩, _⟩ := hx
    have h0 := hel 0 (by decide)
    have h1 := hel 1 (by decide)
    have h2 := hel 2 (by decide)
    have h3 := hel 3 (by decide)
    have h4 := hel 4 (by decide)
    have h5 := hel 5 (by decide)
    have h6 := hel 6 (by decide)
    have h7 := hel 7 (by decide)
    rw [cA2] at h0 h1 h2 h3 h4 h5 h6 h7
    rw [chop cs0.toList hl, row2 h0 e0.symm, row2 h1 e1.symm, row2 h2 e2.symm, row2 h3 e3.symm, row2 h4 e4.symm, row2 h5 e5.symm, row2 h6 e6.symm, row2 h7 e7.symm]
    rfl

/-- A world in which the tables lie. -/
def lay (cs : Array Value) : Obj → Obj
  | .cells _ t frozen => .cells cs t frozen
  | o => o
noncomputable def laidWorld (os : Os) : World :=
  { World.holding Tryd.prog os ⟨#[], #[], []⟩ with heap := (World.holding Tryd.prog os ⟨#[], #[], []⟩).heap.modify 0 (lay (i64s numL).toArray) }
theorem own : ownKnob Tryd.prog.godebug = none := by kernel_rfl
set_option maxRecDepth 100000 in
theorem laid_met (os : Os) (args : Array Value) : laidMet Tryd.prog laidL ((laidWorld os).forCall (fun _ _ => 0) ⟨#[], args, []⟩).memory :=
  laidMet_of_run' 8 (by kernel_rfl) (by kernel_rfl)
end Go.Proofs.YtjlkdmdepdoanaaDoor
