/- What the rows' lists give: the tables lie in the program's variable; and a world of that kind. -/
import Derived.Test.YtpdpjljfloanfaaDoorRows
import Derived.Test.YtpdpjljfloanfaaDoorEaTab
import Derived.OpenShut
import Derived.LaidMore
import Derived.Deep.DeepHandedRow
import Derived.Lib.LaidTab
set_option linter.all false
namespace Go.Proofs.YtpdpjljfloanfaaDoor
open Go.RowKit Go.ChangeShapes Go.WideShapes Go.ChangeAt
open Ea

theorem gTab : Tryd.prog.globalNamed "swatch/eac.tables" = some 0 := by kernel_rfl
theorem yTab : (Tryd.prog.globals[0]?).map (·.type) = some 47 := by kernel_rfl
theorem cInt : Tryd.prog.cellsOf 3 = 1 := by kernel_rfl
theorem cA8 : Tryd.prog.cellsOf 31 = 8 := by kernel_rfl
theorem cA168 : Tryd.prog.cellsOf 47 = 128 := by kernel_rfl
def laidL : List (String × DataW Unit) := [("swatch/eac.tables", Rows.laid_swatch_eac_tables)]
theorem data_tab : (Rows.laid_swatch_eac_tables : DataW Unit) = .agg [Lib.tabData .i64 [-3, -6, -9, -15, 2, 5, 8, 14], Lib.tabData .i64 [-3, -7, -10, -13, 2, 6, 9, 12], Lib.tabData .i64 [-2, -5, -8, -13, 1, 4, 7, 12], Lib.tabData .i64 [-2, -4, -6, -13, 1, 3, 5, 12], Lib.tabData .i64 [-3, -6, -8, -12, 2, 5, 7, 11], Lib.tabData .i64 [-3, -7, -9, -11, 2, 6, 8, 10], Lib.tabData .i64 [-4, -7, -8, -11, 3, 6, 7, 10], Lib.tabData .i64 [-3, -5, -8, -11, 2, 4, 7, 10], Lib.tabData .i64 [-2, -6, -8, -10, 1, 5, 7, 9], Lib.tabData .i64 [-2, -5, -8, -10, 1, 4, 7, 9], Lib.tabData .i64 [-2, -4, -8, -10, 1, 3, 7, 9], Lib.tabData .i64 [-2, -5, -7, -10, 1, 4, 6, 9], Lib.tabData .i64 [-3, -4, -7, -10, 2, 3, 6, 9], Lib.tabData .i64 [-1, -2, -3, -10, 0, 1, 2, 9], Lib.tabData .i64 [-4, -6, -8, -9, 3, 5, 7, 8], Lib.tabData .i64 [-3, -5, -7, -9, 2, 4, 6, 8]]  := by kernel_rfl
theorem cells_var {W : World} {name : String} {g : Nat} {cs : Array Value} {vs : List Value} (hg : Tryd.prog.globalNamed name = some g) (hv : W.var? Tryd.prog name = some cs) (hc : cs.toList = vs) : cellsF g vs W := fun i v hi => by
  rw [World.var?_cell hg hv i, ← Array.getElem?_toList, hc]
  exact hi
theorem row8 {w : World} {fuel : Nat} {cs : List Value} {l : List Int} {x : DataW Unit × List MemPlace} (h : DataW.trod (fun _ => ()) Tryd.prog w 0 (fun _ => true) false fuel 31 cs = some x) (e : x.1 = Lib.tabData .i64 l) : cs = l.map (Value.int .i64) :=
  Lib.cells_of_tab Tryd.underlying31 Tryd.underlying3 cInt cA8 (h.trans (show some x = some (Lib.tabData .i64 l, x.2) from by rw [← e]))
theorem of_chunks (l : List Value) (h : l.length = 128) (hc : ∀ k, k < 16 → (l.drop (k * 8)).take 8 = i64s ((numE.drop (k * 8)).take 8)) : l = i64s numE := by
  apply List.ext_getElem?
  intro i
  by_cases hi : i < 128
  · have e := congrArg (fun z : List Value => z[i % 8]?) (hc (i / 8) (by omega))
    simp only [i64s_take, i64s_drop, List.getElem?_take, List.getElem?_drop, if_pos (show i % 8 < 8 by omega), show i / 8 * 8 + i % 8 = i by omega] at e
    exact e
  · rw [List.getElem?_eq_none (by omega), List.getElem?_eq_none (by rw [i64s_length, numE_length]; omega)]
set_option maxRecDepth 100000 in
theorem tabs {W : World} (h : laidMetH Tryd.prog laidL W) : Tabs W := by
  rw [MakeChecks.laidMetH_plain _ _ _ (by kernel_rfl)] at h
  obtain ⟨ps, ⟨g0, t0, cs0, f0, p0, q0, hg0, ht0, hv0, hd0, _, _⟩, _, _⟩ := h
  obtain rfl := Option.some.inj (gTab.symm.trans hg0)
  obtain rfl := Option.some.inj (yTab.symm.trans ht0)
  rw [data_tab] at hd0
  refine cells_var gTab hv0 ?_
  obtain ⟨xs, m, _, hx, hl, hn, hel⟩ := DataW.trod_array Tryd.underlying47 hd0
  rw [cA168] at hl
  simp only [Prod.mk.injEq, DataW.agg.injEq] at hx
  match xs, hn, hx, hel with
  | [x0, x1, x2, x3, x4, x5, x6, x7, x8, x9, x10, x11, x12, x13, x14, x15], _, hx, hel =>
    simp only [List.map_cons, List.map_nil, List.cons.injEq, and_true] at hx
    obtain ⟨⟨e0, e1, e2, e3, e4, e5, e6, e7, e8, e9, e10, e11, e12, e13, e14, e15⟩, _⟩ := hx
    have h0 := hel 0 (by decide)
    have h1 := hel 1 (by decide)
    have h2 := hel 2 (by decide)
    have h3 := hel 3 (by decide)
    have h4 := hel 4 (by decide)
    have h5 := hel 5 (by decide)
    have h6 := hel 6 (by decide)
    have h7 := hel 7 (by decide)
    have h8 := hel 8 (by decide)
    have h9 := hel 9 (by decide)
    have h10 := hel 10 (by decide)
    have h11 := hel 11 (by decide)
    have h12 := hel 12 (by decide)
    have h13 := hel 13 (by decide)
    have h14 := hel 14 (by decide)
    have h15 := hel 15 (by decide)
    rw [cA8] at h0 h1 h2 h3 h4 h5 h6 h7 h8 h9 h10 h11 h12 h13 h14 h15
    refine of_chunks _ hl fun k hk => ?_
    obtain rfl | rfl | rfl | rfl | rfl | rfl | rfl | rfl | rfl | rfl | rfl | rfl | rfl | rfl | rfl | rfl : k = 0 ∨ k = 1 ∨ k = 2 ∨ k = 3 ∨ k = 4 ∨ k = 5 ∨ k = 6 ∨ k = 7 ∨ k = 8 ∨ k = 9 ∨ k = 10 ∨ k = 11 ∨ k = 12 ∨ k = 13 ∨ k = 14 ∨ k = 15 := by omega
    · exact row8 h0 e0.symm
    · exact row8 h1 e1.symm
    · exact row8 h2 e2.symm
    · exact row8 h3 e3.symm
    · exact row8 h4 e4.symm
    · exact row8 h5 e5.symm
    · exact row8 h6 e6.symm
    · exact row8 h7 e7.symm
    · exact row8 h8 e8.symm
    · exact row8 h9 e9.symm
    · exact row8 h10 e10.symm
    · exact row8 h11 e11.symm
    · exact row8 h12 e12.symm
    · exact row8 h13 e13.symm
    · exact row8 h14 e14.symm
    · exact row8 h15 e15.symm

/-- A world in which the tables lie. -/
def lay (cs : Array Value) : Obj → Obj
  | .cells _ t frozen => .cells cs t frozen
  | o => o
noncomputable def laidWorld (os : Os) : World :=
  { World.holding Tryd.prog os ⟨#[], #[], []⟩ with heap := (World.holding Tryd.prog os ⟨#[], #[], []⟩).heap.modify 0 (lay (i64s numE).toArray) }
theorem own : ownKnob Tryd.prog.godebug = none := by kernel_rfl
set_option maxRecDepth 100000 in
theorem laid_met (os : Os) (args : Array Value) : laidMet Tryd.prog laidL ((laidWorld os).forCall (fun _ _ => 0) ⟨#[], args, []⟩).memory :=
  laidMet_of_run' 8 (by kernel_rfl) (by kernel_rfl)
end Go.Proofs.YtpdpjljfloanfaaDoor
