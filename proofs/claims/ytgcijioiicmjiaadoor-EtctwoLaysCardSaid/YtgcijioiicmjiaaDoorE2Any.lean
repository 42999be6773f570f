/- Planar blocks, the program's: Lay of whatever colours. -/
import Derived.Test.YtgcijioiicmjiaaDoorE2LayW
set_option linter.all false
namespace Go.Proofs.YtgcijioiicmjiaaDoor
open Go.RowKit
open Bi Lv Eo Et
open Bc (z8 z8_lt)

namespace Et
instance (zs : List Int) (i c : Nat) : Decidable (okC zs i c) := by unfold okC; infer_instance
/-- May every number of the three colours be? -/
def okZ (zs : List Int) : Prop := ∀ i, i < 3 → ∀ c, c < 3 → okC zs i c
instance (zs : List Int) : Decidable (okZ zs) := by unfold okZ; infer_instance
theorem least (P : Nat → Prop) [DecidablePred P] : ∀ n, (∃ k, k < n ∧ P k) → ∃ k, k < n ∧ P k ∧ ∀ j, j < k → ¬ P j
  | 0, ⟨_, h, _⟩ => absurd h (by omega)
  | n + 1, ⟨k, h, hk⟩ => by
    by_cases hl : ∃ k, k < n ∧ P k
    · obtain ⟨j, h1, h2, h3⟩ := least P n hl
      exact ⟨j, by omega, h2, h3⟩
    · exact ⟨k, h, hk, fun j hj hp => hl ⟨j, by omega, hp⟩⟩
theorem first_bad (zs : List Int) (h : ¬ okZ zs) : ∃ i0 c0, i0 < 3 ∧ c0 < 3 ∧ ¬ okC zs i0 c0 ∧ ∀ i, i < 3 → ∀ c, c < 3 → i * 3 + c < i0 * 3 + c0 → okC zs i c := by
  have hx : ∃ k, k < 9 ∧ ¬ okC zs (k / 3) (k % 3) := Classical.byContradiction fun hn => h fun i hi c hc => Classical.byContradiction fun ho => hn ⟨i * 3 + c, by omega, by rw [show (i * 3 + c) / 3 = i by omega, show (i * 3 + c) % 3 = c by omega]; exact ho⟩
  obtain ⟨k, h1, h2, h3⟩ := least (fun k => ¬ okC zs (k / 3) (k % 3)) 9 hx
  refine ⟨k / 3, k % 3, by omega, by omega, h2, fun i hi c hc hl => Classical.byContradiction fun ho => h3 (i * 3 + c) (by omega) ?_⟩
  show ¬ okC zs ((i * 3 + c) / 3) ((i * 3 + c) % 3)
  rw [show (i * 3 + c) / 3 = i by omega, show (i * 3 + c) % 3 = c by omega]
  exact ho
def layX (zs : List Int) : List Nat := if okZ zs then lB (lL zs) else []
def layY (zs : List Int) : Int := if okZ zs then 0 else 1
end Et
set_option maxHeartbeats 4000000 in
set_option maxRecDepth 100000 in
theorem lay2_no (xo xh xv : List Int) (ho : xo.length = 3) (hh : xh.length = 3) (hv : xv.length = 3) (hno : ¬ okZ (zsL xo xh xv)) (w : World) (hG : Glb w) :
    Calls Tryd.prog 14 #[arr xo, arr xh, arr xv] w (Laid w [] 1) := by
  have E := Lib.hid ((Kn.start w).arg_cells hG.cP)
  have hz := zsL_length ho hh hv
  obtain ⟨i0, c0, h1, h2, h3, h4⟩ := first_bad _ hno
  have hF := Lib.hid (fun u hu => fit_no (zsL xo xh xv) hz i0 c0 h1 h2 h4 h3 u hu)
  obtain ⟨a0, a1, a2, rfl⟩ := list3 xo ho
  obtain ⟨b0, b1, b2, rfl⟩ := list3 xh hh
  obtain ⟨c0', c1, c2, rfl⟩ := list3 xv hv
  have hbt := Lib.hid (fun u => built_zs a0 a1 a2 b0 b1 b2 c0' c1 c2 u)
  have hzl := Lib.hid hz
  clear hG hz hno h1 h2 h3 h4 ho hh hv
  generalize zsL [a0, a1, a2] [b0, b1, b2] [c0', c1, c2] = zs at *
  generalize plL = PL at *
  go_enter Tryd.func14, Tryd.ntmps14
  go_wp2_with (first
    | ((with_reducible refine kn_made (pv := #[(0, arr [a0, a1, a2]), (1, arr [b0, b1, b2]), (2, arr [c0', c1, c2])]) rfl rfl ?hp hbt.out ?_); (case hp => simp only [List.map_toArray, List.map_cons, List.map_nil]; rfl))
    | ((with_reducible refine kn_stores (g := g8) (vs := i64s zs) E.out rfl rfl rfl rfl rfl ?hl ?h1 ?_); (case hl => exact ⟨rfl, by rw [i64s_length]; exact hzl.out⟩); (case h1 => exact i64s_one _); clear E; intro u E0; have E := Lib.hid E0; clear E0)
    | ((with_reducible refine kn_loads (g := g8) E.out rfl rfl rfl ?hl ?_); (case hl => rw [i64s_length]; exact hzl.out))
    | (go_at_call 33; (with_reducible refine (hF.out _ ?ha).mono ?_); (case ha => exact E.out.get List.mem_cons_self); clear hF; rintro e w1 ⟨rfl, hb⟩; have E1 := Lib.hid (E.out.later hb); clear hb E; have E := E1; clear E1)
    | ((with_reducible refine kn_load E.out rfl rfl rfl rfl ?_)) | ((with_reducible refine kn_load_if E.out rfl rfl rfl rfl ?_)) | ((with_reducible refine kn_loads E.out rfl rfl rfl ?_ ?_); (focus (first | rfl | (simp only [i64s_length, u8s_length]; first | rfl | assumption | omega)))) | ((with_reducible refine kn_loads_if E.out rfl rfl rfl ?_ ?_); (focus (first | rfl | (simp only [i64s_length, u8s_length]; first | rfl | assumption | omega)))) | ((with_reducible refine kn_stores E.out rfl rfl rfl rfl rfl ?_ ?_ ?_); (focus (first | exact ⟨rfl, rfl⟩ | (simp only [i64s_length, u8s_length]; refine ⟨?_, ?_⟩ <;> first | rfl | assumption | omega))); (focus (first | exact i64s_one _ | exact u8s_one _ | simp [Value.oneCell'])); clear E; intro u E0; have E := Lib.hid E0; clear E0) | ((with_reducible refine kn_alloc (o := ⟨some 3, _, _, _, _, _⟩) E.out rfl rfl ?_); clear E; intro g3 u E0 hb0; have E := Lib.hid E0; clear E0 hb0) | ((with_reducible refine kn_box (o := ⟨some 3, _, _, _, _, _⟩) E.out rfl rfl rfl ?_); clear E; intro g3 u E0 hb0; have E := Lib.hid E0; clear E0 hb0) | ((with_reducible refine kn_box_int (o := ⟨some 3, _, _, _, _, _⟩) E.out rfl rfl rfl ?_); clear E; intro g3 u E0 hb0; have E := Lib.hid E0; clear E0 hb0) | ((with_reducible refine kn_box_slice (o := ⟨some 3, _, _, _, _, _⟩) E.out rfl rfl rfl ?_); clear E; intro g3 u E0 hb0; have E := Lib.hid E0; clear E0 hb0) | ((with_reducible refine kn_box_bool (o := ⟨some 3, _, _, _, _, _⟩) E.out rfl rfl rfl ?_); clear E; intro g3 u E0 hb0; have E := Lib.hid E0; clear E0 hb0) | ((with_reducible refine kn_box_func (o := ⟨some 3, _, _, _, _, _⟩) E.out rfl rfl rfl ?_); clear E; intro g3 u E0 hb0; have E := Lib.hid E0; clear E0 hb0) | ((with_reducible refine kn_alloc (o := ⟨some 4, _, _, _, _, _⟩) E.out rfl rfl ?_); clear E; intro g4 u E0 hb0; have E := Lib.hid E0; clear E0 hb0) | ((with_reducible refine kn_box (o := ⟨some 4, _, _, _, _, _⟩) E.out rfl rfl rfl ?_); clear E; intro g4 u E0 hb0; have E := Lib.hid E0; clear E0 hb0) | ((with_reducible refine kn_box_int (o := ⟨some 4, _, _, _, _, _⟩) E.out rfl rfl rfl ?_); clear E; intro g4 u E0 hb0; have E := Lib.hid E0; clear E0 hb0) | ((with_reducible refine kn_box_slice (o := ⟨some 4, _, _, _, _, _⟩) E.out rfl rfl rfl ?_); clear E; intro g4 u E0 hb0; have E := Lib.hid E0; clear E0 hb0) | ((with_reducible refine kn_box_bool (o := ⟨some 4, _, _, _, _, _⟩) E.out rfl rfl rfl ?_); clear E; intro g4 u E0 hb0; have E := Lib.hid E0; clear E0 hb0) | ((with_reducible refine kn_box_func (o := ⟨some 4, _, _, _, _, _⟩) E.out rfl rfl rfl ?_); clear E; intro g4 u E0 hb0; have E := Lib.hid E0; clear E0 hb0) | ((with_reducible refine kn_alloc (o := ⟨some 5, _, _, _, _, _⟩) E.out rfl rfl ?_); clear E; intro g5 u E0 hb0; have E := Lib.hid E0; clear E0 hb0) | ((with_reducible refine kn_box (o := ⟨some 5, _, _, _, _, _⟩) E.out rfl rfl rfl ?_); clear E; intro g5 u E0 hb0; have E := Lib.hid E0; clear E0 hb0) | ((with_reducible refine kn_box_int (o := ⟨some 5, _, _, _, _, _⟩) E.out rfl rfl rfl ?_); clear E; intro g5 u E0 hb0; have E := Lib.hid E0; clear E0 hb0) | ((with_reducible refine kn_box_slice (o := ⟨some 5, _, _, _, _, _⟩) E.out rfl rfl rfl ?_); clear E; intro g5 u E0 hb0; have E := Lib.hid E0; clear E0 hb0) | ((with_reducible refine kn_box_bool (o := ⟨some 5, _, _, _, _, _⟩) E.out rfl rfl rfl ?_); clear E; intro g5 u E0 hb0; have E := Lib.hid E0; clear E0 hb0) | ((with_reducible refine kn_box_func (o := ⟨some 5, _, _, _, _, _⟩) E.out rfl rfl rfl ?_); clear E; intro g5 u E0 hb0; have E := Lib.hid E0; clear E0 hb0) | ((with_reducible refine kn_alloc (o := ⟨some 8, _, _, _, _, _⟩) E.out rfl rfl ?_); clear E; intro g8 u E0 hb0; have E := Lib.hid E0; clear E0 hb0) | ((with_reducible refine kn_box (o := ⟨some 8, _, _, _, _, _⟩) E.out rfl rfl rfl ?_); clear E; intro g8 u E0 hb0; have E := Lib.hid E0; clear E0 hb0) | ((with_reducible refine kn_box_int (o := ⟨some 8, _, _, _, _, _⟩) E.out rfl rfl rfl ?_); clear E; intro g8 u E0 hb0; have E := Lib.hid E0; clear E0 hb0) | ((with_reducible refine kn_box_slice (o := ⟨some 8, _, _, _, _, _⟩) E.out rfl rfl rfl ?_); clear E; intro g8 u E0 hb0; have E := Lib.hid E0; clear E0 hb0) | ((with_reducible refine kn_box_bool (o := ⟨some 8, _, _, _, _, _⟩) E.out rfl rfl rfl ?_); clear E; intro g8 u E0 hb0; have E := Lib.hid E0; clear E0 hb0) | ((with_reducible refine kn_box_func (o := ⟨some 8, _, _, _, _, _⟩) E.out rfl rfl rfl ?_); clear E; intro g8 u E0 hb0; have E := Lib.hid E0; clear E0 hb0))
  go_ret2
  exact ⟨none, 0, 0, rfl, ⟨rfl, by simp, fun h => absurd h (by omega)⟩, by omega, by omega, E.out.bel⟩
theorem lay2_any (xo xh xv : List Int) (ho : xo.length = 3) (hh : xh.length = 3) (hv : xv.length = 3) (w : World) (hG : Glb w) :
    Calls Tryd.prog 14 #[arr xo, arr xh, arr xv] w (Laid w (layX (zsL xo xh xv)) (layY (zsL xo xh xv))) := by
  unfold layX layY
  by_cases h : okZ (zsL xo xh xv)
  · rw [if_pos h, if_pos h]
    exact lay2_ok xo xh xv ho hh hv h w hG
  · rw [if_neg h, if_neg h]
    exact lay2_no xo xh xv ho hh hv h w hG
end Go.Proofs.YtgcijioiicmjiaaDoor
