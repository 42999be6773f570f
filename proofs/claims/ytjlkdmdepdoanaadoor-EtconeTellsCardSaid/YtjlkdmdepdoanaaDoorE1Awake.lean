/- The law's first look at blocks of two halves; a block for the document. -/
import Derived.Test.YtjlkdmdepdoanaaDoorE1Rpaint
import Derived.Test.YtjlkdmdepdoanaaDoorE1Rjoin
set_option linter.all false
namespace Go.Proofs.YtjlkdmdepdoanaaDoor
open Go.RowKit
open Bi Lv Eo

set_option maxHeartbeats 2000000 in
set_option maxRecDepth 100000 in
theorem to10 (d f : Bool) (Z : List Int) (w : World) (hZ : Z.length = 24) : Calls Tryd.prog 12 #[.agg (blk d f Z).toArray] w fun e w' => e = .returned (.agg (blk d f Z).toArray) ∧ Below w.heap.size w w' := by
  have E := Lib.hid (Kn.start w)
  have hz24 := Lib.hid z24_length
  have hbt := Lib.hid (fun u => built_to d f Z hZ u)
  obtain ⟨A3, hA⟩ : ∃ A3, (Z.drop 0).take 3 = A3 := ⟨_, rfl⟩
  obtain ⟨B3, hB⟩ : ∃ A3, (Z.drop 3).take 3 = A3 := ⟨_, rfl⟩
  obtain ⟨T2, hT⟩ : ∃ A3, (Z.drop 6).take 2 = A3 := ⟨_, rfl⟩
  obtain ⟨W2, hW⟩ : ∃ A3, (Z.drop 8).take 16 = A3 := ⟨_, rfl⟩
  rw [hA, hB, hT, hW] at hbt
  have HA := Lib.hid hA
  have HB := Lib.hid hB
  have HT := Lib.hid hT
  have HW := Lib.hid hW
  clear hA hB hT hW
  go_enter Tryd.func12, Tryd.ntmps12
  go_wp2_with (first
    | ((with_reducible refine kn_bd (g := g1) E.out rfl rfl rfl ?_))
    | ((with_reducible refine kn_bf (g := g1) E.out rfl rfl rfl ?_))
    | ((with_reducible refine kn_bp (g := g1) (i := 0) E.out rfl rfl rfl ?h1 ?h2 ?_); (case h1 => rfl); (case h2 => omega); rw [HA.out])
    | ((with_reducible refine kn_bp (g := g1) (i := 3) E.out rfl rfl rfl ?h1 ?h2 ?_); (case h1 => rfl); (case h2 => omega); rw [HB.out])
    | ((with_reducible refine kn_bp (g := g1) (i := 6) E.out rfl rfl rfl ?h1 ?h2 ?_); (case h1 => rfl); (case h2 => omega); rw [HT.out])
    | ((with_reducible refine kn_bp (g := g1) (i := 8) E.out rfl rfl rfl ?h1 ?h2 ?_); (case h1 => rfl); (case h2 => omega); rw [HW.out])
    | ((with_reducible refine kn_made (pv := #[(0, .bool d), (1, .bool f), (2, arr A3), (3, arr B3), (4, arr T2), (5, arr W2)]) rfl rfl ?hp hbt.out ?_); (case hp => simp only [List.map_toArray, List.map_cons, List.map_nil]; rfl))
    | ((with_reducible refine kn_bputall (g := g2) E.out rfl rfl rfl rfl rfl ?h1 ?h2 ?_); (case h1 => exact hz24.out); (case h2 => exact hZ); clear E; intro u E0; have E := Lib.hid E0; clear E0)
    | ((with_reducible refine kn_load E.out rfl rfl rfl rfl ?_)) | ((with_reducible refine kn_load_if E.out rfl rfl rfl rfl ?_)) | ((with_reducible refine kn_loads E.out rfl rfl rfl ?_ ?_); (focus (first | rfl | (simp only [i64s_length, u8s_length]; first | rfl | assumption | omega)))) | ((with_reducible refine kn_loads_if E.out rfl rfl rfl ?_ ?_); (focus (first | rfl | (simp only [i64s_length, u8s_length]; first | rfl | assumption | omega)))) | ((with_reducible refine kn_store1_int E.out rfl rfl rfl rfl rfl ?_); clear E; intro u E0; have E := Lib.hid E0; clear E0) | ((with_reducible refine kn_store1_slice E.out rfl rfl rfl rfl rfl ?_); clear E; intro u E0; have E := Lib.hid E0; clear E0) | ((with_reducible refine kn_store1_bool E.out rfl rfl rfl rfl rfl ?_); clear E; intro u E0; have E := Lib.hid E0; clear E0) | ((with_reducible refine kn_stores E.out rfl rfl rfl rfl rfl ?_ ?_ ?_); (focus (first | exact ⟨rfl, rfl⟩ | (simp only [i64s_length, u8s_length]; refine ⟨?_, ?_⟩ <;> first | rfl | assumption | omega))); (focus (first | exact i64s_one _ | exact u8s_one _ | simp [Value.oneCell'])); clear E; intro u E0; have E := Lib.hid E0; clear E0) | ((with_reducible refine kn_alloc (o := ⟨some 1, _, _, _, _, _⟩) E.out rfl rfl ?_); clear E; intro g1 u E0 hb0; have E := Lib.hid E0; clear E0 hb0) | ((with_reducible refine kn_box (o := ⟨some 1, _, _, _, _, _⟩) E.out rfl rfl rfl ?_); clear E; intro g1 u E0 hb0; have E := Lib.hid E0; clear E0 hb0) | ((with_reducible refine kn_box_int (o := ⟨some 1, _, _, _, _, _⟩) E.out rfl rfl rfl ?_); clear E; intro g1 u E0 hb0; have E := Lib.hid E0; clear E0 hb0) | ((with_reducible refine kn_box_slice (o := ⟨some 1, _, _, _, _, _⟩) E.out rfl rfl rfl ?_); clear E; intro g1 u E0 hb0; have E := Lib.hid E0; clear E0 hb0) | ((with_reducible refine kn_box_bool (o := ⟨some 1, _, _, _, _, _⟩) E.out rfl rfl rfl ?_); clear E; intro g1 u E0 hb0; have E := Lib.hid E0; clear E0 hb0) | ((with_reducible refine kn_box_func (o := ⟨some 1, _, _, _, _, _⟩) E.out rfl rfl rfl ?_); clear E; intro g1 u E0 hb0; have E := Lib.hid E0; clear E0 hb0) | ((with_reducible refine kn_alloc (o := ⟨some 2, _, _, _, _, _⟩) E.out rfl rfl ?_); clear E; intro g2 u E0 hb0; have E := Lib.hid E0; clear E0 hb0) | ((with_reducible refine kn_box (o := ⟨some 2, _, _, _, _, _⟩) E.out rfl rfl rfl ?_); clear E; intro g2 u E0 hb0; have E := Lib.hid E0; clear E0 hb0) | ((with_reducible refine kn_box_int (o := ⟨some 2, _, _, _, _, _⟩) E.out rfl rfl rfl ?_); clear E; intro g2 u E0 hb0; have E := Lib.hid E0; clear E0 hb0) | ((with_reducible refine kn_box_slice (o := ⟨some 2, _, _, _, _, _⟩) E.out rfl rfl rfl ?_); clear E; intro g2 u E0 hb0; have E := Lib.hid E0; clear E0 hb0) | ((with_reducible refine kn_box_bool (o := ⟨some 2, _, _, _, _, _⟩) E.out rfl rfl rfl ?_); clear E; intro g2 u E0 hb0; have E := Lib.hid E0; clear E0 hb0) | ((with_reducible refine kn_box_func (o := ⟨some 2, _, _, _, _, _⟩) E.out rfl rfl rfl ?_); clear E; intro g2 u E0 hb0; have E := Lib.hid E0; clear E0 hb0) | ((with_reducible refine kn_alloc E.out rfl rfl ?_); clear E; intro g u E0 hb0; have E := Lib.hid E0; clear E0 hb0) | ((with_reducible refine kn_box E.out rfl rfl rfl ?_); clear E; intro g u E0 hb0; have E := Lib.hid E0; clear E0 hb0) | ((with_reducible refine kn_box_int E.out rfl rfl rfl ?_); clear E; intro g u E0 hb0; have E := Lib.hid E0; clear E0 hb0) | ((with_reducible refine kn_box_slice E.out rfl rfl rfl ?_); clear E; intro g u E0 hb0; have E := Lib.hid E0; clear E0 hb0) | ((with_reducible refine kn_box_bool E.out rfl rfl rfl ?_); clear E; intro g u E0 hb0; have E := Lib.hid E0; clear E0 hb0) | ((with_reducible refine kn_box_func E.out rfl rfl rfl ?_); clear E; intro g u E0 hb0; have E := Lib.hid E0; clear E0 hb0))
  refine bodyPost_ret (results_kn E.out rfl _ rfl (blk_length (by omega))) rfl ?_
  exact ⟨rfl, E.out.bel⟩

namespace Eo
def awZ : List Int := [31, 0, 16, -4, 3, 0, 0, 7, 0, 0, 0, 3, 0, 0, 0, 0, 0, 0, 0, 0, 0, 0, 0, 0]
def awY : List Int := [0, 31, 0, 0, 1, 0, 0, 0, 0, 0, 0, 0, 0, 0, 0, 0, 0, 0, 0, 0, 0, 0, 0, 0]
theorem aw_ok : okP true awZ := by decide +kernel
theorem aw_ok2 : okP true awY := by decide +kernel
theorem aw_join : jV true false awZ = jB true false awZ ∧ jE true awZ = 0 := ⟨jV_ok aw_ok, jE_ok aw_ok⟩
theorem aw_tex : ((paV true false awZ).drop 0).take 4 = [255, 2, 134, 255] ∧ ((paV true false awZ).drop 12).take 4 = [39, 0, 0, 255] := by decide +kernel
theorem aw_base : (baV true awY).getD 5 0 = 0 ∧ farP true awY 3 = 1 := by decide +kernel
theorem aw_table : tabV 1 = [5, 17, -5, -17] := by decide +kernel
theorem aw_half : halfV true 8 = 1 := by decide +kernel
end Eo
set_option maxHeartbeats 8000000 in
set_option maxRecDepth 100000 in
theorem awake10 (w : World) (hN : Nums w) : Calls Tryd.prog 7 #[] w fun e w' => e = .returned (.bool true) ∧ Below w.heap.size w w' := by
  have E := Lib.hid ((Kn.start w).arg_nums hN)
  have hz24 := Lib.hid z24_length
  have hJ := Lib.hid (fun u => show Calls Tryd.prog 17 #[.agg (blk true false awZ).toArray] u (Laid u (jB true false awZ) 0) from by
    have h := bjoin10 true false awZ u rfl
    rw [aw_join.1, aw_join.2] at h
    exact h)
  have hD := Lib.hid (fun A c u hu hn => show Calls Tryd.prog 10 #[.slice A 8 c] u (fun e w' => e = .returned (.tuple #[arr (paV true false awZ), .int .i64 0]) ∧ Below u.heap.size u w') from by
    have h := decode10 A 8 c (jB true false awZ) u hu (by omega) hn
    rw [show deV 8 (jB true false awZ) = paV (pD (jB true false awZ)) (pF (jB true false awZ)) (pZ (jB true false awZ)) from rfl, back_D, back_F, back_Z _ _ _ rfl aw_ok] at h
    exact h)
  have hP := Lib.hid (fun A c u hu => show Calls Tryd.prog 8 #[.slice A 8 c] u (fun e w' => e = .returned (.tuple #[.agg (blk true false awZ).toArray, .int .i64 0]) ∧ Below u.heap.size u w') from by
    have h := parts_ok A c (jB true false awZ) u hu
    rw [back_D, back_F, back_Z _ _ _ rfl aw_ok] at h
    exact h)
  have hB := Lib.hid (fun u => show Calls Tryd.prog 20 #[.agg (blk true false awY).toArray] u (fun e w' => e = .returned (.tuple #[arr (baV true awY), .int .i64 1]) ∧ Below u.heap.size u w') from by
    have h := bases_any true false awY u rfl aw_ok2
    rw [aw_base.2] at h
    exact h)
  have hT := Lib.hid (fun u hu => show Calls Tryd.prog 13 #[.int .i64 1] u (fun e w' => e = .returned (arr [5, 17, -5, -17]) ∧ Below u.heap.size u w') from by
    have h := table_any 1 u hu
    rw [aw_table] at h
    exact h)
  have hH := Lib.hid (fun u => show Calls Tryd.prog 15 #[.bool true, .int .i64 8] u (fun e w' => e = .returned (.int .i64 1) ∧ u = w') from by
    have h := half_any true 8 u
    rw [aw_half] at h
    exact h)
  have hjl := Lib.hid (jB_length true false awZ)
  have hzl : Hid (awZ.length = 24) := rfl
  have hpl := Lib.hid (paV_length true false awZ)
  have hbl := Lib.hid (baV_length true awY)
  have e0 := Lib.hid aw_tex.1
  have e1 := Lib.hid aw_tex.2
  have e5 := Lib.hid aw_base.1
  have hq := eq_block true false awZ rfl
  have hzz := Lib.hid (show (i64s z64).length = 64 from rfl)
  have hAv := Lib.hid (show (#[.bool true, .bool false, .int .i64 31, .int .i64 0, .int .i64 16, .int .i64 (-4), .int .i64 3, .int .i64 0, .int .i64 0, .int .i64 7, .int .i64 0, .int .i64 0, .int .i64 0, .int .i64 3, .int .i64 0, .int .i64 0, .int .i64 0, .int .i64 0, .int .i64 0, .int .i64 0, .int .i64 0, .int .i64 0, .int .i64 0, .int .i64 0, .int .i64 0, .int .i64 0] : Array Value) = (blk true false awZ).toArray from rfl)
  have hYv := Lib.hid (show (#[.bool true, .bool false, .int .i64 0, .int .i64 31, .int .i64 0, .int .i64 0, .int .i64 1, .int .i64 0, .int .i64 0, .int .i64 0, .int .i64 0, .int .i64 0, .int .i64 0, .int .i64 0, .int .i64 0, .int .i64 0, .int .i64 0, .int .i64 0, .int .i64 0, .int .i64 0, .int .i64 0, .int .i64 0, .int .i64 0, .int .i64 0, .int .i64 0, .int .i64 0] : Array Value) = (blk true false awY).toArray from rfl)
  have q0 : ∀ u, (Op.equalIn 10000 36 (arr [255, 2, 134, 255]) (.agg #[.int .i64 255, .int .i64 2, .int .i64 134, .int .i64 255])).run Tryd.prog u = .ok true u := fun u => eq_texel [255, 2, 134, 255] [255, 2, 134, 255] rfl rfl u
  have q1 : ∀ u, (Op.equalIn 10000 36 (arr [39, 0, 0, 255]) (.agg #[.int .i64 39, .int .i64 0, .int .i64 0, .int .i64 255])).run Tryd.prog u = .ok true u := fun u => eq_texel [39, 0, 0, 255] [39, 0, 0, 255] rfl rfl u
  have p0 : ∀ u, (Op.equalIn 10000 36 (.agg #[.int .i64 255, .int .i64 2, .int .i64 134, .int .i64 255]) (.agg #[.int .i64 255, .int .i64 2, .int .i64 134, .int .i64 255])).run Tryd.prog u = .ok true u := q0
  have p1 : ∀ u, (Op.equalIn 10000 36 (.agg #[.int .i64 39, .int .i64 0, .int .i64 0, .int .i64 255]) (.agg #[.int .i64 39, .int .i64 0, .int .i64 0, .int .i64 255])).run Tryd.prog u = .ok true u := q1
  have x1 : ∀ u, (Instr.index 35 (arr [5, 17, -5, -17]) (.int .i64 3)).run Tryd.prog u = .ok (.int .i64 (-17)) u := fun u => run_index_i64 (P := Tryd.prog) 35 3 4 Tryd.underlying35 Tryd.underlying3 (by kernel_rfl) [5, 17, -5, -17] 3 (by omega) rfl u
  have x2 : ∀ u, (Instr.index 35 (.agg #[.int .i64 5, .int .i64 17, .int .i64 (-5), .int .i64 (-17)]) (.int .i64 3)).run Tryd.prog u = .ok (.int .i64 (-17)) u := x1
  generalize jB true false awZ = JB at *
  generalize paV true false awZ = PV at *
  generalize baV true awY = BA at *
  generalize awZ = aZ at *
  generalize awY = aY at *
  go_enter Tryd.func7, Tryd.ntmps7
  go_wp2_with (first
    | (go_at_call 17; refine (hJ.out _).mono ?_; clear hJ; rintro e w1 ⟨A1, n1, c1, rfl, hB1, hn1, hc1, hb⟩; obtain rfl : n1 = 8 := hB1.1.symm.trans hjl.out; have E1 := Lib.hid (E.out.later hb); clear hb E; have E := E1; clear E1; have E1 := Lib.hid (E.out.new_bsi hB1); clear E hB1; have E := E1; clear E1)
    | (go_at_call 10; (with_reducible refine (hD.out _ _ _ ?ha ?hb).mono ?_); (case ha => exact E.out.bs (by simp)); (case hb => exact E.out.get (by simp)); clear hD; rintro e w2 ⟨rfl, hb⟩; have E1 := Lib.hid (E.out.later hb); clear hb E; have E := E1; clear E1)
    | (go_at_call 8; (with_reducible refine (hP.out _ _ _ ?ha).mono ?_); (case ha => exact E.out.bs (by simp)); clear hP; rintro e w2 ⟨rfl, hb⟩; have E1 := Lib.hid (E.out.later hb); clear hb E; have E := E1; clear E1)
    | (go_at_call 20; rw [hYv.out]; refine (hB.out _).mono ?_; clear hB; rintro e w2 ⟨rfl, hb⟩; have E1 := Lib.hid (E.out.later hb); clear hb E; have E := E1; clear E1)
    | (go_at_call 15; refine (hH.out _).mono ?_; clear hH; rintro e w2 ⟨rfl, rfl⟩)
    | (go_at_call 13; (with_reducible refine (hT.out _ ?ha).mono ?_); (case ha => exact E.out.get (by simp)); clear hT; rintro e w2 ⟨rfl, hb⟩; have E1 := Lib.hid (E.out.later hb); clear hb E; have E := E1; clear E1)
    | ((with_reducible refine kn_bputall (g := g1) (d' := true) (f' := false) (Z' := aZ) E.out rfl rfl rfl rfl ?hy ?h1 ?h2 ?_); (case hy => exact congrArg Value.agg hAv.out); (case h1 => exact hz24.out); (case h2 => exact hzl.out); clear E; intro u E0; have E := Lib.hid E0; clear E0)
    | ((with_reducible refine kn_bputall (g := g6) E.out rfl rfl rfl rfl rfl ?h1 ?h2 ?_); (case h1 => exact hz24.out); (case h2 => exact hzl.out); clear E; intro u E0; have E := Lib.hid E0; clear E0)
    | ((with_reducible refine kn_ball (g := g1) E.out rfl rfl rfl ?h1 ?_); (case h1 => exact hzl.out))
    | ((with_reducible refine kn_ball_if (g := g1) E.out rfl rfl rfl ?h1 ?_); (case h1 => exact hzl.out))
    | ((with_reducible refine kn_ball_if (g := g6) E.out rfl rfl rfl ?h1 ?_); (case h1 => exact hzl.out))
    | ((with_reducible refine kn_stores (g := g4) (vs := i64s PV) E.out rfl rfl rfl rfl rfl ?hl ?h1 ?_); (case hl => exact ⟨hzz.out, by rw [i64s_length]; exact hpl.out⟩); (case h1 => exact i64s_one _); clear E; intro u E0; have E := Lib.hid E0; clear E0)
    | ((with_reducible refine kn_stores (g := g8) (vs := i64s BA) E.out rfl rfl rfl rfl rfl ?hl ?h1 ?_); (case hl => exact ⟨rfl, by rw [i64s_length]; exact hbl.out⟩); (case h1 => exact i64s_one _); clear E; intro u E0; have E := Lib.hid E0; clear E0)
    | ((with_reducible refine kn_loadp_if (g := g4) (off := 0) E.out rfl rfl rfl ?hl ?_); (case hl => have := hpl.out; omega); rw [e0.out])
    | ((with_reducible refine kn_loadp_if (g := g4) (off := 12) E.out rfl rfl rfl ?hl ?_); (case hl => have := hpl.out; omega); rw [e1.out])
    | ((with_reducible refine kn_loadi_if (g := g8) (i := 5) E.out rfl rfl rfl ?hl ?_); (case hl => have := hbl.out; omega); rw [e5.out])
    | ((with_reducible refine kn_load E.out rfl rfl rfl rfl ?_)) | ((with_reducible refine kn_load_if E.out rfl rfl rfl rfl ?_)) | ((with_reducible refine kn_loads E.out rfl rfl rfl ?_ ?_); (focus (first | rfl | (simp only [i64s_length, u8s_length]; first | rfl | assumption | omega)))) | ((with_reducible refine kn_loads_if E.out rfl rfl rfl ?_ ?_); (focus (first | rfl | (simp only [i64s_length, u8s_length]; first | rfl | assumption | omega)))) | ((with_reducible refine kn_store1_int E.out rfl rfl rfl rfl rfl ?_); clear E; intro u E0; have E := Lib.hid E0; clear E0) | ((with_reducible refine kn_store1_slice E.out rfl rfl rfl rfl rfl ?_); clear E; intro u E0; have E := Lib.hid E0; clear E0) | ((with_reducible refine kn_store1_bool E.out rfl rfl rfl rfl rfl ?_); clear E; intro u E0; have E := Lib.hid E0; clear E0) | ((with_reducible refine kn_stores E.out rfl rfl rfl rfl rfl ?_ ?_ ?_); (focus (first | exact ⟨rfl, rfl⟩ | (simp only [i64s_length, u8s_length]; refine ⟨?_, ?_⟩ <;> first | rfl | assumption | omega))); (focus (first | exact i64s_one _ | exact u8s_one _ | simp [Value.oneCell'])); clear E; intro u E0; have E := Lib.hid E0; clear E0) | ((with_reducible refine kn_alloc (o := ⟨some 1, _, _, _, _, _⟩) E.out rfl rfl ?_); clear E; intro g1 u E0 hb0; have E := Lib.hid E0; clear E0 hb0) | ((with_reducible refine kn_box (o := ⟨some 1, _, _, _, _, _⟩) E.out rfl rfl rfl ?_); clear E; intro g1 u E0 hb0; have E := Lib.hid E0; clear E0 hb0) | ((with_reducible refine kn_box_int (o := ⟨some 1, _, _, _, _, _⟩) E.out rfl rfl rfl ?_); clear E; intro g1 u E0 hb0; have E := Lib.hid E0; clear E0 hb0) | ((with_reducible refine kn_box_slice (o := ⟨some 1, _, _, _, _, _⟩) E.out rfl rfl rfl ?_); clear E; intro g1 u E0 hb0; have E := Lib.hid E0; clear E0 hb0) | ((with_reducible refine kn_box_bool (o := ⟨some 1, _, _, _, _, _⟩) E.out rfl rfl rfl ?_); clear E; intro g1 u E0 hb0; have E := Lib.hid E0; clear E0 hb0) | ((with_reducible refine kn_box_func (o := ⟨some 1, _, _, _, _, _⟩) E.out rfl rfl rfl ?_); clear E; intro g1 u E0 hb0; have E := Lib.hid E0; clear E0 hb0) | ((with_reducible refine kn_alloc (o := ⟨some 4, _, _, _, _, _⟩) E.out rfl rfl ?_); clear E; intro g4 u E0 hb0; have E := Lib.hid E0; clear E0 hb0) | ((with_reducible refine kn_box (o := ⟨some 4, _, _, _, _, _⟩) E.out rfl rfl rfl ?_); clear E; intro g4 u E0 hb0; have E := Lib.hid E0; clear E0 hb0) | ((with_reducible refine kn_box_int (o := ⟨some 4, _, _, _, _, _⟩) E.out rfl rfl rfl ?_); clear E; intro g4 u E0 hb0; have E := Lib.hid E0; clear E0 hb0) | ((with_reducible refine kn_box_slice (o := ⟨some 4, _, _, _, _, _⟩) E.out rfl rfl rfl ?_); clear E; intro g4 u E0 hb0; have E := Lib.hid E0; clear E0 hb0) | ((with_reducible refine kn_box_bool (o := ⟨some 4, _, _, _, _, _⟩) E.out rfl rfl rfl ?_); clear E; intro g4 u E0 hb0; have E := Lib.hid E0; clear E0 hb0) | ((with_reducible refine kn_box_func (o := ⟨some 4, _, _, _, _, _⟩) E.out rfl rfl rfl ?_); clear E; intro g4 u E0 hb0; have E := Lib.hid E0; clear E0 hb0) | ((with_reducible refine kn_alloc (o := ⟨some 6, _, _, _, _, _⟩) E.out rfl rfl ?_); clear E; intro g6 u E0 hb0; have E := Lib.hid E0; clear E0 hb0) | ((with_reducible refine kn_box (o := ⟨some 6, _, _, _, _, _⟩) E.out rfl rfl rfl ?_); clear E; intro g6 u E0 hb0; have E := Lib.hid E0; clear E0 hb0) | ((with_reducible refine kn_box_int (o := ⟨some 6, _, _, _, _, _⟩) E.out rfl rfl rfl ?_); clear E; intro g6 u E0 hb0; have E := Lib.hid E0; clear E0 hb0) | ((with_reducible refine kn_box_slice (o := ⟨some 6, _, _, _, _, _⟩) E.out rfl rfl rfl ?_); clear E; intro g6 u E0 hb0; have E := Lib.hid E0; clear E0 hb0) | ((with_reducible refine kn_box_bool (o := ⟨some 6, _, _, _, _, _⟩) E.out rfl rfl rfl ?_); clear E; intro g6 u E0 hb0; have E := Lib.hid E0; clear E0 hb0) | ((with_reducible refine kn_box_func (o := ⟨some 6, _, _, _, _, _⟩) E.out rfl rfl rfl ?_); clear E; intro g6 u E0 hb0; have E := Lib.hid E0; clear E0 hb0) | ((with_reducible refine kn_alloc (o := ⟨some 8, _, _, _, _, _⟩) E.out rfl rfl ?_); clear E; intro g8 u E0 hb0; have E := Lib.hid E0; clear E0 hb0) | ((with_reducible refine kn_box (o := ⟨some 8, _, _, _, _, _⟩) E.out rfl rfl rfl ?_); clear E; intro g8 u E0 hb0; have E := Lib.hid E0; clear E0 hb0) | ((with_reducible refine kn_box_int (o := ⟨some 8, _, _, _, _, _⟩) E.out rfl rfl rfl ?_); clear E; intro g8 u E0 hb0; have E := Lib.hid E0; clear E0 hb0) | ((with_reducible refine kn_box_slice (o := ⟨some 8, _, _, _, _, _⟩) E.out rfl rfl rfl ?_); clear E; intro g8 u E0 hb0; have E := Lib.hid E0; clear E0 hb0) | ((with_reducible refine kn_box_bool (o := ⟨some 8, _, _, _, _, _⟩) E.out rfl rfl rfl ?_); clear E; intro g8 u E0 hb0; have E := Lib.hid E0; clear E0 hb0) | ((with_reducible refine kn_box_func (o := ⟨some 8, _, _, _, _, _⟩) E.out rfl rfl rfl ?_); clear E; intro g8 u E0 hb0; have E := Lib.hid E0; clear E0 hb0) | ((with_reducible refine kn_alloc E.out rfl rfl ?_); clear E; intro g u E0 hb0; have E := Lib.hid E0; clear E0 hb0) | ((with_reducible refine kn_box E.out rfl rfl rfl ?_); clear E; intro g u E0 hb0; have E := Lib.hid E0; clear E0 hb0) | ((with_reducible refine kn_box_int E.out rfl rfl rfl ?_); clear E; intro g u E0 hb0; have E := Lib.hid E0; clear E0 hb0) | ((with_reducible refine kn_box_slice E.out rfl rfl rfl ?_); clear E; intro g u E0 hb0; have E := Lib.hid E0; clear E0 hb0) | ((with_reducible refine kn_box_bool E.out rfl rfl rfl ?_); clear E; intro g u E0 hb0; have E := Lib.hid E0; clear E0 hb0) | ((with_reducible refine kn_box_func E.out rfl rfl rfl ?_); clear E; intro g u E0 hb0; have E := Lib.hid E0; clear E0 hb0))
  go_ret
  exact ⟨rfl, E.out.bel⟩
end Go.Proofs.YtjlkdmdepdoanaaDoor
