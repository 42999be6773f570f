/- The block of any parts, the document's. -/
import Derived.Test.YtjlkdmdepdoanaaDoorE1Join
import Derived.Test.YtjlkdmdepdoanaaDoorE1Rmay
set_option linter.all false
namespace Go.Proofs.YtjlkdmdepdoanaaDoor
open Go.RowKit
open Bi Lv Eo Bc

set_option maxHeartbeats 8000000 in
set_option maxRecDepth 100000 in
theorem rlay (d f : Bool) (Z W : List Int) (A : Option Addr) (c : Nat) (w : World) (hc : 8 ≤ c ∧ c ≤ 9223372036854775807) (hWl : W.length = 16) (hW : ∀ i, i < 16 → W.getD i 0 = Z.getD (8 + i) 0) (h : okP d Z) (hB : Bs w w.heap.size A 8 (lL (jG d f Z) 0)) :
    Calls Tryd.prog 41 #[.slice A 8 c, arr W] w (LaidS w (jB d f Z)) := by
  have E := Lib.hid ((Kn.start w).arg_bs hB)
  have hM := Lib.hid (lM_length (jG d f Z))
  have hL := Lib.hid (lL_length (jG d f Z))
  have H4 := Lib.hid (fun i (hi : i < 16) => show 0 ≤ W.getD i 0 ∧ W.getD i 0 < 4 from by rw [hW i hi]; exact ok_w h hi)
  have S1 := Lib.hid (fun i (hi : i < 16) (v : Nat) (hv : W.getD i 0 = (v : Int)) => show st (lL (jG d f Z) i) true (47 - pos i) 1 ((v : Int) / 2).toNat = lM (jG d f Z) i from by
    have h4 := ok_w h hi
    rw [← hW i hi, hv] at h4
    refine lM_st _ i _ hi ?_
    rw [jG_hi d f Z _ (pos_lt hi), pos_pos hi, ← hW i hi, hv, Int.toNat_natCast, ← bit_div]
    omega)
  have S2 := Lib.hid (fun i (hi : i < 16) (v : Nat) (hv : W.getD i 0 = (v : Int)) => show st (lM (jG d f Z) i) true (63 - pos i) 1 ((v : Int) % 2).toNat = lL (jG d f Z) (i + 1) from by
    have h4 := ok_w h hi
    rw [← hW i hi, hv] at h4
    refine lL_st _ i _ hi ?_
    rw [jG_lo d f Z _ (pos_lt hi), pos_pos hi, ← hW i hi, hv, Int.toNat_natCast, ← bit_div]
    omega)
  rw [show jB d f Z = lL (jG d f Z) 16 from (lL_full _).symm]
  clear hW h hB
  generalize lL (jG d f Z) = LL at *
  generalize lM (jG d f Z) = LM at *
  go_enter Tryd.func41, Tryd.ntmps41
  go_wp2_with (first | ((with_reducible refine kn_load E.out rfl rfl rfl rfl ?_)) | ((with_reducible refine kn_load_if E.out rfl rfl rfl rfl ?_)) | ((with_reducible refine kn_loads E.out rfl rfl rfl ?_ ?_); (focus (first | rfl | (simp only [i64s_length, u8s_length]; first | rfl | assumption | omega)))) | ((with_reducible refine kn_loads_if E.out rfl rfl rfl ?_ ?_); (focus (first | rfl | (simp only [i64s_length, u8s_length]; first | rfl | assumption | omega)))) | ((with_reducible refine kn_store1_int E.out rfl rfl rfl rfl rfl ?_); clear E; intro u E0; have E := Lib.hid E0; clear E0) | ((with_reducible refine kn_store1_slice E.out rfl rfl rfl rfl rfl ?_); clear E; intro u E0; have E := Lib.hid E0; clear E0) | ((with_reducible refine kn_store1_bool E.out rfl rfl rfl rfl rfl ?_); clear E; intro u E0; have E := Lib.hid E0; clear E0) | ((with_reducible refine kn_stores E.out rfl rfl rfl rfl rfl ?_ ?_ ?_); (focus (first | exact ⟨rfl, rfl⟩ | (simp only [i64s_length, u8s_length]; refine ⟨?_, ?_⟩ <;> first | rfl | assumption | omega))); (focus (first | exact i64s_one _ | exact u8s_one _ | simp [Value.oneCell'])); clear E; intro u E0; have E := Lib.hid E0; clear E0) | ((with_reducible refine kn_alloc (o := ⟨some 3, _, _, _, _, _⟩) E.out rfl rfl ?_); clear E; intro g3 u E0 hb0; have E := Lib.hid E0; clear E0 hb0) | ((with_reducible refine kn_box (o := ⟨some 3, _, _, _, _, _⟩) E.out rfl rfl rfl ?_); clear E; intro g3 u E0 hb0; have E := Lib.hid E0; clear E0 hb0) | ((with_reducible refine kn_box_int (o := ⟨some 3, _, _, _, _, _⟩) E.out rfl rfl rfl ?_); clear E; intro g3 u E0 hb0; have E := Lib.hid E0; clear E0 hb0) | ((with_reducible refine kn_box_slice (o := ⟨some 3, _, _, _, _, _⟩) E.out rfl rfl rfl ?_); clear E; intro g3 u E0 hb0; have E := Lib.hid E0; clear E0 hb0) | ((with_reducible refine kn_box_bool (o := ⟨some 3, _, _, _, _, _⟩) E.out rfl rfl rfl ?_); clear E; intro g3 u E0 hb0; have E := Lib.hid E0; clear E0 hb0) | ((with_reducible refine kn_box_func (o := ⟨some 3, _, _, _, _, _⟩) E.out rfl rfl rfl ?_); clear E; intro g3 u E0 hb0; have E := Lib.hid E0; clear E0 hb0) | ((with_reducible refine kn_alloc E.out rfl rfl ?_); clear E; intro g u E0 hb0; have E := Lib.hid E0; clear E0 hb0) | ((with_reducible refine kn_box E.out rfl rfl rfl ?_); clear E; intro g u E0 hb0; have E := Lib.hid E0; clear E0 hb0) | ((with_reducible refine kn_box_int E.out rfl rfl rfl ?_); clear E; intro g u E0 hb0; have E := Lib.hid E0; clear E0 hb0) | ((with_reducible refine kn_box_slice E.out rfl rfl rfl ?_); clear E; intro g u E0 hb0; have E := Lib.hid E0; clear E0 hb0) | ((with_reducible refine kn_box_bool E.out rfl rfl rfl ?_); clear E; intro g u E0 hb0; have E := Lib.hid E0; clear E0 hb0) | ((with_reducible refine kn_box_func E.out rfl rfl rfl ?_); clear E; intro g u E0 hb0; have E := Lib.hid E0; clear E0 hb0))
  go_loopw [5, 0] (fun ci bb wr => ∃ (i : Nat) (A1 : Option Addr) (c1 : Nat), i ≤ 16 ∧ ci = .int .i64 i ∧ bb = .slice A1 8 c1 ∧ (8 ≤ c1 ∧ c1 ≤ 9223372036854775807) ∧ Hid (Kn w [.row g3 26 (i64s W)] [bsF A1 8 (LL i)] wr)) (fun ci _ _ => 16 - (intOf ci).toNat)
  case atStart => exact ⟨0, A, c, by omega, rfl, rfl, hc, E⟩
  case round =>
    clear E
    obtain ⟨i, A1, c1, hi, rfl, rfl, hc1, E⟩ := hrel
    by_cases hlt : i < 16
    · have hi3 : (i : Int) < 16 := by omega
      have h4 := H4.out i hlt
      obtain ⟨v, hv⟩ : ∃ v : Nat, W.getD i 0 = (v : Int) := ⟨(W.getD i 0).toNat, by omega⟩
      have s1 := Lib.hid (S1.out i hlt v hv)
      have s2 := Lib.hid (S2.out i hlt v hv)
      have hml := Lib.hid (hM.out i)
      have hll := Lib.hid (hL.out (i + 1))
      have hps := pos_lt hlt
      have hpe : ((pos i : Nat) : Int) = 4 * ((i : Int) % 4) + (i : Int) / 4 := by unfold pos; omega
      rw [hv] at h4
      have hv4 : v < 4 := by omega
      have HV := Lib.hid hv
      have hh1 := Lib.hid (show 0 ≤ (v : Int) / 2 ∧ (v : Int) / 2 < ((2 ^ 1 : Nat) : Int) from by omega)
      have hh2 := Lib.hid (show 0 ≤ (v : Int) % 2 ∧ (v : Int) % 2 < ((2 ^ 1 : Nat) : Int) from by omega)
      clear H4 S1 S2 hM hL hv h4
      generalize pos i = q at *
      have t1 := Lib.hid (fun (A : Option Addr) (c : Nat) (u : World) (hu : Bs u u.heap.size A 8 (LL i)) => show Calls Tryd.prog 39 #[.slice A 8 c, .int .i64 (47 - (4 * ((i : Int) % 4) + (i : Int) / 4)), .int .i64 1, .int .i64 ((v : Int) / 2)] u (LaidS u (LM i)) from set10 A c (47 - (4 * ((i : Int) % 4) + (i : Int) / 4)) 1 ((v : Int) / 2) (47 - q) 1 (by first | rfl | omega) (by first | rfl | omega) (LL i) (LM i) u hu (by omega) (by omega) hh1.out s1.out)
      have t2 := Lib.hid (fun (A : Option Addr) (c : Nat) (u : World) (hu : Bs u u.heap.size A 8 (LM i)) => show Calls Tryd.prog 39 #[.slice A 8 c, .int .i64 (63 - (4 * ((i : Int) % 4) + (i : Int) / 4)), .int .i64 1, .int .i64 ((v : Int) % 2)] u (LaidS u (LL (i + 1))) from set10 A c (63 - (4 * ((i : Int) % 4) + (i : Int) / 4)) 1 ((v : Int) % 2) (63 - q) 1 (by first | rfl | omega) (by first | rfl | omega) (LM i) (LL (i + 1)) u hu (by omega) (by omega) hh2.out s2.out)
      clear s1 s2 hh1 hh2
      go_wp2_with (first
        | (go_at_call 39; (with_reducible refine (t1.out A1 c1 _ ?hB).mono ?_); (case hB => exact E.out.bs List.mem_cons_self); rintro e w1 ⟨A2, nc2, c2, rfl, hB, hnc2, hc2, hb⟩; obtain rfl : nc2 = 8 := hB.1.symm.trans hml.out; have E1 := Lib.hid (E.out.later hb); clear hb E; have E := E1; clear E1; have E1 := Lib.hid (E.out.new_bsi hB); clear E hB; have E := E1; clear E1)
        | (go_at_call 39; (with_reducible refine (t2.out A2 c2 _ ?hB).mono ?_); (case hB => exact E.out.bs List.mem_cons_self); rintro e w1 ⟨A3, nc3, c3, rfl, hB, hnc3, hc3, hb⟩; obtain rfl : nc3 = 8 := hB.1.symm.trans hll.out; have E1 := Lib.hid (E.out.later hb); clear hb E; have E := E1; clear E1; have E1 := Lib.hid (E.out.new_bsi hB); clear E hB; have E := E1; clear E1)
        | ((with_reducible refine kn_loadi (g := g3) (i := i) E.out rfl rfl rfl ?hi ?_); (case hi => omega); rw [HV.out])
        | ((with_reducible refine kn_load E.out rfl rfl rfl rfl ?_)) | ((with_reducible refine kn_load_if E.out rfl rfl rfl rfl ?_)) | ((with_reducible refine kn_loads E.out rfl rfl rfl ?_ ?_); (focus (first | rfl | (simp only [i64s_length, u8s_length]; first | rfl | assumption | omega)))) | ((with_reducible refine kn_loads_if E.out rfl rfl rfl ?_ ?_); (focus (first | rfl | (simp only [i64s_length, u8s_length]; first | rfl | assumption | omega)))) | ((with_reducible refine kn_store1_int E.out rfl rfl rfl rfl rfl ?_); clear E; intro u E0; have E := Lib.hid E0; clear E0) | ((with_reducible refine kn_store1_slice E.out rfl rfl rfl rfl rfl ?_); clear E; intro u E0; have E := Lib.hid E0; clear E0) | ((with_reducible refine kn_store1_bool E.out rfl rfl rfl rfl rfl ?_); clear E; intro u E0; have E := Lib.hid E0; clear E0) | ((with_reducible refine kn_stores E.out rfl rfl rfl rfl rfl ?_ ?_ ?_); (focus (first | exact ⟨rfl, rfl⟩ | (simp only [i64s_length, u8s_length]; refine ⟨?_, ?_⟩ <;> first | rfl | assumption | omega))); (focus (first | exact i64s_one _ | exact u8s_one _ | simp [Value.oneCell'])); clear E; intro u E0; have E := Lib.hid E0; clear E0) | ((with_reducible refine kn_alloc E.out rfl rfl ?_); clear E; intro g u E0 hb0; have E := Lib.hid E0; clear E0 hb0) | ((with_reducible refine kn_box E.out rfl rfl rfl ?_); clear E; intro g u E0 hb0; have E := Lib.hid E0; clear E0 hb0) | ((with_reducible refine kn_box_int E.out rfl rfl rfl ?_); clear E; intro g u E0 hb0; have E := Lib.hid E0; clear E0 hb0) | ((with_reducible refine kn_box_slice E.out rfl rfl rfl ?_); clear E; intro g u E0 hb0; have E := Lib.hid E0; clear E0 hb0) | ((with_reducible refine kn_box_bool E.out rfl rfl rfl ?_); clear E; intro g u E0 hb0; have E := Lib.hid E0; clear E0 hb0) | ((with_reducible refine kn_box_func E.out rfl rfl rfl ?_); clear E; intro g u E0 hb0; have E := Lib.hid E0; clear E0 hb0))
      go_roundw
      case rel => exact ⟨i + 1, A3, c3, by omega, by go_num, rfl, ⟨hnc3, hc3⟩, E.out.part _ _ (List.Sublist.refl _) (by simp)⟩
      case measure => simp [intOf]; try omega
    · have hi3 : ¬ ((i : Int) < 16) := by omega
      have ei : i = 16 := by omega
      rw [ei] at E
      clear H4 S1 S2 hM hL hlt hi ei
      go_wp2_with (first | ((with_reducible refine kn_load E.out rfl rfl rfl rfl ?_)) | ((with_reducible refine kn_load_if E.out rfl rfl rfl rfl ?_)) | ((with_reducible refine kn_loads E.out rfl rfl rfl ?_ ?_); (focus (first | rfl | (simp only [i64s_length, u8s_length]; first | rfl | assumption | omega)))) | ((with_reducible refine kn_loads_if E.out rfl rfl rfl ?_ ?_); (focus (first | rfl | (simp only [i64s_length, u8s_length]; first | rfl | assumption | omega)))) | ((with_reducible refine kn_store1_int E.out rfl rfl rfl rfl rfl ?_); clear E; intro u E0; have E := Lib.hid E0; clear E0) | ((with_reducible refine kn_store1_slice E.out rfl rfl rfl rfl rfl ?_); clear E; intro u E0; have E := Lib.hid E0; clear E0) | ((with_reducible refine kn_store1_bool E.out rfl rfl rfl rfl rfl ?_); clear E; intro u E0; have E := Lib.hid E0; clear E0) | ((with_reducible refine kn_stores E.out rfl rfl rfl rfl rfl ?_ ?_ ?_); (focus (first | exact ⟨rfl, rfl⟩ | (simp only [i64s_length, u8s_length]; refine ⟨?_, ?_⟩ <;> first | rfl | assumption | omega))); (focus (first | exact i64s_one _ | exact u8s_one _ | simp [Value.oneCell'])); clear E; intro u E0; have E := Lib.hid E0; clear E0) | ((with_reducible refine kn_alloc E.out rfl rfl ?_); clear E; intro g u E0 hb0; have E := Lib.hid E0; clear E0 hb0) | ((with_reducible refine kn_box E.out rfl rfl rfl ?_); clear E; intro g u E0 hb0; have E := Lib.hid E0; clear E0 hb0) | ((with_reducible refine kn_box_int E.out rfl rfl rfl ?_); clear E; intro g u E0 hb0; have E := Lib.hid E0; clear E0 hb0) | ((with_reducible refine kn_box_slice E.out rfl rfl rfl ?_); clear E; intro g u E0 hb0; have E := Lib.hid E0; clear E0 hb0) | ((with_reducible refine kn_box_bool E.out rfl rfl rfl ?_); clear E; intro g u E0 hb0; have E := Lib.hid E0; clear E0 hb0) | ((with_reducible refine kn_box_func E.out rfl rfl rfl ?_); clear E; intro g u E0 hb0; have E := Lib.hid E0; clear E0 hb0))
      go_ret
      exact ⟨A1, 8, c1, rfl, E.out.bs (by simp), hc1.1, hc1.2, E.out.bel⟩

set_option maxHeartbeats 2000000 in
set_option maxRecDepth 100000 in
theorem rjoin_no (d f : Bool) (Z : List Int) (w : World) (hZ : Z.length = 24) (h : ¬ okP d Z) :
    Calls Tryd.prog 18 #[.agg (blk d f Z).toArray] w (Laid w (jV d f Z) (jE d Z)) := by
  have E := Lib.hid (Kn.start w)
  have hF := Lib.hid (fun u => may_any d f Z u hZ)
  rw [decide_eq_false h] at hF
  rw [jV_no h, jE_no h]
  clear h
  go_enter Tryd.func18, Tryd.ntmps18
  go_wp2_with (first
    | (go_at_call 38; refine (hF.out _).mono ?_; clear hF; rintro e w1 ⟨rfl, hb⟩; have E1 := Lib.hid (E.out.later hb); clear hb E; have E := E1; clear E1)
    | ((with_reducible refine kn_ball (g := g1) E.out rfl rfl rfl ?h1 ?_); (case h1 => exact hZ))
    | ((with_reducible refine kn_load E.out rfl rfl rfl rfl ?_)) | ((with_reducible refine kn_load_if E.out rfl rfl rfl rfl ?_)) | ((with_reducible refine kn_loads E.out rfl rfl rfl ?_ ?_); (focus (first | rfl | (simp only [i64s_length, u8s_length]; first | rfl | assumption | omega)))) | ((with_reducible refine kn_loads_if E.out rfl rfl rfl ?_ ?_); (focus (first | rfl | (simp only [i64s_length, u8s_length]; first | rfl | assumption | omega)))) | ((with_reducible refine kn_store1_int E.out rfl rfl rfl rfl rfl ?_); clear E; intro u E0; have E := Lib.hid E0; clear E0) | ((with_reducible refine kn_store1_slice E.out rfl rfl rfl rfl rfl ?_); clear E; intro u E0; have E := Lib.hid E0; clear E0) | ((with_reducible refine kn_store1_bool E.out rfl rfl rfl rfl rfl ?_); clear E; intro u E0; have E := Lib.hid E0; clear E0) | ((with_reducible refine kn_stores E.out rfl rfl rfl rfl rfl ?_ ?_ ?_); (focus (first | exact ⟨rfl, rfl⟩ | (simp only [i64s_length, u8s_length]; refine ⟨?_, ?_⟩ <;> first | rfl | assumption | omega))); (focus (first | exact i64s_one _ | exact u8s_one _ | simp [Value.oneCell'])); clear E; intro u E0; have E := Lib.hid E0; clear E0) | ((with_reducible refine kn_alloc (o := ⟨some 1, _, _, _, _, _⟩) E.out rfl rfl ?_); clear E; intro g1 u E0 hb0; have E := Lib.hid E0; clear E0 hb0) | ((with_reducible refine kn_box (o := ⟨some 1, _, _, _, _, _⟩) E.out rfl rfl rfl ?_); clear E; intro g1 u E0 hb0; have E := Lib.hid E0; clear E0 hb0) | ((with_reducible refine kn_box_int (o := ⟨some 1, _, _, _, _, _⟩) E.out rfl rfl rfl ?_); clear E; intro g1 u E0 hb0; have E := Lib.hid E0; clear E0 hb0) | ((with_reducible refine kn_box_slice (o := ⟨some 1, _, _, _, _, _⟩) E.out rfl rfl rfl ?_); clear E; intro g1 u E0 hb0; have E := Lib.hid E0; clear E0 hb0) | ((with_reducible refine kn_box_bool (o := ⟨some 1, _, _, _, _, _⟩) E.out rfl rfl rfl ?_); clear E; intro g1 u E0 hb0; have E := Lib.hid E0; clear E0 hb0) | ((with_reducible refine kn_box_func (o := ⟨some 1, _, _, _, _, _⟩) E.out rfl rfl rfl ?_); clear E; intro g1 u E0 hb0; have E := Lib.hid E0; clear E0 hb0) | ((with_reducible refine kn_alloc E.out rfl rfl ?_); clear E; intro g u E0 hb0; have E := Lib.hid E0; clear E0 hb0) | ((with_reducible refine kn_box E.out rfl rfl rfl ?_); clear E; intro g u E0 hb0; have E := Lib.hid E0; clear E0 hb0) | ((with_reducible refine kn_box_int E.out rfl rfl rfl ?_); clear E; intro g u E0 hb0; have E := Lib.hid E0; clear E0 hb0) | ((with_reducible refine kn_box_slice E.out rfl rfl rfl ?_); clear E; intro g u E0 hb0; have E := Lib.hid E0; clear E0 hb0) | ((with_reducible refine kn_box_bool E.out rfl rfl rfl ?_); clear E; intro g u E0 hb0; have E := Lib.hid E0; clear E0 hb0) | ((with_reducible refine kn_box_func E.out rfl rfl rfl ?_); clear E; intro g u E0 hb0; have E := Lib.hid E0; clear E0 hb0))
  go_ret2
  exact ⟨none, 0, 0, rfl, ⟨rfl, by simp, fun h => absurd h (by omega)⟩, by omega, by omega, E.out.bel⟩


set_option maxHeartbeats 8000000 in
set_option maxRecDepth 100000 in
theorem rjoin_true (f : Bool) (Z : List Int) (w : World) (hZ : Z.length = 24) (h : okP true Z) :
    Calls Tryd.prog 18 #[.agg (blk true f Z).toArray] w (Laid w (jV true f Z) (jE true Z)) := by
  have E := Lib.hid (Kn.start w)
  have hF := Lib.hid (fun u => may_any true f Z u hZ)
  rw [decide_eq_true h] at hF
  rw [jV_ok h, jE_ok h]
  have hLl := Lib.hid (lP_length (jG true f Z))
  have h0 := Lib.hid (lP_zero (jG true f Z))
  have SA := Lib.hid (fun c (hc : c < 3) => show (0 ≤ Z.getD c 0 ∧ Z.getD c 0 < ((2 ^ 5 : Nat) : Int)) ∧ st (lP (jG true f Z) (8 * c)) true (8 * c) 5 (Z.getD c 0).toNat = lP (jG true f Z) (8 * c + 5) from
    ⟨ok_a h hc, lP_st _ rfl (by omega) fun k hk => jG_a true f Z c k hc hk⟩)
  have SB := Lib.hid (fun c (hc : c < 3) => show (0 ≤ (Z.getD (3 + c) 0 % 8) ∧ (Z.getD (3 + c) 0 % 8) < ((2 ^ 3 : Nat) : Int)) ∧ st (lP (jG true f Z) (8 * c + 5)) true (8 * c + 5) 3 (Z.getD (3 + c) 0 % 8).toNat = lP (jG true f Z) (8 * (c + 1)) from by
    have hb := ok_b h hc
    have hb1 := hb.1 rfl
    have e8 : ((2 ^ 3 : Nat) : Int) = 8 := rfl
    have key : (Z.getD (3 + c) 0 % 8) = Z.getD (3 + c) 0 % ((2 ^ w2 true : Nat) : Int) := rfl
    refine ⟨by rw [e8]; omega, lP_st _ (by omega) (by omega) fun k hk => ?_⟩
    rw [key]
    exact jG_b true f Z c k hc hk)
  have ST := Lib.hid (fun c (hc : c < 2) => show (0 ≤ Z.getD (6 + c) 0 ∧ Z.getD (6 + c) 0 < ((2 ^ 3 : Nat) : Int)) ∧ st (lP (jG true f Z) (24 + 3 * c)) true (24 + 3 * c) 3 (Z.getD (6 + c) 0).toNat = lP (jG true f Z) (24 + 3 * (c + 1)) from
    ⟨ok_t h hc, lP_st _ (by omega) (by omega) fun k hk => jG_t true f Z c k hc hk⟩)
  have SD := Lib.hid (show (0 ≤ 1 ∧ (((true).toNat : Nat) : Int) < ((2 ^ 1 : Nat) : Int)) ∧ st (lP (jG true f Z) 30) true 30 1 (((true).toNat : Nat) : Int).toNat = lP (jG true f Z) 31 from
    ⟨by decide, lP_st _ rfl (by omega) fun k hk => by
      obtain rfl : k = 0 := by omega
      rw [jG_d]; rfl⟩)
  have SF := Lib.hid (show (0 ≤ ((f.toNat : Nat) : Int) ∧ ((f.toNat : Nat) : Int) < ((2 ^ 1 : Nat) : Int)) ∧ st (lP (jG true f Z) 31) true 31 1 ((f.toNat : Nat) : Int).toNat = lP (jG true f Z) 32 from
    ⟨by cases f <;> decide, lP_st _ rfl (by omega) fun k hk => by
      obtain rfl : k = 0 := by omega
      rw [jG_f]; cases f <;> rfl⟩)
  have hLy := Lib.hid (fun (W : List Int) (A : Option Addr) (c : Nat) (u : World) hc hWl hW hB => rlay true f Z W A c u hc hWl hW h hB)
  rw [← lL_zero] at hLy
  have hB1 := Lib.hid (fun u => rbit10_any true u)
  have hB2 := Lib.hid (fun u => rbit10_any f u)
  have hMo := Lib.hid (fun n u => mod10_any n 8 u (by omega) (by omega))
  have hjl := Lib.hid (jB_length true f Z)
  clear h
  generalize lP (jG true f Z) = LP at *
  generalize jB true f Z = JB at *
  go_enter Tryd.func18, Tryd.ntmps18
  go_wp2_with (first
    | (go_at_call 38; refine (hF.out _).mono ?_; clear hF; rintro e w1 ⟨rfl, hb⟩; have E1 := Lib.hid (E.out.later hb); clear hb E; have E := E1; clear E1)
    | ((with_reducible refine kn_make8 E.out rfl rfl rfl rfl ?_); clear E; intro gg u E0 hB; have E := Lib.hid ((E0.rest gg).new_bsi hB); clear E0 hB)
    | ((with_reducible refine kn_ball (g := g1) E.out rfl rfl rfl ?h1 ?_); (case h1 => exact hZ))
    | ((with_reducible refine kn_load E.out rfl rfl rfl rfl ?_)) | ((with_reducible refine kn_load_if E.out rfl rfl rfl rfl ?_)) | ((with_reducible refine kn_loads E.out rfl rfl rfl ?_ ?_); (focus (first | rfl | (simp only [i64s_length, u8s_length]; first | rfl | assumption | omega)))) | ((with_reducible refine kn_loads_if E.out rfl rfl rfl ?_ ?_); (focus (first | rfl | (simp only [i64s_length, u8s_length]; first | rfl | assumption | omega)))) | ((with_reducible refine kn_store1_int E.out rfl rfl rfl rfl rfl ?_); clear E; intro u E0; have E := Lib.hid E0; clear E0) | ((with_reducible refine kn_store1_slice E.out rfl rfl rfl rfl rfl ?_); clear E; intro u E0; have E := Lib.hid E0; clear E0) | ((with_reducible refine kn_store1_bool E.out rfl rfl rfl rfl rfl ?_); clear E; intro u E0; have E := Lib.hid E0; clear E0) | ((with_reducible refine kn_stores E.out rfl rfl rfl rfl rfl ?_ ?_ ?_); (focus (first | exact ⟨rfl, rfl⟩ | (simp only [i64s_length, u8s_length]; refine ⟨?_, ?_⟩ <;> first | rfl | assumption | omega))); (focus (first | exact i64s_one _ | exact u8s_one _ | simp [Value.oneCell'])); clear E; intro u E0; have E := Lib.hid E0; clear E0) | ((with_reducible refine kn_alloc (o := ⟨some 1, _, _, _, _, _⟩) E.out rfl rfl ?_); clear E; intro g1 u E0 hb0; have E := Lib.hid E0; clear E0 hb0) | ((with_reducible refine kn_box (o := ⟨some 1, _, _, _, _, _⟩) E.out rfl rfl rfl ?_); clear E; intro g1 u E0 hb0; have E := Lib.hid E0; clear E0 hb0) | ((with_reducible refine kn_box_int (o := ⟨some 1, _, _, _, _, _⟩) E.out rfl rfl rfl ?_); clear E; intro g1 u E0 hb0; have E := Lib.hid E0; clear E0 hb0) | ((with_reducible refine kn_box_slice (o := ⟨some 1, _, _, _, _, _⟩) E.out rfl rfl rfl ?_); clear E; intro g1 u E0 hb0; have E := Lib.hid E0; clear E0 hb0) | ((with_reducible refine kn_box_bool (o := ⟨some 1, _, _, _, _, _⟩) E.out rfl rfl rfl ?_); clear E; intro g1 u E0 hb0; have E := Lib.hid E0; clear E0 hb0) | ((with_reducible refine kn_box_func (o := ⟨some 1, _, _, _, _, _⟩) E.out rfl rfl rfl ?_); clear E; intro g1 u E0 hb0; have E := Lib.hid E0; clear E0 hb0) | ((with_reducible refine kn_alloc E.out rfl rfl ?_); clear E; intro g u E0 hb0; have E := Lib.hid E0; clear E0 hb0) | ((with_reducible refine kn_box E.out rfl rfl rfl ?_); clear E; intro g u E0 hb0; have E := Lib.hid E0; clear E0 hb0) | ((with_reducible refine kn_box_int E.out rfl rfl rfl ?_); clear E; intro g u E0 hb0; have E := Lib.hid E0; clear E0 hb0) | ((with_reducible refine kn_box_slice E.out rfl rfl rfl ?_); clear E; intro g u E0 hb0; have E := Lib.hid E0; clear E0 hb0) | ((with_reducible refine kn_box_bool E.out rfl rfl rfl ?_); clear E; intro g u E0 hb0; have E := Lib.hid E0; clear E0 hb0) | ((with_reducible refine kn_box_func E.out rfl rfl rfl ?_); clear E; intro g u E0 hb0; have E := Lib.hid E0; clear E0 hb0))
  go_loopw [5, 4] (fun ci bb wr => ∃ (k : Nat) (A1 : Option Addr) (c1 : Nat), k ≤ 3 ∧ ci = .int .i64 k ∧ bb = .slice A1 8 c1 ∧ (8 ≤ c1 ∧ c1 ≤ 9223372036854775807) ∧ Hid (Kn w [.row g1 32 (blk true f Z)] [bsF A1 8 (LP (8 * k))] wr)) (fun ci _ _ => 3 - (intOf ci).toNat)
  case atStart => exact ⟨0, some ⟨gg, 0, none⟩, 8, by omega, rfl, rfl, ⟨by omega, by omega⟩, by rw [h0.out]; exact E.out.part _ _ (List.Sublist.refl _) (by simp)⟩
  case round =>
    clear E
    obtain ⟨k, A1, c1, hk, rfl, rfl, hc1, E⟩ := hrel
    by_cases hlt : k < 3
    · have hk3 : (k : Int) < 3 := by omega
      have sa := Lib.hid (SA.out k hlt)
      have sb := Lib.hid (SB.out k hlt)
      have l1 := Lib.hid (hLl.out (8 * k + 5))
      have l2 := Lib.hid (hLl.out (8 * (k + 1)))
      have hmo := Lib.hid (hMo.out (Z.getD (3 + k) 0))
      clear SA SB ST SD SF hLy hB1 hB2 h0 hjl hMo hLl
      obtain ⟨va, hva⟩ : ∃ v, Z.getD k 0 = v := ⟨_, rfl⟩
      obtain ⟨vb, hvb⟩ : ∃ v, Z.getD (3 + k) 0 = v := ⟨_, rfl⟩
      rw [hva] at sa
      rw [hvb] at sb hmo
      have HVA := Lib.hid hva
      have HVB := Lib.hid hvb
      clear hva hvb
      obtain ⟨vc, hvc⟩ : ∃ v, vb % 8 = v := ⟨_, rfl⟩
      rw [hvc] at sb hmo
      have ta := Lib.hid (fun (A : Option Addr) (c : Nat) (u : World) (hu : Bs u u.heap.size A 8 (LP (8 * k))) => show Calls Tryd.prog 39 #[.slice A 8 c, .int .i64 (8 * (k : Int)), .int .i64 5, .int .i64 va] u (LaidS u (LP (8 * k + 5))) from set10 A c (8 * (k : Int)) 5 va (8 * k) 5 (by first | rfl | omega) (by first | rfl | omega) (LP (8 * k)) (LP (8 * k + 5)) u hu (by omega) (by omega) sa.out.1 sa.out.2)
      have tb := Lib.hid (fun (A : Option Addr) (c : Nat) (u : World) (hu : Bs u u.heap.size A 8 (LP (8 * k + 5))) => show Calls Tryd.prog 39 #[.slice A 8 c, .int .i64 (8 * (k : Int) + 5), .int .i64 3, .int .i64 vc] u (LaidS u (LP (8 * (k + 1)))) from set10 A c (8 * (k : Int) + 5) 3 vc (8 * k + 5) 3 (by first | rfl | omega) (by first | rfl | omega) (LP (8 * k + 5)) (LP (8 * (k + 1))) u hu (by omega) (by omega) sb.out.1 sb.out.2)
      clear hvc
      clear sa sb
      go_wp2_with (first
        | (go_at_call 39; (with_reducible refine (ta.out A1 c1 _ ?hB).mono ?_); (case hB => exact E.out.bs List.mem_cons_self); rintro e w1 ⟨A2, nc2, c2, rfl, hB, hnc2, hc2, hb⟩; obtain rfl : nc2 = 8 := hB.1.symm.trans l1.out; have E1 := Lib.hid (E.out.later hb); clear hb E; have E := E1; clear E1; have E1 := Lib.hid (E.out.new_bsi hB); clear E hB; have E := E1; clear E1)
        | (go_at_call 39; (with_reducible refine (tb.out A2 c2 _ ?hB).mono ?_); (case hB => exact E.out.bs List.mem_cons_self); rintro e w1 ⟨A3, nc3, c3, rfl, hB, hnc3, hc3, hb⟩; obtain rfl : nc3 = 8 := hB.1.symm.trans l2.out; have E1 := Lib.hid (E.out.later hb); clear hb E; have E := E1; clear E1; have E1 := Lib.hid (E.out.new_bsi hB); clear E hB; have E := E1; clear E1)
        | (go_at_call 32; (with_reducible refine (hmo.out _).mono ?_); rintro e w1 ⟨rfl, rfl⟩)
        | ((with_reducible refine kn_bd (g := g1) E.out rfl rfl rfl ?_))
        | (((with_reducible refine kn_bz (i := k) (g := g1) E.out rfl rfl rfl ?h1 ?h2 ?_); (case h1 => omega); (case h2 => omega); rw [HVA.out]))
        | (((with_reducible refine kn_bz (i := 3 + k) (g := g1) E.out rfl rfl rfl ?h1 ?h2 ?_); (case h1 => omega); (case h2 => omega); rw [HVB.out]))
        | ((with_reducible refine kn_load E.out rfl rfl rfl rfl ?_)) | ((with_reducible refine kn_load_if E.out rfl rfl rfl rfl ?_)) | ((with_reducible refine kn_loads E.out rfl rfl rfl ?_ ?_); (focus (first | rfl | (simp only [i64s_length, u8s_length]; first | rfl | assumption | omega)))) | ((with_reducible refine kn_loads_if E.out rfl rfl rfl ?_ ?_); (focus (first | rfl | (simp only [i64s_length, u8s_length]; first | rfl | assumption | omega)))) | ((with_reducible refine kn_store1_int E.out rfl rfl rfl rfl rfl ?_); clear E; intro u E0; have E := Lib.hid E0; clear E0) | ((with_reducible refine kn_store1_slice E.out rfl rfl rfl rfl rfl ?_); clear E; intro u E0; have E := Lib.hid E0; clear E0) | ((with_reducible refine kn_store1_bool E.out rfl rfl rfl rfl rfl ?_); clear E; intro u E0; have E := Lib.hid E0; clear E0) | ((with_reducible refine kn_stores E.out rfl rfl rfl rfl rfl ?_ ?_ ?_); (focus (first | exact ⟨rfl, rfl⟩ | (simp only [i64s_length, u8s_length]; refine ⟨?_, ?_⟩ <;> first | rfl | assumption | omega))); (focus (first | exact i64s_one _ | exact u8s_one _ | simp [Value.oneCell'])); clear E; intro u E0; have E := Lib.hid E0; clear E0) | ((with_reducible refine kn_alloc E.out rfl rfl ?_); clear E; intro g u E0 hb0; have E := Lib.hid E0; clear E0 hb0) | ((with_reducible refine kn_box E.out rfl rfl rfl ?_); clear E; intro g u E0 hb0; have E := Lib.hid E0; clear E0 hb0) | ((with_reducible refine kn_box_int E.out rfl rfl rfl ?_); clear E; intro g u E0 hb0; have E := Lib.hid E0; clear E0 hb0) | ((with_reducible refine kn_box_slice E.out rfl rfl rfl ?_); clear E; intro g u E0 hb0; have E := Lib.hid E0; clear E0 hb0) | ((with_reducible refine kn_box_bool E.out rfl rfl rfl ?_); clear E; intro g u E0 hb0; have E := Lib.hid E0; clear E0 hb0) | ((with_reducible refine kn_box_func E.out rfl rfl rfl ?_); clear E; intro g u E0 hb0; have E := Lib.hid E0; clear E0 hb0))
      go_roundw
      case rel => exact ⟨k + 1, A3, c3, by omega, by go_num, rfl, ⟨hnc3, hc3⟩, E.out.part _ _ (List.Sublist.refl _) (by simp)⟩
      case measure => simp [intOf]; try omega
    · have hk3 : ¬ ((k : Int) < 3) := by omega
      have ek : k = 3 := by omega
      rw [ek] at E
      have s6 := Lib.hid (ST.out 0 (by omega))
      have s7 := Lib.hid (ST.out 1 (by omega))
      have l6 := Lib.hid (hLl.out 27)
      have l7 := Lib.hid (hLl.out 30)
      have l8 := Lib.hid (hLl.out 31)
      have l9 := Lib.hid (hLl.out 32)
      obtain ⟨va, hva⟩ : ∃ v, Z.getD 6 0 = v := ⟨_, rfl⟩
      obtain ⟨vb, hvb⟩ : ∃ v, Z.getD 7 0 = v := ⟨_, rfl⟩
      have HVA := Lib.hid hva
      have HVB := Lib.hid hvb
      have ta := Lib.hid (fun (A : Option Addr) (c : Nat) (u : World) (hu : Bs u u.heap.size A 8 (LP 24)) => show Calls Tryd.prog 39 #[.slice A 8 c, .int .i64 24, .int .i64 3, .int .i64 va] u (LaidS u (LP 27)) from set10 A c 24 3 va 24 3 (by first | rfl | omega) (by first | rfl | omega) (LP 24) (LP 27) u hu (by omega) (by omega) (by have := s6.out.1; rw [← hva]; exact this) (by have := s6.out.2; rw [← hva]; exact this))
      have tb := Lib.hid (fun (A : Option Addr) (c : Nat) (u : World) (hu : Bs u u.heap.size A 8 (LP 27)) => show Calls Tryd.prog 39 #[.slice A 8 c, .int .i64 27, .int .i64 3, .int .i64 vb] u (LaidS u (LP 30)) from set10 A c 27 3 vb 27 3 (by first | rfl | omega) (by first | rfl | omega) (LP 27) (LP 30) u hu (by omega) (by omega) (by have := s7.out.1; rw [← hvb]; exact this) (by have := s7.out.2; rw [← hvb]; exact this))
      have tc := Lib.hid (fun (A : Option Addr) (c : Nat) (u : World) (hu : Bs u u.heap.size A 8 (LP 30)) => show Calls Tryd.prog 39 #[.slice A 8 c, .int .i64 30, .int .i64 1, .int .i64 1] u (LaidS u (LP 31)) from set10 A c 30 1 1 30 1 (by first | rfl | omega) (by first | rfl | omega) (LP 30) (LP 31) u hu (by omega) (by omega) ⟨by decide, by decide⟩ SD.out.2)
      have td := Lib.hid (fun (A : Option Addr) (c : Nat) (u : World) (hu : Bs u u.heap.size A 8 (LP 31)) => show Calls Tryd.prog 39 #[.slice A 8 c, .int .i64 31, .int .i64 1, .int .i64 ((f.toNat : Nat) : Int)] u (LaidS u (LP 32)) from set10 A c 31 1 ((f.toNat : Nat) : Int) 31 1 (by first | rfl | omega) (by first | rfl | omega) (LP 31) (LP 32) u hu (by omega) (by omega) SF.out.1 SF.out.2)
      have hW2 := Lib.hid (show ∀ c, c < 16 → ((Z.drop 8).take 16).getD c 0 = Z.getD (8 + c) 0 from fun c hc => by
        rw [List.getD_eq_getElem?_getD, List.getElem?_take, if_pos hc, List.getElem?_drop, ← List.getD_eq_getElem?_getD])
      have hWl := Lib.hid (show ((Z.drop 8).take 16).length = 16 from by rw [List.length_take, List.length_drop]; omega)
      clear SA SB ST SD SF h0 hlt hk ek hMo hLl hva hvb s6 s7
      go_wp2_with (first
        | (go_at_call 40; (with_reducible refine (hB1.out _).mono ?_); clear hB1; rintro e w1 ⟨rfl, rfl⟩)
        | (go_at_call 40; (with_reducible refine (hB2.out _).mono ?_); clear hB2; rintro e w1 ⟨rfl, rfl⟩)
        | (go_at_call 39; (with_reducible refine (ta.out A1 c1 _ ?hB).mono ?_); (case hB => exact E.out.bs List.mem_cons_self); rintro e w1 ⟨A2, nc2, c2, rfl, hB, hnc2, hc2, hb⟩; obtain rfl : nc2 = 8 := hB.1.symm.trans l6.out; have E1 := Lib.hid (E.out.later hb); clear hb E; have E := E1; clear E1; have E1 := Lib.hid (E.out.new_bsi hB); clear E hB; have E := E1; clear E1)
        | (go_at_call 39; (with_reducible refine (tb.out A2 c2 _ ?hB).mono ?_); (case hB => exact E.out.bs List.mem_cons_self); rintro e w1 ⟨A3, nc3, c3, rfl, hB, hnc3, hc3, hb⟩; obtain rfl : nc3 = 8 := hB.1.symm.trans l7.out; have E1 := Lib.hid (E.out.later hb); clear hb E; have E := E1; clear E1; have E1 := Lib.hid (E.out.new_bsi hB); clear E hB; have E := E1; clear E1)
        | (go_at_call 39; (with_reducible refine (tc.out A3 c3 _ ?hB).mono ?_); (case hB => exact E.out.bs List.mem_cons_self); rintro e w1 ⟨A4, nc4, c4, rfl, hB, hnc4, hc4, hb⟩; obtain rfl : nc4 = 8 := hB.1.symm.trans l8.out; have E1 := Lib.hid (E.out.later hb); clear hb E; have E := E1; clear E1; have E1 := Lib.hid (E.out.new_bsi hB); clear E hB; have E := E1; clear E1)
        | (go_at_call 39; (with_reducible refine (td.out A4 c4 _ ?hB).mono ?_); (case hB => exact E.out.bs List.mem_cons_self); rintro e w1 ⟨A5, nc5, c5, rfl, hB, hnc5, hc5, hb⟩; obtain rfl : nc5 = 8 := hB.1.symm.trans l9.out; have E1 := Lib.hid (E.out.later hb); clear hb E; have E := E1; clear E1; have E1 := Lib.hid (E.out.new_bsi hB); clear E hB; have E := E1; clear E1)
        | (go_at_call 41; (with_reducible refine (hLy.out _ A5 c5 _ ?ha ?hb ?hc ?hd).mono ?_); (case ha => exact ⟨hnc5, hc5⟩); (case hb => exact hWl.out); (case hc => exact hW2.out); (case hd => exact E.out.bs List.mem_cons_self); rintro e w1 ⟨A6, n6, c6, rfl, hB, hn6, hc6, hb⟩; have E1 := Lib.hid (E.out.later hb); clear hb E; have E := E1; clear E1)
        | ((with_reducible refine kn_bd (g := g1) E.out rfl rfl rfl ?_))
        | ((with_reducible refine kn_bf (g := g1) E.out rfl rfl rfl ?_))
        | (((with_reducible refine kn_bz (i := 6) (g := g1) E.out rfl rfl rfl ?h1 ?h2 ?_); (case h1 => rfl); (case h2 => omega); rw [HVA.out]))
        | (((with_reducible refine kn_bz (i := 7) (g := g1) E.out rfl rfl rfl ?h1 ?h2 ?_); (case h1 => rfl); (case h2 => omega); rw [HVB.out]))
        | ((with_reducible refine kn_bp (g := g1) (i := 8) E.out rfl rfl rfl ?h1 ?h2 ?_); (case h1 => rfl); (case h2 => omega))
        | ((with_reducible refine kn_load E.out rfl rfl rfl rfl ?_)) | ((with_reducible refine kn_load_if E.out rfl rfl rfl rfl ?_)) | ((with_reducible refine kn_loads E.out rfl rfl rfl ?_ ?_); (focus (first | rfl | (simp only [i64s_length, u8s_length]; first | rfl | assumption | omega)))) | ((with_reducible refine kn_loads_if E.out rfl rfl rfl ?_ ?_); (focus (first | rfl | (simp only [i64s_length, u8s_length]; first | rfl | assumption | omega)))) | ((with_reducible refine kn_store1_int E.out rfl rfl rfl rfl rfl ?_); clear E; intro u E0; have E := Lib.hid E0; clear E0) | ((with_reducible refine kn_store1_slice E.out rfl rfl rfl rfl rfl ?_); clear E; intro u E0; have E := Lib.hid E0; clear E0) | ((with_reducible refine kn_store1_bool E.out rfl rfl rfl rfl rfl ?_); clear E; intro u E0; have E := Lib.hid E0; clear E0) | ((with_reducible refine kn_stores E.out rfl rfl rfl rfl rfl ?_ ?_ ?_); (focus (first | exact ⟨rfl, rfl⟩ | (simp only [i64s_length, u8s_length]; refine ⟨?_, ?_⟩ <;> first | rfl | assumption | omega))); (focus (first | exact i64s_one _ | exact u8s_one _ | simp [Value.oneCell'])); clear E; intro u E0; have E := Lib.hid E0; clear E0) | ((with_reducible refine kn_alloc E.out rfl rfl ?_); clear E; intro g u E0 hb0; have E := Lib.hid E0; clear E0 hb0) | ((with_reducible refine kn_box E.out rfl rfl rfl ?_); clear E; intro g u E0 hb0; have E := Lib.hid E0; clear E0 hb0) | ((with_reducible refine kn_box_int E.out rfl rfl rfl ?_); clear E; intro g u E0 hb0; have E := Lib.hid E0; clear E0 hb0) | ((with_reducible refine kn_box_slice E.out rfl rfl rfl ?_); clear E; intro g u E0 hb0; have E := Lib.hid E0; clear E0 hb0) | ((with_reducible refine kn_box_bool E.out rfl rfl rfl ?_); clear E; intro g u E0 hb0; have E := Lib.hid E0; clear E0 hb0) | ((with_reducible refine kn_box_func E.out rfl rfl rfl ?_); clear E; intro g u E0 hb0; have E := Lib.hid E0; clear E0 hb0))
      go_ret2
      exact ⟨A6, n6, c6, rfl, hB, hn6, hc6, E.out.bel⟩

set_option maxHeartbeats 8000000 in
set_option maxRecDepth 100000 in
theorem rjoin_false (f : Bool) (Z : List Int) (w : World) (hZ : Z.length = 24) (h : okP false Z) :
    Calls Tryd.prog 18 #[.agg (blk false f Z).toArray] w (Laid w (jV false f Z) (jE false Z)) := by
  have E := Lib.hid (Kn.start w)
  have hF := Lib.hid (fun u => may_any false f Z u hZ)
  rw [decide_eq_true h] at hF
  rw [jV_ok h, jE_ok h]
  have hLl := Lib.hid (lP_length (jG false f Z))
  have h0 := Lib.hid (lP_zero (jG false f Z))
  have SA := Lib.hid (fun c (hc : c < 3) => show (0 ≤ Z.getD c 0 ∧ Z.getD c 0 < ((2 ^ 4 : Nat) : Int)) ∧ st (lP (jG false f Z) (8 * c)) true (8 * c) 4 (Z.getD c 0).toNat = lP (jG false f Z) (8 * c + 4) from
    ⟨ok_a h hc, lP_st _ rfl (by omega) fun k hk => jG_a false f Z c k hc hk⟩)
  have SB := Lib.hid (fun c (hc : c < 3) => show (0 ≤ (Z.getD (3 + c) 0) ∧ (Z.getD (3 + c) 0) < ((2 ^ 4 : Nat) : Int)) ∧ st (lP (jG false f Z) (8 * c + 4)) true (8 * c + 4) 4 (Z.getD (3 + c) 0).toNat = lP (jG false f Z) (8 * (c + 1)) from by
    have hb := ok_b h hc
    have hb1 := hb.2 rfl
    have e8 : ((2 ^ 4 : Nat) : Int) = 16 := rfl
    have key : (Z.getD (3 + c) 0) = Z.getD (3 + c) 0 % ((2 ^ w2 false : Nat) : Int) := (Int.emod_eq_of_lt hb1.1 hb1.2).symm
    refine ⟨by rw [e8]; omega, lP_st _ (by omega) (by omega) fun k hk => ?_⟩
    rw [key]
    exact jG_b false f Z c k hc hk)
  have ST := Lib.hid (fun c (hc : c < 2) => show (0 ≤ Z.getD (6 + c) 0 ∧ Z.getD (6 + c) 0 < ((2 ^ 3 : Nat) : Int)) ∧ st (lP (jG false f Z) (24 + 3 * c)) true (24 + 3 * c) 3 (Z.getD (6 + c) 0).toNat = lP (jG false f Z) (24 + 3 * (c + 1)) from
    ⟨ok_t h hc, lP_st _ (by omega) (by omega) fun k hk => jG_t false f Z c k hc hk⟩)
  have SD := Lib.hid (show (0 ≤ 1 ∧ (((false).toNat : Nat) : Int) < ((2 ^ 1 : Nat) : Int)) ∧ st (lP (jG false f Z) 30) true 30 1 (((false).toNat : Nat) : Int).toNat = lP (jG false f Z) 31 from
    ⟨by decide, lP_st _ rfl (by omega) fun k hk => by
      obtain rfl : k = 0 := by omega
      rw [jG_d]; rfl⟩)
  have SF := Lib.hid (show (0 ≤ ((f.toNat : Nat) : Int) ∧ ((f.toNat : Nat) : Int) < ((2 ^ 1 : Nat) : Int)) ∧ st (lP (jG false f Z) 31) true 31 1 ((f.toNat : Nat) : Int).toNat = lP (jG false f Z) 32 from
    ⟨by cases f <;> decide, lP_st _ rfl (by omega) fun k hk => by
      obtain rfl : k = 0 := by omega
      rw [jG_f]; cases f <;> rfl⟩)
  have hLy := Lib.hid (fun (W : List Int) (A : Option Addr) (c : Nat) (u : World) hc hWl hW hB => rlay false f Z W A c u hc hWl hW h hB)
  rw [← lL_zero] at hLy
  have hB1 := Lib.hid (fun u => rbit10_any false u)
  have hB2 := Lib.hid (fun u => rbit10_any f u)
  have hMo := Lib.hid (fun n u => mod10_any n 8 u (by omega) (by omega))
  have hjl := Lib.hid (jB_length false f Z)
  clear h
  generalize lP (jG false f Z) = LP at *
  generalize jB false f Z = JB at *
  go_enter Tryd.func18, Tryd.ntmps18
  go_wp2_with (first
    | (go_at_call 38; refine (hF.out _).mono ?_; clear hF; rintro e w1 ⟨rfl, hb⟩; have E1 := Lib.hid (E.out.later hb); clear hb E; have E := E1; clear E1)
    | ((with_reducible refine kn_make8 E.out rfl rfl rfl rfl ?_); clear E; intro gg u E0 hB; have E := Lib.hid ((E0.rest gg).new_bsi hB); clear E0 hB)
    | ((with_reducible refine kn_ball (g := g1) E.out rfl rfl rfl ?h1 ?_); (case h1 => exact hZ))
    | ((with_reducible refine kn_load E.out rfl rfl rfl rfl ?_)) | ((with_reducible refine kn_load_if E.out rfl rfl rfl rfl ?_)) | ((with_reducible refine kn_loads E.out rfl rfl rfl ?_ ?_); (focus (first | rfl | (simp only [i64s_length, u8s_length]; first | rfl | assumption | omega)))) | ((with_reducible refine kn_loads_if E.out rfl rfl rfl ?_ ?_); (focus (first | rfl | (simp only [i64s_length, u8s_length]; first | rfl | assumption | omega)))) | ((with_reducible refine kn_store1_int E.out rfl rfl rfl rfl rfl ?_); clear E; intro u E0; have E := Lib.hid E0; clear E0) | ((with_reducible refine kn_store1_slice E.out rfl rfl rfl rfl rfl ?_); clear E; intro u E0; have E := Lib.hid E0; clear E0) | ((with_reducible refine kn_store1_bool E.out rfl rfl rfl rfl rfl ?_); clear E; intro u E0; have E := Lib.hid E0; clear E0) | ((with_reducible refine kn_stores E.out rfl rfl rfl rfl rfl ?_ ?_ ?_); (focus (first | exact ⟨rfl, rfl⟩ | (simp only [i64s_length, u8s_length]; refine ⟨?_, ?_⟩ <;> first | rfl | assumption | omega))); (focus (first | exact i64s_one _ | exact u8s_one _ | simp [Value.oneCell'])); clear E; intro u E0; have E := Lib.hid E0; clear E0) | ((with_reducible refine kn_alloc (o := ⟨some 1, _, _, _, _, _⟩) E.out rfl rfl ?_); clear E; intro g1 u E0 hb0; have E := Lib.hid E0; clear E0 hb0) | ((with_reducible refine kn_box (o := ⟨some 1, _, _, _, _, _⟩) E.out rfl rfl rfl ?_); clear E; intro g1 u E0 hb0; have E := Lib.hid E0; clear E0 hb0) | ((with_reducible refine kn_box_int (o := ⟨some 1, _, _, _, _, _⟩) E.out rfl rfl rfl ?_); clear E; intro g1 u E0 hb0; have E := Lib.hid E0; clear E0 hb0) | ((with_reducible refine kn_box_slice (o := ⟨some 1, _, _, _, _, _⟩) E.out rfl rfl rfl ?_); clear E; intro g1 u E0 hb0; have E := Lib.hid E0; clear E0 hb0) | ((with_reducible refine kn_box_bool (o := ⟨some 1, _, _, _, _, _⟩) E.out rfl rfl rfl ?_); clear E; intro g1 u E0 hb0; have E := Lib.hid E0; clear E0 hb0) | ((with_reducible refine kn_box_func (o := ⟨some 1, _, _, _, _, _⟩) E.out rfl rfl rfl ?_); clear E; intro g1 u E0 hb0; have E := Lib.hid E0; clear E0 hb0) | ((with_reducible refine kn_alloc E.out rfl rfl ?_); clear E; intro g u E0 hb0; have E := Lib.hid E0; clear E0 hb0) | ((with_reducible refine kn_box E.out rfl rfl rfl ?_); clear E; intro g u E0 hb0; have E := Lib.hid E0; clear E0 hb0) | ((with_reducible refine kn_box_int E.out rfl rfl rfl ?_); clear E; intro g u E0 hb0; have E := Lib.hid E0; clear E0 hb0) | ((with_reducible refine kn_box_slice E.out rfl rfl rfl ?_); clear E; intro g u E0 hb0; have E := Lib.hid E0; clear E0 hb0) | ((with_reducible refine kn_box_bool E.out rfl rfl rfl ?_); clear E; intro g u E0 hb0; have E := Lib.hid E0; clear E0 hb0) | ((with_reducible refine kn_box_func E.out rfl rfl rfl ?_); clear E; intro g u E0 hb0; have E := Lib.hid E0; clear E0 hb0))
  go_loopw [5, 4] (fun ci bb wr => ∃ (k : Nat) (A1 : Option Addr) (c1 : Nat), k ≤ 3 ∧ ci = .int .i64 k ∧ bb = .slice A1 8 c1 ∧ (8 ≤ c1 ∧ c1 ≤ 9223372036854775807) ∧ Hid (Kn w [.row g1 32 (blk false f Z)] [bsF A1 8 (LP (8 * k))] wr)) (fun ci _ _ => 3 - (intOf ci).toNat)
  case atStart => exact ⟨0, some ⟨gg, 0, none⟩, 8, by omega, rfl, rfl, ⟨by omega, by omega⟩, by rw [h0.out]; exact E.out.part _ _ (List.Sublist.refl _) (by simp)⟩
  case round =>
    clear E
    obtain ⟨k, A1, c1, hk, rfl, rfl, hc1, E⟩ := hrel
    by_cases hlt : k < 3
    · have hk3 : (k : Int) < 3 := by omega
      have sa := Lib.hid (SA.out k hlt)
      have sb := Lib.hid (SB.out k hlt)
      have l1 := Lib.hid (hLl.out (8 * k + 4))
      have l2 := Lib.hid (hLl.out (8 * (k + 1)))
      have hmo := Lib.hid (hMo.out (Z.getD (3 + k) 0))
      clear SA SB ST SD SF hLy hB1 hB2 h0 hjl hMo hLl
      obtain ⟨va, hva⟩ : ∃ v, Z.getD k 0 = v := ⟨_, rfl⟩
      obtain ⟨vb, hvb⟩ : ∃ v, Z.getD (3 + k) 0 = v := ⟨_, rfl⟩
      rw [hva] at sa
      rw [hvb] at sb hmo
      have HVA := Lib.hid hva
      have HVB := Lib.hid hvb
      clear hva hvb
      obtain ⟨vc, hvc⟩ : ∃ v, vb = v := ⟨_, rfl⟩
      rw [hvc] at sb
      have ta := Lib.hid (fun (A : Option Addr) (c : Nat) (u : World) (hu : Bs u u.heap.size A 8 (LP (8 * k))) => show Calls Tryd.prog 39 #[.slice A 8 c, .int .i64 (8 * (k : Int)), .int .i64 4, .int .i64 va] u (LaidS u (LP (8 * k + 4))) from set10 A c (8 * (k : Int)) 4 va (8 * k) 4 (by first | rfl | omega) (by first | rfl | omega) (LP (8 * k)) (LP (8 * k + 4)) u hu (by omega) (by omega) sa.out.1 sa.out.2)
      have tb := Lib.hid (fun (A : Option Addr) (c : Nat) (u : World) (hu : Bs u u.heap.size A 8 (LP (8 * k + 4))) => show Calls Tryd.prog 39 #[.slice A 8 c, .int .i64 (8 * (k : Int) + 4), .int .i64 4, .int .i64 vc] u (LaidS u (LP (8 * (k + 1)))) from set10 A c (8 * (k : Int) + 4) 4 vc (8 * k + 4) 4 (by first | rfl | omega) (by first | rfl | omega) (LP (8 * k + 4)) (LP (8 * (k + 1))) u hu (by omega) (by omega) sb.out.1 sb.out.2)
      subst hvc
      clear sa sb
      go_wp2_with (first
        | (go_at_call 39; (with_reducible refine (ta.out A1 c1 _ ?hB).mono ?_); (case hB => exact E.out.bs List.mem_cons_self); rintro e w1 ⟨A2, nc2, c2, rfl, hB, hnc2, hc2, hb⟩; obtain rfl : nc2 = 8 := hB.1.symm.trans l1.out; have E1 := Lib.hid (E.out.later hb); clear hb E; have E := E1; clear E1; have E1 := Lib.hid (E.out.new_bsi hB); clear E hB; have E := E1; clear E1)
        | (go_at_call 39; (with_reducible refine (tb.out A2 c2 _ ?hB).mono ?_); (case hB => exact E.out.bs List.mem_cons_self); rintro e w1 ⟨A3, nc3, c3, rfl, hB, hnc3, hc3, hb⟩; obtain rfl : nc3 = 8 := hB.1.symm.trans l2.out; have E1 := Lib.hid (E.out.later hb); clear hb E; have E := E1; clear E1; have E1 := Lib.hid (E.out.new_bsi hB); clear E hB; have E := E1; clear E1)
        | (go_at_call 32; (with_reducible refine (hmo.out _).mono ?_); rintro e w1 ⟨rfl, rfl⟩)
        | ((with_reducible refine kn_bd (g := g1) E.out rfl rfl rfl ?_))
        | (((with_reducible refine kn_bz (i := k) (g := g1) E.out rfl rfl rfl ?h1 ?h2 ?_); (case h1 => omega); (case h2 => omega); rw [HVA.out]))
        | (((with_reducible refine kn_bz (i := 3 + k) (g := g1) E.out rfl rfl rfl ?h1 ?h2 ?_); (case h1 => omega); (case h2 => omega); rw [HVB.out]))
        | ((with_reducible refine kn_load E.out rfl rfl rfl rfl ?_)) | ((with_reducible refine kn_load_if E.out rfl rfl rfl rfl ?_)) | ((with_reducible refine kn_loads E.out rfl rfl rfl ?_ ?_); (focus (first | rfl | (simp only [i64s_length, u8s_length]; first | rfl | assumption | omega)))) | ((with_reducible refine kn_loads_if E.out rfl rfl rfl ?_ ?_); (focus (first | rfl | (simp only [i64s_length, u8s_length]; first | rfl | assumption | omega)))) | ((with_reducible refine kn_store1_int E.out rfl rfl rfl rfl rfl ?_); clear E; intro u E0; have E := Lib.hid E0; clear E0) | ((with_reducible refine kn_store1_slice E.out rfl rfl rfl rfl rfl ?_); clear E; intro u E0; have E := Lib.hid E0; clear E0) | ((with_reducible refine kn_store1_bool E.out rfl rfl rfl rfl rfl ?_); clear E; intro u E0; have E := Lib.hid E0; clear E0) | ((with_reducible refine kn_stores E.out rfl rfl rfl rfl rfl ?_ ?_ ?_); (focus (first | exact ⟨rfl, rfl⟩ | (simp only [i64s_length, u8s_length]; refine ⟨?_, ?_⟩ <;> first | rfl | assumption | omega))); (focus (first | exact i64s_one _ | exact u8s_one _ | simp [Value.oneCell'])); clear E; intro u E0; have E := Lib.hid E0; clear E0) | ((with_reducible refine kn_alloc E.out rfl rfl ?_); clear E; intro g u E0 hb0; have E := Lib.hid E0; clear E0 hb0) | ((with_reducible refine kn_box E.out rfl rfl rfl ?_); clear E; intro g u E0 hb0; have E := Lib.hid E0; clear E0 hb0) | ((with_reducible refine kn_box_int E.out rfl rfl rfl ?_); clear E; intro g u E0 hb0; have E := Lib.hid E0; clear E0 hb0) | ((with_reducible refine kn_box_slice E.out rfl rfl rfl ?_); clear E; intro g u E0 hb0; have E := Lib.hid E0; clear E0 hb0) | ((with_reducible refine kn_box_bool E.out rfl rfl rfl ?_); clear E; intro g u E0 hb0; have E := Lib.hid E0; clear E0 hb0) | ((with_reducible refine kn_box_func E.out rfl rfl rfl ?_); clear E; intro g u E0 hb0; have E := Lib.hid E0; clear E0 hb0))
      go_roundw
      case rel => exact ⟨k + 1, A3, c3, by omega, by go_num, rfl, ⟨hnc3, hc3⟩, E.out.part _ _ (List.Sublist.refl _) (by simp)⟩
      case measure => simp [intOf]; try omega
    · have hk3 : ¬ ((k : Int) < 3) := by omega
      have ek : k = 3 := by omega
      rw [ek] at E
      have s6 := Lib.hid (ST.out 0 (by omega))
      have s7 := Lib.hid (ST.out 1 (by omega))
      have l6 := Lib.hid (hLl.out 27)
      have l7 := Lib.hid (hLl.out 30)
      have l8 := Lib.hid (hLl.out 31)
      have l9 := Lib.hid (hLl.out 32)
      obtain ⟨va, hva⟩ : ∃ v, Z.getD 6 0 = v := ⟨_, rfl⟩
      obtain ⟨vb, hvb⟩ : ∃ v, Z.getD 7 0 = v := ⟨_, rfl⟩
      have HVA := Lib.hid hva
      have HVB := Lib.hid hvb
      have ta := Lib.hid (fun (A : Option Addr) (c : Nat) (u : World) (hu : Bs u u.heap.size A 8 (LP 24)) => show Calls Tryd.prog 39 #[.slice A 8 c, .int .i64 24, .int .i64 3, .int .i64 va] u (LaidS u (LP 27)) from set10 A c 24 3 va 24 3 (by first | rfl | omega) (by first | rfl | omega) (LP 24) (LP 27) u hu (by omega) (by omega) (by have := s6.out.1; rw [← hva]; exact this) (by have := s6.out.2; rw [← hva]; exact this))
      have tb := Lib.hid (fun (A : Option Addr) (c : Nat) (u : World) (hu : Bs u u.heap.size A 8 (LP 27)) => show Calls Tryd.prog 39 #[.slice A 8 c, .int .i64 27, .int .i64 3, .int .i64 vb] u (LaidS u (LP 30)) from set10 A c 27 3 vb 27 3 (by first | rfl | omega) (by first | rfl | omega) (LP 27) (LP 30) u hu (by omega) (by omega) (by have := s7.out.1; rw [← hvb]; exact this) (by have := s7.out.2; rw [← hvb]; exact this))
      have tc := Lib.hid (fun (A : Option Addr) (c : Nat) (u : World) (hu : Bs u u.heap.size A 8 (LP 30)) => show Calls Tryd.prog 39 #[.slice A 8 c, .int .i64 30, .int .i64 1, .int .i64 0] u (LaidS u (LP 31)) from set10 A c 30 1 0 30 1 (by first | rfl | omega) (by first | rfl | omega) (LP 30) (LP 31) u hu (by omega) (by omega) ⟨by decide, by decide⟩ SD.out.2)
      have td := Lib.hid (fun (A : Option Addr) (c : Nat) (u : World) (hu : Bs u u.heap.size A 8 (LP 31)) => show Calls Tryd.prog 39 #[.slice A 8 c, .int .i64 31, .int .i64 1, .int .i64 ((f.toNat : Nat) : Int)] u (LaidS u (LP 32)) from set10 A c 31 1 ((f.toNat : Nat) : Int) 31 1 (by first | rfl | omega) (by first | rfl | omega) (LP 31) (LP 32) u hu (by omega) (by omega) SF.out.1 SF.out.2)
      have hW2 := Lib.hid (show ∀ c, c < 16 → ((Z.drop 8).take 16).getD c 0 = Z.getD (8 + c) 0 from fun c hc => by
        rw [List.getD_eq_getElem?_getD, List.getElem?_take, if_pos hc, List.getElem?_drop, ← List.getD_eq_getElem?_getD])
      have hWl := Lib.hid (show ((Z.drop 8).take 16).length = 16 from by rw [List.length_take, List.length_drop]; omega)
      clear SA SB ST SD SF h0 hlt hk ek hMo hLl hva hvb s6 s7
      go_wp2_with (first
        | (go_at_call 40; (with_reducible refine (hB1.out _).mono ?_); clear hB1; rintro e w1 ⟨rfl, rfl⟩)
        | (go_at_call 40; (with_reducible refine (hB2.out _).mono ?_); clear hB2; rintro e w1 ⟨rfl, rfl⟩)
        | (go_at_call 39; (with_reducible refine (ta.out A1 c1 _ ?hB).mono ?_); (case hB => exact E.out.bs List.mem_cons_self); rintro e w1 ⟨A2, nc2, c2, rfl, hB, hnc2, hc2, hb⟩; obtain rfl : nc2 = 8 := hB.1.symm.trans l6.out; have E1 := Lib.hid (E.out.later hb); clear hb E; have E := E1; clear E1; have E1 := Lib.hid (E.out.new_bsi hB); clear E hB; have E := E1; clear E1)
        | (go_at_call 39; (with_reducible refine (tb.out A2 c2 _ ?hB).mono ?_); (case hB => exact E.out.bs List.mem_cons_self); rintro e w1 ⟨A3, nc3, c3, rfl, hB, hnc3, hc3, hb⟩; obtain rfl : nc3 = 8 := hB.1.symm.trans l7.out; have E1 := Lib.hid (E.out.later hb); clear hb E; have E := E1; clear E1; have E1 := Lib.hid (E.out.new_bsi hB); clear E hB; have E := E1; clear E1)
        | (go_at_call 39; (with_reducible refine (tc.out A3 c3 _ ?hB).mono ?_); (case hB => exact E.out.bs List.mem_cons_self); rintro e w1 ⟨A4, nc4, c4, rfl, hB, hnc4, hc4, hb⟩; obtain rfl : nc4 = 8 := hB.1.symm.trans l8.out; have E1 := Lib.hid (E.out.later hb); clear hb E; have E := E1; clear E1; have E1 := Lib.hid (E.out.new_bsi hB); clear E hB; have E := E1; clear E1)
        | (go_at_call 39; (with_reducible refine (td.out A4 c4 _ ?hB).mono ?_); (case hB => exact E.out.bs List.mem_cons_self); rintro e w1 ⟨A5, nc5, c5, rfl, hB, hnc5, hc5, hb⟩; obtain rfl : nc5 = 8 := hB.1.symm.trans l9.out; have E1 := Lib.hid (E.out.later hb); clear hb E; have E := E1; clear E1; have E1 := Lib.hid (E.out.new_bsi hB); clear E hB; have E := E1; clear E1)
        | (go_at_call 41; (with_reducible refine (hLy.out _ A5 c5 _ ?ha ?hb ?hc ?hd).mono ?_); (case ha => exact ⟨hnc5, hc5⟩); (case hb => exact hWl.out); (case hc => exact hW2.out); (case hd => exact E.out.bs List.mem_cons_self); rintro e w1 ⟨A6, n6, c6, rfl, hB, hn6, hc6, hb⟩; have E1 := Lib.hid (E.out.later hb); clear hb E; have E := E1; clear E1)
        | ((with_reducible refine kn_bd (g := g1) E.out rfl rfl rfl ?_))
        | ((with_reducible refine kn_bf (g := g1) E.out rfl rfl rfl ?_))
        | (((with_reducible refine kn_bz (i := 6) (g := g1) E.out rfl rfl rfl ?h1 ?h2 ?_); (case h1 => rfl); (case h2 => omega); rw [HVA.out]))
        | (((with_reducible refine kn_bz (i := 7) (g := g1) E.out rfl rfl rfl ?h1 ?h2 ?_); (case h1 => rfl); (case h2 => omega); rw [HVB.out]))
        | ((with_reducible refine kn_bp (g := g1) (i := 8) E.out rfl rfl rfl ?h1 ?h2 ?_); (case h1 => rfl); (case h2 => omega))
        | ((with_reducible refine kn_load E.out rfl rfl rfl rfl ?_)) | ((with_reducible refine kn_load_if E.out rfl rfl rfl rfl ?_)) | ((with_reducible refine kn_loads E.out rfl rfl rfl ?_ ?_); (focus (first | rfl | (simp only [i64s_length, u8s_length]; first | rfl | assumption | omega)))) | ((with_reducible refine kn_loads_if E.out rfl rfl rfl ?_ ?_); (focus (first | rfl | (simp only [i64s_length, u8s_length]; first | rfl | assumption | omega)))) | ((with_reducible refine kn_store1_int E.out rfl rfl rfl rfl rfl ?_); clear E; intro u E0; have E := Lib.hid E0; clear E0) | ((with_reducible refine kn_store1_slice E.out rfl rfl rfl rfl rfl ?_); clear E; intro u E0; have E := Lib.hid E0; clear E0) | ((with_reducible refine kn_store1_bool E.out rfl rfl rfl rfl rfl ?_); clear E; intro u E0; have E := Lib.hid E0; clear E0) | ((with_reducible refine kn_stores E.out rfl rfl rfl rfl rfl ?_ ?_ ?_); (focus (first | exact ⟨rfl, rfl⟩ | (simp only [i64s_length, u8s_length]; refine ⟨?_, ?_⟩ <;> first | rfl | assumption | omega))); (focus (first | exact i64s_one _ | exact u8s_one _ | simp [Value.oneCell'])); clear E; intro u E0; have E := Lib.hid E0; clear E0) | ((with_reducible refine kn_alloc E.out rfl rfl ?_); clear E; intro g u E0 hb0; have E := Lib.hid E0; clear E0 hb0) | ((with_reducible refine kn_box E.out rfl rfl rfl ?_); clear E; intro g u E0 hb0; have E := Lib.hid E0; clear E0 hb0) | ((with_reducible refine kn_box_int E.out rfl rfl rfl ?_); clear E; intro g u E0 hb0; have E := Lib.hid E0; clear E0 hb0) | ((with_reducible refine kn_box_slice E.out rfl rfl rfl ?_); clear E; intro g u E0 hb0; have E := Lib.hid E0; clear E0 hb0) | ((with_reducible refine kn_box_bool E.out rfl rfl rfl ?_); clear E; intro g u E0 hb0; have E := Lib.hid E0; clear E0 hb0) | ((with_reducible refine kn_box_func E.out rfl rfl rfl ?_); clear E; intro g u E0 hb0; have E := Lib.hid E0; clear E0 hb0))
      go_ret2
      exact ⟨A6, n6, c6, rfl, hB, hn6, hc6, E.out.bel⟩
theorem rbjoin10 (d f : Bool) (Z : List Int) (w : World) (hZ : Z.length = 24) : Calls Tryd.prog 18 #[.agg (blk d f Z).toArray] w (Laid w (jV d f Z) (jE d Z)) := by
  by_cases h : okP d Z
  · cases d
    · exact rjoin_false f Z w hZ h
    · exact rjoin_true f Z w hZ h
  · exact rjoin_no d f Z w hZ h
end Go.Proofs.YtjlkdmdepdoanaaDoor
