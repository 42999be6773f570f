/- May a block have such parts: the document's. -/
import Derived.Test.YtjlkdmdepdoanaaDoorE1May
set_option linter.all false
namespace Go.Proofs.YtjlkdmdepdoanaaDoor
open Go.RowKit
open Bi Lv Eo

theorem in_yes (n lo hi : Int) (h : lo ≤ n ∧ n ≤ hi) (u : World) : Calls Tryd.prog 44 #[.int .i64 n, .int .i64 lo, .int .i64 hi] u fun e w' => e = .returned (.bool true) ∧ u = w' := by
  have k := In_any n lo hi u
  rw [decide_eq_true h] at k
  exact k
theorem in_no (n lo hi : Int) (h : ¬ (lo ≤ n ∧ n ≤ hi)) (u : World) : Calls Tryd.prog 44 #[.int .i64 n, .int .i64 lo, .int .i64 hi] u fun e w' => e = .returned (.bool false) ∧ u = w' := by
  have k := In_any n lo hi u
  rw [decide_eq_false h] at k
  exact k
set_option maxHeartbeats 8000000 in
set_option maxRecDepth 100000 in
theorem may_true (f : Bool) (Z : List Int) (w : World) (hZ : Z.length = 24) : Calls Tryd.prog 38 #[.agg (blk true f Z).toArray] w fun e w' => e = .returned (.bool (decide (okP true Z))) ∧ Below w.heap.size w w' := by
  have E := Lib.hid (Kn.start w)
  have hok := ok_true Z
  have HOK := Lib.hid (fun h1 h2 h3 h4 => show decide (okP true Z) = true from decide_eq_true (hok.2 ⟨h1, h2, h3, h4⟩))
  have N1 := Lib.hid (fun c (hc : c < 3) (h : ¬ (0 ≤ Z.getD c 0 ∧ Z.getD c 0 ≤ 31)) => show decide (okP true Z) = false from decide_eq_false fun k => h (by have := (hok.1 k).1 c hc; omega))
  have N2 := Lib.hid (fun c (hc : c < 3) (h : ¬ (-4 ≤ Z.getD (3 + c) 0 ∧ Z.getD (3 + c) 0 ≤ 3)) => show decide (okP true Z) = false from decide_eq_false fun k => h (by have := (hok.1 k).2.1 c hc; omega))
  have N3 := Lib.hid (fun c (hc : c < 2) (h : ¬ (0 ≤ Z.getD (6 + c) 0 ∧ Z.getD (6 + c) 0 ≤ 7)) => show decide (okP true Z) = false from decide_eq_false fun k => h (by have := (hok.1 k).2.2.1 c hc; omega))
  have N4 := Lib.hid (fun c (hc : c < 16) (h : ¬ (0 ≤ Z.getD (8 + c) 0 ∧ Z.getD (8 + c) 0 ≤ 3)) => show decide (okP true Z) = false from decide_eq_false fun k => h (by have := (hok.1 k).2.2.2 c hc; omega))
  clear hok
  generalize decide (okP true Z) = R at *
  go_enter Tryd.func38, Tryd.ntmps38
  go_wp2_with (first | ((with_reducible refine kn_load E.out rfl rfl rfl rfl ?_)) | ((with_reducible refine kn_load_if E.out rfl rfl rfl rfl ?_)) | ((with_reducible refine kn_loads E.out rfl rfl rfl ?_ ?_); (focus (first | rfl | (simp only [i64s_length, u8s_length]; first | rfl | assumption | omega)))) | ((with_reducible refine kn_loads_if E.out rfl rfl rfl ?_ ?_); (focus (first | rfl | (simp only [i64s_length, u8s_length]; first | rfl | assumption | omega)))) | ((with_reducible refine kn_store1_int E.out rfl rfl rfl rfl rfl ?_); clear E; intro u E0; have E := Lib.hid E0; clear E0) | ((with_reducible refine kn_store1_slice E.out rfl rfl rfl rfl rfl ?_); clear E; intro u E0; have E := Lib.hid E0; clear E0) | ((with_reducible refine kn_store1_bool E.out rfl rfl rfl rfl rfl ?_); clear E; intro u E0; have E := Lib.hid E0; clear E0) | ((with_reducible refine kn_stores E.out rfl rfl rfl rfl rfl ?_ ?_ ?_); (focus (first | exact ⟨rfl, rfl⟩ | (simp only [i64s_length, u8s_length]; refine ⟨?_, ?_⟩ <;> first | rfl | assumption | omega))); (focus (first | exact i64s_one _ | exact u8s_one _ | simp [Value.oneCell'])); clear E; intro u E0; have E := Lib.hid E0; clear E0) | ((with_reducible refine kn_alloc (o := ⟨some 1, _, _, _, _, _⟩) E.out rfl rfl ?_); clear E; intro g1 u E0 hb0; have E := Lib.hid E0; clear E0 hb0) | ((with_reducible refine kn_box (o := ⟨some 1, _, _, _, _, _⟩) E.out rfl rfl rfl ?_); clear E; intro g1 u E0 hb0; have E := Lib.hid E0; clear E0 hb0) | ((with_reducible refine kn_box_int (o := ⟨some 1, _, _, _, _, _⟩) E.out rfl rfl rfl ?_); clear E; intro g1 u E0 hb0; have E := Lib.hid E0; clear E0 hb0) | ((with_reducible refine kn_box_slice (o := ⟨some 1, _, _, _, _, _⟩) E.out rfl rfl rfl ?_); clear E; intro g1 u E0 hb0; have E := Lib.hid E0; clear E0 hb0) | ((with_reducible refine kn_box_bool (o := ⟨some 1, _, _, _, _, _⟩) E.out rfl rfl rfl ?_); clear E; intro g1 u E0 hb0; have E := Lib.hid E0; clear E0 hb0) | ((with_reducible refine kn_box_func (o := ⟨some 1, _, _, _, _, _⟩) E.out rfl rfl rfl ?_); clear E; intro g1 u E0 hb0; have E := Lib.hid E0; clear E0 hb0) | ((with_reducible refine kn_alloc E.out rfl rfl ?_); clear E; intro g u E0 hb0; have E := Lib.hid E0; clear E0 hb0) | ((with_reducible refine kn_box E.out rfl rfl rfl ?_); clear E; intro g u E0 hb0; have E := Lib.hid E0; clear E0 hb0) | ((with_reducible refine kn_box_int E.out rfl rfl rfl ?_); clear E; intro g u E0 hb0; have E := Lib.hid E0; clear E0 hb0) | ((with_reducible refine kn_box_slice E.out rfl rfl rfl ?_); clear E; intro g u E0 hb0; have E := Lib.hid E0; clear E0 hb0) | ((with_reducible refine kn_box_bool E.out rfl rfl rfl ?_); clear E; intro g u E0 hb0; have E := Lib.hid E0; clear E0 hb0) | ((with_reducible refine kn_box_func E.out rfl rfl rfl ?_); clear E; intro g u E0 hb0; have E := Lib.hid E0; clear E0 hb0))
  go_loopw [3] (fun ci wr => ∃ k : Nat, k ≤ 3 ∧ ci = .int .i64 k ∧ (∀ c, c < k → (0 ≤ Z.getD c 0 ∧ Z.getD c 0 < 32) ∧ (-4 ≤ Z.getD (3 + c) 0 ∧ Z.getD (3 + c) 0 < 4)) ∧ Hid (Kn w [.row g1 32 (blk true f Z)] [] wr)) (fun ci _ => 3 - (intOf ci).toNat)
  case atStart => exact ⟨0, by omega, rfl, fun j hj => absurd hj (by omega), E⟩
  case round =>
    clear E
    obtain ⟨k, hk, rfl, hall, E⟩ := hrel
    by_cases hlt : k < 3
    · have hk3 : (k : Int) < 3 := by omega
      obtain ⟨va, hva⟩ : ∃ v, Z.getD k 0 = v := ⟨_, rfl⟩
      obtain ⟨vb, hvb⟩ : ∃ v, Z.getD (3 + k) 0 = v := ⟨_, rfl⟩
      have HVA := Lib.hid hva
      have HVB := Lib.hid hvb
      by_cases ga : 0 ≤ va ∧ va ≤ 31
      · have qa := Lib.hid (in_yes va 0 31 ga)
        by_cases gb : -4 ≤ vb ∧ vb ≤ 3
        · have qb := Lib.hid (in_yes vb (-4) 3 gb)
          have hall' := Lib.hid (show ∀ c, c < k + 1 → (0 ≤ Z.getD c 0 ∧ Z.getD c 0 < 32) ∧ (-4 ≤ Z.getD (3 + c) 0 ∧ Z.getD (3 + c) 0 < 4) from fun c hc => by
            rcases Nat.lt_or_ge c k with h | h
            · exact hall c h
            · obtain rfl : c = k := by omega
              rw [hva, hvb]; omega)
          clear hall HOK N1 N2 N3 N4 hva hvb ga gb
          go_wp2_with (first
            | (go_at_call 44; (with_reducible refine (qa.out _).mono ?_); rintro e w1 ⟨rfl, rfl⟩)
            | (go_at_call 44; (with_reducible refine (qb.out _).mono ?_); rintro e w1 ⟨rfl, rfl⟩)
            | (((with_reducible refine kn_bz (i := k) (g := g1) E.out rfl rfl rfl ?h1 ?h2 ?_); (case h1 => omega); (case h2 => omega); rw [HVA.out])) | (((with_reducible refine kn_bz_if (i := k) (g := g1) E.out rfl rfl rfl ?h1 ?h2 ?_); (case h1 => omega); (case h2 => omega); rw [HVA.out]))
            | (((with_reducible refine kn_bz (i := 3 + k) (g := g1) E.out rfl rfl rfl ?h1 ?h2 ?_); (case h1 => omega); (case h2 => omega); rw [HVB.out])) | (((with_reducible refine kn_bz_if (i := 3 + k) (g := g1) E.out rfl rfl rfl ?h1 ?h2 ?_); (case h1 => omega); (case h2 => omega); rw [HVB.out]))
            | ((with_reducible refine kn_bd (g := g1) E.out rfl rfl rfl ?_)) | ((with_reducible refine kn_bd_if (g := g1) E.out rfl rfl rfl ?_))
            | ((with_reducible refine kn_load E.out rfl rfl rfl rfl ?_)) | ((with_reducible refine kn_load_if E.out rfl rfl rfl rfl ?_)) | ((with_reducible refine kn_loads E.out rfl rfl rfl ?_ ?_); (focus (first | rfl | (simp only [i64s_length, u8s_length]; first | rfl | assumption | omega)))) | ((with_reducible refine kn_loads_if E.out rfl rfl rfl ?_ ?_); (focus (first | rfl | (simp only [i64s_length, u8s_length]; first | rfl | assumption | omega)))) | ((with_reducible refine kn_store1_int E.out rfl rfl rfl rfl rfl ?_); clear E; intro u E0; have E := Lib.hid E0; clear E0) | ((with_reducible refine kn_store1_slice E.out rfl rfl rfl rfl rfl ?_); clear E; intro u E0; have E := Lib.hid E0; clear E0) | ((with_reducible refine kn_store1_bool E.out rfl rfl rfl rfl rfl ?_); clear E; intro u E0; have E := Lib.hid E0; clear E0) | ((with_reducible refine kn_stores E.out rfl rfl rfl rfl rfl ?_ ?_ ?_); (focus (first | exact ⟨rfl, rfl⟩ | (simp only [i64s_length, u8s_length]; refine ⟨?_, ?_⟩ <;> first | rfl | assumption | omega))); (focus (first | exact i64s_one _ | exact u8s_one _ | simp [Value.oneCell'])); clear E; intro u E0; have E := Lib.hid E0; clear E0) | ((with_reducible refine kn_alloc E.out rfl rfl ?_); clear E; intro g u E0 hb0; have E := Lib.hid E0; clear E0 hb0) | ((with_reducible refine kn_box E.out rfl rfl rfl ?_); clear E; intro g u E0 hb0; have E := Lib.hid E0; clear E0 hb0) | ((with_reducible refine kn_box_int E.out rfl rfl rfl ?_); clear E; intro g u E0 hb0; have E := Lib.hid E0; clear E0 hb0) | ((with_reducible refine kn_box_slice E.out rfl rfl rfl ?_); clear E; intro g u E0 hb0; have E := Lib.hid E0; clear E0 hb0) | ((with_reducible refine kn_box_bool E.out rfl rfl rfl ?_); clear E; intro g u E0 hb0; have E := Lib.hid E0; clear E0 hb0) | ((with_reducible refine kn_box_func E.out rfl rfl rfl ?_); clear E; intro g u E0 hb0; have E := Lib.hid E0; clear E0 hb0))
          go_roundw
          case rel => exact ⟨k + 1, by omega, by go_num, hall'.out, E⟩
          case measure => simp [intOf]; try omega
        · have qb := Lib.hid (in_no vb (-4) 3 gb)
          have hno := N2.out k hlt (by rw [hvb]; exact gb)
          subst hno
          clear hall HOK N1 N2 N3 N4 hva hvb ga gb
          go_wp2_with (first
            | (go_at_call 44; (with_reducible refine (qa.out _).mono ?_); rintro e w1 ⟨rfl, rfl⟩)
            | (go_at_call 44; (with_reducible refine (qb.out _).mono ?_); rintro e w1 ⟨rfl, rfl⟩)
            | (((with_reducible refine kn_bz (i := k) (g := g1) E.out rfl rfl rfl ?h1 ?h2 ?_); (case h1 => omega); (case h2 => omega); rw [HVA.out])) | (((with_reducible refine kn_bz_if (i := k) (g := g1) E.out rfl rfl rfl ?h1 ?h2 ?_); (case h1 => omega); (case h2 => omega); rw [HVA.out]))
            | (((with_reducible refine kn_bz (i := 3 + k) (g := g1) E.out rfl rfl rfl ?h1 ?h2 ?_); (case h1 => omega); (case h2 => omega); rw [HVB.out])) | (((with_reducible refine kn_bz_if (i := 3 + k) (g := g1) E.out rfl rfl rfl ?h1 ?h2 ?_); (case h1 => omega); (case h2 => omega); rw [HVB.out]))
            | ((with_reducible refine kn_bd (g := g1) E.out rfl rfl rfl ?_)) | ((with_reducible refine kn_bd_if (g := g1) E.out rfl rfl rfl ?_))
            | ((with_reducible refine kn_load E.out rfl rfl rfl rfl ?_)) | ((with_reducible refine kn_load_if E.out rfl rfl rfl rfl ?_)) | ((with_reducible refine kn_loads E.out rfl rfl rfl ?_ ?_); (focus (first | rfl | (simp only [i64s_length, u8s_length]; first | rfl | assumption | omega)))) | ((with_reducible refine kn_loads_if E.out rfl rfl rfl ?_ ?_); (focus (first | rfl | (simp only [i64s_length, u8s_length]; first | rfl | assumption | omega)))) | ((with_reducible refine kn_store1_int E.out rfl rfl rfl rfl rfl ?_); clear E; intro u E0; have E := Lib.hid E0; clear E0) | ((with_reducible refine kn_store1_slice E.out rfl rfl rfl rfl rfl ?_); clear E; intro u E0; have E := Lib.hid E0; clear E0) | ((with_reducible refine kn_store1_bool E.out rfl rfl rfl rfl rfl ?_); clear E; intro u E0; have E := Lib.hid E0; clear E0) | ((with_reducible refine kn_stores E.out rfl rfl rfl rfl rfl ?_ ?_ ?_); (focus (first | exact ⟨rfl, rfl⟩ | (simp only [i64s_length, u8s_length]; refine ⟨?_, ?_⟩ <;> first | rfl | assumption | omega))); (focus (first | exact i64s_one _ | exact u8s_one _ | simp [Value.oneCell'])); clear E; intro u E0; have E := Lib.hid E0; clear E0) | ((with_reducible refine kn_alloc E.out rfl rfl ?_); clear E; intro g u E0 hb0; have E := Lib.hid E0; clear E0 hb0) | ((with_reducible refine kn_box E.out rfl rfl rfl ?_); clear E; intro g u E0 hb0; have E := Lib.hid E0; clear E0 hb0) | ((with_reducible refine kn_box_int E.out rfl rfl rfl ?_); clear E; intro g u E0 hb0; have E := Lib.hid E0; clear E0 hb0) | ((with_reducible refine kn_box_slice E.out rfl rfl rfl ?_); clear E; intro g u E0 hb0; have E := Lib.hid E0; clear E0 hb0) | ((with_reducible refine kn_box_bool E.out rfl rfl rfl ?_); clear E; intro g u E0 hb0; have E := Lib.hid E0; clear E0 hb0) | ((with_reducible refine kn_box_func E.out rfl rfl rfl ?_); clear E; intro g u E0 hb0; have E := Lib.hid E0; clear E0 hb0))
          go_ret
          exact ⟨rfl, E.out.bel⟩
      · have qa := Lib.hid (in_no va 0 31 ga)
        have hno := N1.out k hlt (by rw [hva]; exact ga)
        subst hno
        clear hall HOK N1 N2 N3 N4 hva hvb ga
        go_wp2_with (first
          | (go_at_call 44; (with_reducible refine (qa.out _).mono ?_); rintro e w1 ⟨rfl, rfl⟩)
          | (((with_reducible refine kn_bz (i := k) (g := g1) E.out rfl rfl rfl ?h1 ?h2 ?_); (case h1 => omega); (case h2 => omega); rw [HVA.out])) | (((with_reducible refine kn_bz_if (i := k) (g := g1) E.out rfl rfl rfl ?h1 ?h2 ?_); (case h1 => omega); (case h2 => omega); rw [HVA.out]))
          | (((with_reducible refine kn_bz (i := 3 + k) (g := g1) E.out rfl rfl rfl ?h1 ?h2 ?_); (case h1 => omega); (case h2 => omega); rw [HVB.out])) | (((with_reducible refine kn_bz_if (i := 3 + k) (g := g1) E.out rfl rfl rfl ?h1 ?h2 ?_); (case h1 => omega); (case h2 => omega); rw [HVB.out]))
          | ((with_reducible refine kn_bd (g := g1) E.out rfl rfl rfl ?_)) | ((with_reducible refine kn_bd_if (g := g1) E.out rfl rfl rfl ?_))
          | ((with_reducible refine kn_load E.out rfl rfl rfl rfl ?_)) | ((with_reducible refine kn_load_if E.out rfl rfl rfl rfl ?_)) | ((with_reducible refine kn_loads E.out rfl rfl rfl ?_ ?_); (focus (first | rfl | (simp only [i64s_length, u8s_length]; first | rfl | assumption | omega)))) | ((with_reducible refine kn_loads_if E.out rfl rfl rfl ?_ ?_); (focus (first | rfl | (simp only [i64s_length, u8s_length]; first | rfl | assumption | omega)))) | ((with_reducible refine kn_store1_int E.out rfl rfl rfl rfl rfl ?_); clear E; intro u E0; have E := Lib.hid E0; clear E0) | ((with_reducible refine kn_store1_slice E.out rfl rfl rfl rfl rfl ?_); clear E; intro u E0; have E := Lib.hid E0; clear E0) | ((with_reducible refine kn_store1_bool E.out rfl rfl rfl rfl rfl ?_); clear E; intro u E0; have E := Lib.hid E0; clear E0) | ((with_reducible refine kn_stores E.out rfl rfl rfl rfl rfl ?_ ?_ ?_); (focus (first | exact ⟨rfl, rfl⟩ | (simp only [i64s_length, u8s_length]; refine ⟨?_, ?_⟩ <;> first | rfl | assumption | omega))); (focus (first | exact i64s_one _ | exact u8s_one _ | simp [Value.oneCell'])); clear E; intro u E0; have E := Lib.hid E0; clear E0) | ((with_reducible refine kn_alloc E.out rfl rfl ?_); clear E; intro g u E0 hb0; have E := Lib.hid E0; clear E0 hb0) | ((with_reducible refine kn_box E.out rfl rfl rfl ?_); clear E; intro g u E0 hb0; have E := Lib.hid E0; clear E0 hb0) | ((with_reducible refine kn_box_int E.out rfl rfl rfl ?_); clear E; intro g u E0 hb0; have E := Lib.hid E0; clear E0 hb0) | ((with_reducible refine kn_box_slice E.out rfl rfl rfl ?_); clear E; intro g u E0 hb0; have E := Lib.hid E0; clear E0 hb0) | ((with_reducible refine kn_box_bool E.out rfl rfl rfl ?_); clear E; intro g u E0 hb0; have E := Lib.hid E0; clear E0 hb0) | ((with_reducible refine kn_box_func E.out rfl rfl rfl ?_); clear E; intro g u E0 hb0; have E := Lib.hid E0; clear E0 hb0))
        go_ret
        exact ⟨rfl, E.out.bel⟩
    · have hk3 : ¬ ((k : Int) < 3) := by omega
      have ek : k = 3 := by omega
      rw [ek] at hall
      have H1 := Lib.hid (fun c (hc : c < 3) => (hall c hc).1)
      have H2 := Lib.hid (fun c (hc : c < 3) => (hall c hc).2)
      clear N1 N2 hall hlt hk ek
      go_wp2_with (first | ((with_reducible refine kn_load E.out rfl rfl rfl rfl ?_)) | ((with_reducible refine kn_load_if E.out rfl rfl rfl rfl ?_)) | ((with_reducible refine kn_loads E.out rfl rfl rfl ?_ ?_); (focus (first | rfl | (simp only [i64s_length, u8s_length]; first | rfl | assumption | omega)))) | ((with_reducible refine kn_loads_if E.out rfl rfl rfl ?_ ?_); (focus (first | rfl | (simp only [i64s_length, u8s_length]; first | rfl | assumption | omega)))) | ((with_reducible refine kn_store1_int E.out rfl rfl rfl rfl rfl ?_); clear E; intro u E0; have E := Lib.hid E0; clear E0) | ((with_reducible refine kn_store1_slice E.out rfl rfl rfl rfl rfl ?_); clear E; intro u E0; have E := Lib.hid E0; clear E0) | ((with_reducible refine kn_store1_bool E.out rfl rfl rfl rfl rfl ?_); clear E; intro u E0; have E := Lib.hid E0; clear E0) | ((with_reducible refine kn_stores E.out rfl rfl rfl rfl rfl ?_ ?_ ?_); (focus (first | exact ⟨rfl, rfl⟩ | (simp only [i64s_length, u8s_length]; refine ⟨?_, ?_⟩ <;> first | rfl | assumption | omega))); (focus (first | exact i64s_one _ | exact u8s_one _ | simp [Value.oneCell'])); clear E; intro u E0; have E := Lib.hid E0; clear E0) | ((with_reducible refine kn_alloc E.out rfl rfl ?_); clear E; intro g u E0 hb0; have E := Lib.hid E0; clear E0 hb0) | ((with_reducible refine kn_box E.out rfl rfl rfl ?_); clear E; intro g u E0 hb0; have E := Lib.hid E0; clear E0 hb0) | ((with_reducible refine kn_box_int E.out rfl rfl rfl ?_); clear E; intro g u E0 hb0; have E := Lib.hid E0; clear E0 hb0) | ((with_reducible refine kn_box_slice E.out rfl rfl rfl ?_); clear E; intro g u E0 hb0; have E := Lib.hid E0; clear E0 hb0) | ((with_reducible refine kn_box_bool E.out rfl rfl rfl ?_); clear E; intro g u E0 hb0; have E := Lib.hid E0; clear E0 hb0) | ((with_reducible refine kn_box_func E.out rfl rfl rfl ?_); clear E; intro g u E0 hb0; have E := Lib.hid E0; clear E0 hb0))
      go_loopw [4] (fun ci wr => ∃ i : Nat, i ≤ 16 ∧ ci = .int .i64 i ∧ (∀ c, c < i → 0 ≤ Z.getD (8 + c) 0 ∧ Z.getD (8 + c) 0 < 4) ∧ Hid (Kn w [.row g1 32 (blk true f Z)] [] wr)) (fun ci _ => 16 - (intOf ci).toNat)
      case atStart => exact ⟨0, by omega, rfl, fun j hj => absurd hj (by omega), E⟩
      case round =>
        clear E
        obtain ⟨i, hi, rfl, hall, E⟩ := hrel
        by_cases hlt : i < 16
        · have hi3 : (i : Int) < 16 := by omega
          obtain ⟨va, hva⟩ : ∃ v, Z.getD (8 + i) 0 = v := ⟨_, rfl⟩
          have HVA := Lib.hid hva
          by_cases ga : 0 ≤ va ∧ va ≤ 3
          · have qa := Lib.hid (in_yes va 0 3 ga)
            have hall' := Lib.hid (show ∀ c, c < i + 1 → 0 ≤ Z.getD (8 + c) 0 ∧ Z.getD (8 + c) 0 < 4 from fun c hc => by
              rcases Nat.lt_or_ge c i with h | h
              · exact hall c h
              · obtain rfl : c = i := by omega
                rw [hva]; omega)
            clear hall HOK N3 N4 hva ga H1 H2
            go_wp2_with (first
              | (go_at_call 44; (with_reducible refine (qa.out _).mono ?_); rintro e w1 ⟨rfl, rfl⟩)
              | (((with_reducible refine kn_bz (i := 8 + i) (g := g1) E.out rfl rfl rfl ?h1 ?h2 ?_); (case h1 => omega); (case h2 => omega); rw [HVA.out])) | (((with_reducible refine kn_bz_if (i := 8 + i) (g := g1) E.out rfl rfl rfl ?h1 ?h2 ?_); (case h1 => omega); (case h2 => omega); rw [HVA.out]))
              | ((with_reducible refine kn_bd (g := g1) E.out rfl rfl rfl ?_)) | ((with_reducible refine kn_bd_if (g := g1) E.out rfl rfl rfl ?_))
              | ((with_reducible refine kn_load E.out rfl rfl rfl rfl ?_)) | ((with_reducible refine kn_load_if E.out rfl rfl rfl rfl ?_)) | ((with_reducible refine kn_loads E.out rfl rfl rfl ?_ ?_); (focus (first | rfl | (simp only [i64s_length, u8s_length]; first | rfl | assumption | omega)))) | ((with_reducible refine kn_loads_if E.out rfl rfl rfl ?_ ?_); (focus (first | rfl | (simp only [i64s_length, u8s_length]; first | rfl | assumption | omega)))) | ((with_reducible refine kn_store1_int E.out rfl rfl rfl rfl rfl ?_); clear E; intro u E0; have E := Lib.hid E0; clear E0) | ((with_reducible refine kn_store1_slice E.out rfl rfl rfl rfl rfl ?_); clear E; intro u E0; have E := Lib.hid E0; clear E0) | ((with_reducible refine kn_store1_bool E.out rfl rfl rfl rfl rfl ?_); clear E; intro u E0; have E := Lib.hid E0; clear E0) | ((with_reducible refine kn_stores E.out rfl rfl rfl rfl rfl ?_ ?_ ?_); (focus (first | exact ⟨rfl, rfl⟩ | (simp only [i64s_length, u8s_length]; refine ⟨?_, ?_⟩ <;> first | rfl | assumption | omega))); (focus (first | exact i64s_one _ | exact u8s_one _ | simp [Value.oneCell'])); clear E; intro u E0; have E := Lib.hid E0; clear E0) | ((with_reducible refine kn_alloc E.out rfl rfl ?_); clear E; intro g u E0 hb0; have E := Lib.hid E0; clear E0 hb0) | ((with_reducible refine kn_box E.out rfl rfl rfl ?_); clear E; intro g u E0 hb0; have E := Lib.hid E0; clear E0 hb0) | ((with_reducible refine kn_box_int E.out rfl rfl rfl ?_); clear E; intro g u E0 hb0; have E := Lib.hid E0; clear E0 hb0) | ((with_reducible refine kn_box_slice E.out rfl rfl rfl ?_); clear E; intro g u E0 hb0; have E := Lib.hid E0; clear E0 hb0) | ((with_reducible refine kn_box_bool E.out rfl rfl rfl ?_); clear E; intro g u E0 hb0; have E := Lib.hid E0; clear E0 hb0) | ((with_reducible refine kn_box_func E.out rfl rfl rfl ?_); clear E; intro g u E0 hb0; have E := Lib.hid E0; clear E0 hb0))
            go_roundw
            case rel => exact ⟨i + 1, by omega, by go_num, hall'.out, E⟩
            case measure => simp [intOf]; try omega
          · have qa := Lib.hid (in_no va 0 3 ga)
            have hno := N4.out i hlt (by rw [hva]; exact ga)
            subst hno
            clear hall HOK N3 N4 hva ga H1 H2
            go_wp2_with (first
              | (go_at_call 44; (with_reducible refine (qa.out _).mono ?_); rintro e w1 ⟨rfl, rfl⟩)
              | (((with_reducible refine kn_bz (i := 8 + i) (g := g1) E.out rfl rfl rfl ?h1 ?h2 ?_); (case h1 => omega); (case h2 => omega); rw [HVA.out])) | (((with_reducible refine kn_bz_if (i := 8 + i) (g := g1) E.out rfl rfl rfl ?h1 ?h2 ?_); (case h1 => omega); (case h2 => omega); rw [HVA.out]))
              | ((with_reducible refine kn_bd (g := g1) E.out rfl rfl rfl ?_)) | ((with_reducible refine kn_bd_if (g := g1) E.out rfl rfl rfl ?_))
              | ((with_reducible refine kn_load E.out rfl rfl rfl rfl ?_)) | ((with_reducible refine kn_load_if E.out rfl rfl rfl rfl ?_)) | ((with_reducible refine kn_loads E.out rfl rfl rfl ?_ ?_); (focus (first | rfl | (simp only [i64s_length, u8s_length]; first | rfl | assumption | omega)))) | ((with_reducible refine kn_loads_if E.out rfl rfl rfl ?_ ?_); (focus (first | rfl | (simp only [i64s_length, u8s_length]; first | rfl | assumption | omega)))) | ((with_reducible refine kn_store1_int E.out rfl rfl rfl rfl rfl ?_); clear E; intro u E0; have E := Lib.hid E0; clear E0) | ((with_reducible refine kn_store1_slice E.out rfl rfl rfl rfl rfl ?_); clear E; intro u E0; have E := Lib.hid E0; clear E0) | ((with_reducible refine kn_store1_bool E.out rfl rfl rfl rfl rfl ?_); clear E; intro u E0; have E := Lib.hid E0; clear E0) | ((with_reducible refine kn_stores E.out rfl rfl rfl rfl rfl ?_ ?_ ?_); (focus (first | exact ⟨rfl, rfl⟩ | (simp only [i64s_length, u8s_length]; refine ⟨?_, ?_⟩ <;> first | rfl | assumption | omega))); (focus (first | exact i64s_one _ | exact u8s_one _ | simp [Value.oneCell'])); clear E; intro u E0; have E := Lib.hid E0; clear E0) | ((with_reducible refine kn_alloc E.out rfl rfl ?_); clear E; intro g u E0 hb0; have E := Lib.hid E0; clear E0 hb0) | ((with_reducible refine kn_box E.out rfl rfl rfl ?_); clear E; intro g u E0 hb0; have E := Lib.hid E0; clear E0 hb0) | ((with_reducible refine kn_box_int E.out rfl rfl rfl ?_); clear E; intro g u E0 hb0; have E := Lib.hid E0; clear E0 hb0) | ((with_reducible refine kn_box_slice E.out rfl rfl rfl ?_); clear E; intro g u E0 hb0; have E := Lib.hid E0; clear E0 hb0) | ((with_reducible refine kn_box_bool E.out rfl rfl rfl ?_); clear E; intro g u E0 hb0; have E := Lib.hid E0; clear E0 hb0) | ((with_reducible refine kn_box_func E.out rfl rfl rfl ?_); clear E; intro g u E0 hb0; have E := Lib.hid E0; clear E0 hb0))
            go_ret
            exact ⟨rfl, E.out.bel⟩
        · have hi3 : ¬ ((i : Int) < 16) := by omega
          have ei : i = 16 := by omega
          rw [ei] at hall
          clear N4 hlt hi ei
          obtain ⟨va, hva⟩ : ∃ v, Z.getD 6 0 = v := ⟨_, rfl⟩
          obtain ⟨vb, hvb⟩ : ∃ v, Z.getD 7 0 = v := ⟨_, rfl⟩
          have HVA := Lib.hid hva
          have HVB := Lib.hid hvb
          by_cases ga : 0 ≤ va ∧ va ≤ 7
          · have qa := Lib.hid (in_yes va 0 7 ga)
            by_cases gb : 0 ≤ vb ∧ vb ≤ 7
            · have qb := Lib.hid (in_yes vb 0 7 gb)
              have hyes := HOK.out H1.out H2.out (fun c hc => by
                obtain rfl | rfl : c = 0 ∨ c = 1 := by omega
                · show 0 ≤ Z.getD 6 0 ∧ Z.getD 6 0 < 8
                  rw [hva]; omega
                · show 0 ≤ Z.getD 7 0 ∧ Z.getD 7 0 < 8
                  rw [hvb]; omega) hall
              subst hyes
              clear hall HOK N3 hva hvb ga gb H1 H2
              go_wp2_with (first
                | (go_at_call 44; (with_reducible refine (qa.out _).mono ?_); rintro e w1 ⟨rfl, rfl⟩)
                | (go_at_call 44; (with_reducible refine (qb.out _).mono ?_); rintro e w1 ⟨rfl, rfl⟩)
                | (((with_reducible refine kn_bz (i := 6) (g := g1) E.out rfl rfl rfl ?h1 ?h2 ?_); (case h1 => omega); (case h2 => omega); rw [HVA.out])) | (((with_reducible refine kn_bz_if (i := 6) (g := g1) E.out rfl rfl rfl ?h1 ?h2 ?_); (case h1 => omega); (case h2 => omega); rw [HVA.out]))
                | (((with_reducible refine kn_bz (i := 7) (g := g1) E.out rfl rfl rfl ?h1 ?h2 ?_); (case h1 => omega); (case h2 => omega); rw [HVB.out])) | (((with_reducible refine kn_bz_if (i := 7) (g := g1) E.out rfl rfl rfl ?h1 ?h2 ?_); (case h1 => omega); (case h2 => omega); rw [HVB.out]))
                | ((with_reducible refine kn_bd (g := g1) E.out rfl rfl rfl ?_)) | ((with_reducible refine kn_bd_if (g := g1) E.out rfl rfl rfl ?_))
                | ((with_reducible refine kn_load E.out rfl rfl rfl rfl ?_)) | ((with_reducible refine kn_load_if E.out rfl rfl rfl rfl ?_)) | ((with_reducible refine kn_loads E.out rfl rfl rfl ?_ ?_); (focus (first | rfl | (simp only [i64s_length, u8s_length]; first | rfl | assumption | omega)))) | ((with_reducible refine kn_loads_if E.out rfl rfl rfl ?_ ?_); (focus (first | rfl | (simp only [i64s_length, u8s_length]; first | rfl | assumption | omega)))) | ((with_reducible refine kn_store1_int E.out rfl rfl rfl rfl rfl ?_); clear E; intro u E0; have E := Lib.hid E0; clear E0) | ((with_reducible refine kn_store1_slice E.out rfl rfl rfl rfl rfl ?_); clear E; intro u E0; have E := Lib.hid E0; clear E0) | ((with_reducible refine kn_store1_bool E.out rfl rfl rfl rfl rfl ?_); clear E; intro u E0; have E := Lib.hid E0; clear E0) | ((with_reducible refine kn_stores E.out rfl rfl rfl rfl rfl ?_ ?_ ?_); (focus (first | exact ⟨rfl, rfl⟩ | (simp only [i64s_length, u8s_length]; refine ⟨?_, ?_⟩ <;> first | rfl | assumption | omega))); (focus (first | exact i64s_one _ | exact u8s_one _ | simp [Value.oneCell'])); clear E; intro u E0; have E := Lib.hid E0; clear E0) | ((with_reducible refine kn_alloc E.out rfl rfl ?_); clear E; intro g u E0 hb0; have E := Lib.hid E0; clear E0 hb0) | ((with_reducible refine kn_box E.out rfl rfl rfl ?_); clear E; intro g u E0 hb0; have E := Lib.hid E0; clear E0 hb0) | ((with_reducible refine kn_box_int E.out rfl rfl rfl ?_); clear E; intro g u E0 hb0; have E := Lib.hid E0; clear E0 hb0) | ((with_reducible refine kn_box_slice E.out rfl rfl rfl ?_); clear E; intro g u E0 hb0; have E := Lib.hid E0; clear E0 hb0) | ((with_reducible refine kn_box_bool E.out rfl rfl rfl ?_); clear E; intro g u E0 hb0; have E := Lib.hid E0; clear E0 hb0) | ((with_reducible refine kn_box_func E.out rfl rfl rfl ?_); clear E; intro g u E0 hb0; have E := Lib.hid E0; clear E0 hb0))
              go_ret
              exact ⟨rfl, E.out.bel⟩
            · have qb := Lib.hid (in_no vb 0 7 gb)
              have hno := N3.out 1 (by omega) (show ¬ (0 ≤ Z.getD 7 0 ∧ Z.getD 7 0 ≤ 7) from by rw [hvb]; exact gb)
              subst hno
              clear hall HOK N3 hva hvb ga gb H1 H2
              go_wp2_with (first
                | (go_at_call 44; (with_reducible refine (qa.out _).mono ?_); rintro e w1 ⟨rfl, rfl⟩)
                | (go_at_call 44; (with_reducible refine (qb.out _).mono ?_); rintro e w1 ⟨rfl, rfl⟩)
                | (((with_reducible refine kn_bz (i := 6) (g := g1) E.out rfl rfl rfl ?h1 ?h2 ?_); (case h1 => omega); (case h2 => omega); rw [HVA.out])) | (((with_reducible refine kn_bz_if (i := 6) (g := g1) E.out rfl rfl rfl ?h1 ?h2 ?_); (case h1 => omega); (case h2 => omega); rw [HVA.out]))
                | (((with_reducible refine kn_bz (i := 7) (g := g1) E.out rfl rfl rfl ?h1 ?h2 ?_); (case h1 => omega); (case h2 => omega); rw [HVB.out])) | (((with_reducible refine kn_bz_if (i := 7) (g := g1) E.out rfl rfl rfl ?h1 ?h2 ?_); (case h1 => omega); (case h2 => omega); rw [HVB.out]))
                | ((with_reducible refine kn_bd (g := g1) E.out rfl rfl rfl ?_)) | ((with_reducible refine kn_bd_if (g := g1) E.out rfl rfl rfl ?_))
                | ((with_reducible refine kn_load E.out rfl rfl rfl rfl ?_)) | ((with_reducible refine kn_load_if E.out rfl rfl rfl rfl ?_)) | ((with_reducible refine kn_loads E.out rfl rfl rfl ?_ ?_); (focus (first | rfl | (simp only [i64s_length, u8s_length]; first | rfl | assumption | omega)))) | ((with_reducible refine kn_loads_if E.out rfl rfl rfl ?_ ?_); (focus (first | rfl | (simp only [i64s_length, u8s_length]; first | rfl | assumption | omega)))) | ((with_reducible refine kn_store1_int E.out rfl rfl rfl rfl rfl ?_); clear E; intro u E0; have E := Lib.hid E0; clear E0) | ((with_reducible refine kn_store1_slice E.out rfl rfl rfl rfl rfl ?_); clear E; intro u E0; have E := Lib.hid E0; clear E0) | ((with_reducible refine kn_store1_bool E.out rfl rfl rfl rfl rfl ?_); clear E; intro u E0; have E := Lib.hid E0; clear E0) | ((with_reducible refine kn_stores E.out rfl rfl rfl rfl rfl ?_ ?_ ?_); (focus (first | exact ⟨rfl, rfl⟩ | (simp only [i64s_length, u8s_length]; refine ⟨?_, ?_⟩ <;> first | rfl | assumption | omega))); (focus (first | exact i64s_one _ | exact u8s_one _ | simp [Value.oneCell'])); clear E; intro u E0; have E := Lib.hid E0; clear E0) | ((with_reducible refine kn_alloc E.out rfl rfl ?_); clear E; intro g u E0 hb0; have E := Lib.hid E0; clear E0 hb0) | ((with_reducible refine kn_box E.out rfl rfl rfl ?_); clear E; intro g u E0 hb0; have E := Lib.hid E0; clear E0 hb0) | ((with_reducible refine kn_box_int E.out rfl rfl rfl ?_); clear E; intro g u E0 hb0; have E := Lib.hid E0; clear E0 hb0) | ((with_reducible refine kn_box_slice E.out rfl rfl rfl ?_); clear E; intro g u E0 hb0; have E := Lib.hid E0; clear E0 hb0) | ((with_reducible refine kn_box_bool E.out rfl rfl rfl ?_); clear E; intro g u E0 hb0; have E := Lib.hid E0; clear E0 hb0) | ((with_reducible refine kn_box_func E.out rfl rfl rfl ?_); clear E; intro g u E0 hb0; have E := Lib.hid E0; clear E0 hb0))
              go_ret
              exact ⟨rfl, E.out.bel⟩
          · have qa := Lib.hid (in_no va 0 7 ga)
            have hno := N3.out 0 (by omega) (show ¬ (0 ≤ Z.getD 6 0 ∧ Z.getD 6 0 ≤ 7) from by rw [hva]; exact ga)
            subst hno
            clear hall HOK N3 hva hvb ga H1 H2
            go_wp2_with (first
              | (go_at_call 44; (with_reducible refine (qa.out _).mono ?_); rintro e w1 ⟨rfl, rfl⟩)
              | (((with_reducible refine kn_bz (i := 6) (g := g1) E.out rfl rfl rfl ?h1 ?h2 ?_); (case h1 => omega); (case h2 => omega); rw [HVA.out])) | (((with_reducible refine kn_bz_if (i := 6) (g := g1) E.out rfl rfl rfl ?h1 ?h2 ?_); (case h1 => omega); (case h2 => omega); rw [HVA.out]))
              | (((with_reducible refine kn_bz (i := 7) (g := g1) E.out rfl rfl rfl ?h1 ?h2 ?_); (case h1 => omega); (case h2 => omega); rw [HVB.out])) | (((with_reducible refine kn_bz_if (i := 7) (g := g1) E.out rfl rfl rfl ?h1 ?h2 ?_); (case h1 => omega); (case h2 => omega); rw [HVB.out]))
              | ((with_reducible refine kn_bd (g := g1) E.out rfl rfl rfl ?_)) | ((with_reducible refine kn_bd_if (g := g1) E.out rfl rfl rfl ?_))
              | ((with_reducible refine kn_load E.out rfl rfl rfl rfl ?_)) | ((with_reducible refine kn_load_if E.out rfl rfl rfl rfl ?_)) | ((with_reducible refine kn_loads E.out rfl rfl rfl ?_ ?_); (focus (first | rfl | (simp only [i64s_length, u8s_length]; first | rfl | assumption | omega)))) | ((with_reducible refine kn_loads_if E.out rfl rfl rfl ?_ ?_); (focus (first | rfl | (simp only [i64s_length, u8s_length]; first | rfl | assumption | omega)))) | ((with_reducible refine kn_store1_int E.out rfl rfl rfl rfl rfl ?_); clear E; intro u E0; have E := Lib.hid E0; clear E0) | ((with_reducible refine kn_store1_slice E.out rfl rfl rfl rfl rfl ?_); clear E; intro u E0; have E := Lib.hid E0; clear E0) | ((with_reducible refine kn_store1_bool E.out rfl rfl rfl rfl rfl ?_); clear E; intro u E0; have E := Lib.hid E0; clear E0) | ((with_reducible refine kn_stores E.out rfl rfl rfl rfl rfl ?_ ?_ ?_); (focus (first | exact ⟨rfl, rfl⟩ | (simp only [i64s_length, u8s_length]; refine ⟨?_, ?_⟩ <;> first | rfl | assumption | omega))); (focus (first | exact i64s_one _ | exact u8s_one _ | simp [Value.oneCell'])); clear E; intro u E0; have E := Lib.hid E0; clear E0) | ((with_reducible refine kn_alloc E.out rfl rfl ?_); clear E; intro g u E0 hb0; have E := Lib.hid E0; clear E0 hb0) | ((with_reducible refine kn_box E.out rfl rfl rfl ?_); clear E; intro g u E0 hb0; have E := Lib.hid E0; clear E0 hb0) | ((with_reducible refine kn_box_int E.out rfl rfl rfl ?_); clear E; intro g u E0 hb0; have E := Lib.hid E0; clear E0 hb0) | ((with_reducible refine kn_box_slice E.out rfl rfl rfl ?_); clear E; intro g u E0 hb0; have E := Lib.hid E0; clear E0 hb0) | ((with_reducible refine kn_box_bool E.out rfl rfl rfl ?_); clear E; intro g u E0 hb0; have E := Lib.hid E0; clear E0 hb0) | ((with_reducible refine kn_box_func E.out rfl rfl rfl ?_); clear E; intro g u E0 hb0; have E := Lib.hid E0; clear E0 hb0))
            go_ret
            exact ⟨rfl, E.out.bel⟩
set_option maxHeartbeats 8000000 in
set_option maxRecDepth 100000 in
theorem may_false (f : Bool) (Z : List Int) (w : World) (hZ : Z.length = 24) : Calls Tryd.prog 38 #[.agg (blk false f Z).toArray] w fun e w' => e = .returned (.bool (decide (okP false Z))) ∧ Below w.heap.size w w' := by
  have E := Lib.hid (Kn.start w)
  have hok := ok_false Z
  have HOK := Lib.hid (fun h1 h2 h3 h4 => show decide (okP false Z) = true from decide_eq_true (hok.2 ⟨h1, h2, h3, h4⟩))
  have N1 := Lib.hid (fun c (hc : c < 3) (h : ¬ (0 ≤ Z.getD c 0 ∧ Z.getD c 0 ≤ 15)) => show decide (okP false Z) = false from decide_eq_false fun k => h (by have := (hok.1 k).1 c hc; omega))
  have N2 := Lib.hid (fun c (hc : c < 3) (h : ¬ (0 ≤ Z.getD (3 + c) 0 ∧ Z.getD (3 + c) 0 ≤ 15)) => show decide (okP false Z) = false from decide_eq_false fun k => h (by have := (hok.1 k).2.1 c hc; omega))
  have N3 := Lib.hid (fun c (hc : c < 2) (h : ¬ (0 ≤ Z.getD (6 + c) 0 ∧ Z.getD (6 + c) 0 ≤ 7)) => show decide (okP false Z) = false from decide_eq_false fun k => h (by have := (hok.1 k).2.2.1 c hc; omega))
  have N4 := Lib.hid (fun c (hc : c < 16) (h : ¬ (0 ≤ Z.getD (8 + c) 0 ∧ Z.getD (8 + c) 0 ≤ 3)) => show decide (okP false Z) = false from decide_eq_false fun k => h (by have := (hok.1 k).2.2.2 c hc; omega))
  clear hok
  generalize decide (okP false Z) = R at *
  go_enter Tryd.func38, Tryd.ntmps38
  go_wp2_with (first | ((with_reducible refine kn_load E.out rfl rfl rfl rfl ?_)) | ((with_reducible refine kn_load_if E.out rfl rfl rfl rfl ?_)) | ((with_reducible refine kn_loads E.out rfl rfl rfl ?_ ?_); (focus (first | rfl | (simp only [i64s_length, u8s_length]; first | rfl | assumption | omega)))) | ((with_reducible refine kn_loads_if E.out rfl rfl rfl ?_ ?_); (focus (first | rfl | (simp only [i64s_length, u8s_length]; first | rfl | assumption | omega)))) | ((with_reducible refine kn_store1_int E.out rfl rfl rfl rfl rfl ?_); clear E; intro u E0; have E := Lib.hid E0; clear E0) | ((with_reducible refine kn_store1_slice E.out rfl rfl rfl rfl rfl ?_); clear E; intro u E0; have E := Lib.hid E0; clear E0) | ((with_reducible refine kn_store1_bool E.out rfl rfl rfl rfl rfl ?_); clear E; intro u E0; have E := Lib.hid E0; clear E0) | ((with_reducible refine kn_stores E.out rfl rfl rfl rfl rfl ?_ ?_ ?_); (focus (first | exact ⟨rfl, rfl⟩ | (simp only [i64s_length, u8s_length]; refine ⟨?_, ?_⟩ <;> first | rfl | assumption | omega))); (focus (first | exact i64s_one _ | exact u8s_one _ | simp [Value.oneCell'])); clear E; intro u E0; have E := Lib.hid E0; clear E0) | ((with_reducible refine kn_alloc (o := ⟨some 1, _, _, _, _, _⟩) E.out rfl rfl ?_); clear E; intro g1 u E0 hb0; have E := Lib.hid E0; clear E0 hb0) | ((with_reducible refine kn_box (o := ⟨some 1, _, _, _, _, _⟩) E.out rfl rfl rfl ?_); clear E; intro g1 u E0 hb0; have E := Lib.hid E0; clear E0 hb0) | ((with_reducible refine kn_box_int (o := ⟨some 1, _, _, _, _, _⟩) E.out rfl rfl rfl ?_); clear E; intro g1 u E0 hb0; have E := Lib.hid E0; clear E0 hb0) | ((with_reducible refine kn_box_slice (o := ⟨some 1, _, _, _, _, _⟩) E.out rfl rfl rfl ?_); clear E; intro g1 u E0 hb0; have E := Lib.hid E0; clear E0 hb0) | ((with_reducible refine kn_box_bool (o := ⟨some 1, _, _, _, _, _⟩) E.out rfl rfl rfl ?_); clear E; intro g1 u E0 hb0; have E := Lib.hid E0; clear E0 hb0) | ((with_reducible refine kn_box_func (o := ⟨some 1, _, _, _, _, _⟩) E.out rfl rfl rfl ?_); clear E; intro g1 u E0 hb0; have E := Lib.hid E0; clear E0 hb0) | ((with_reducible refine kn_alloc E.out rfl rfl ?_); clear E; intro g u E0 hb0; have E := Lib.hid E0; clear E0 hb0) | ((with_reducible refine kn_box E.out rfl rfl rfl ?_); clear E; intro g u E0 hb0; have E := Lib.hid E0; clear E0 hb0) | ((with_reducible refine kn_box_int E.out rfl rfl rfl ?_); clear E; intro g u E0 hb0; have E := Lib.hid E0; clear E0 hb0) | ((with_reducible refine kn_box_slice E.out rfl rfl rfl ?_); clear E; intro g u E0 hb0; have E := Lib.hid E0; clear E0 hb0) | ((with_reducible refine kn_box_bool E.out rfl rfl rfl ?_); clear E; intro g u E0 hb0; have E := Lib.hid E0; clear E0 hb0) | ((with_reducible refine kn_box_func E.out rfl rfl rfl ?_); clear E; intro g u E0 hb0; have E := Lib.hid E0; clear E0 hb0))
  go_loopw [3] (fun ci wr => ∃ k : Nat, k ≤ 3 ∧ ci = .int .i64 k ∧ (∀ c, c < k → (0 ≤ Z.getD c 0 ∧ Z.getD c 0 < 16) ∧ (0 ≤ Z.getD (3 + c) 0 ∧ Z.getD (3 + c) 0 < 16)) ∧ Hid (Kn w [.row g1 32 (blk false f Z)] [] wr)) (fun ci _ => 3 - (intOf ci).toNat)
  case atStart => exact ⟨0, by omega, rfl, fun j hj => absurd hj (by omega), E⟩
  case round =>
    clear E
    obtain ⟨k, hk, rfl, hall, E⟩ := hrel
    by_cases hlt : k < 3
    · have hk3 : (k : Int) < 3 := by omega
      obtain ⟨va, hva⟩ : ∃ v, Z.getD k 0 = v := ⟨_, rfl⟩
      obtain ⟨vb, hvb⟩ : ∃ v, Z.getD (3 + k) 0 = v := ⟨_, rfl⟩
      have HVA := Lib.hid hva
      have HVB := Lib.hid hvb
      by_cases ga : 0 ≤ va ∧ va ≤ 15
      · have qa := Lib.hid (in_yes va 0 15 ga)
        by_cases gb : 0 ≤ vb ∧ vb ≤ 15
        · have qb := Lib.hid (in_yes vb 0 15 gb)
          have hall' := Lib.hid (show ∀ c, c < k + 1 → (0 ≤ Z.getD c 0 ∧ Z.getD c 0 < 16) ∧ (0 ≤ Z.getD (3 + c) 0 ∧ Z.getD (3 + c) 0 < 16) from fun c hc => by
            rcases Nat.lt_or_ge c k with h | h
            · exact hall c h
            · obtain rfl : c = k := by omega
              rw [hva, hvb]; omega)
          clear hall HOK N1 N2 N3 N4 hva hvb ga gb
          go_wp2_with (first
            | (go_at_call 44; (with_reducible refine (qa.out _).mono ?_); rintro e w1 ⟨rfl, rfl⟩)
            | (go_at_call 44; (with_reducible refine (qb.out _).mono ?_); rintro e w1 ⟨rfl, rfl⟩)
            | (((with_reducible refine kn_bz (i := k) (g := g1) E.out rfl rfl rfl ?h1 ?h2 ?_); (case h1 => omega); (case h2 => omega); rw [HVA.out])) | (((with_reducible refine kn_bz_if (i := k) (g := g1) E.out rfl rfl rfl ?h1 ?h2 ?_); (case h1 => omega); (case h2 => omega); rw [HVA.out]))
            | (((with_reducible refine kn_bz (i := 3 + k) (g := g1) E.out rfl rfl rfl ?h1 ?h2 ?_); (case h1 => omega); (case h2 => omega); rw [HVB.out])) | (((with_reducible refine kn_bz_if (i := 3 + k) (g := g1) E.out rfl rfl rfl ?h1 ?h2 ?_); (case h1 => omega); (case h2 => omega); rw [HVB.out]))
            | ((with_reducible refine kn_bd (g := g1) E.out rfl rfl rfl ?_)) | ((with_reducible refine kn_bd_if (g := g1) E.out rfl rfl rfl ?_))
            | ((with_reducible refine kn_load E.out rfl rfl rfl rfl ?_)) | ((with_reducible refine kn_load_if E.out rfl rfl rfl rfl ?_)) | ((with_reducible refine kn_loads E.out rfl rfl rfl ?_ ?_); (focus (first | rfl | (simp only [i64s_length, u8s_length]; first | rfl | assumption | omega)))) | ((with_reducible refine kn_loads_if E.out rfl rfl rfl ?_ ?_); (focus (first | rfl | (simp only [i64s_length, u8s_length]; first | rfl | assumption | omega)))) | ((with_reducible refine kn_store1_int E.out rfl rfl rfl rfl rfl ?_); clear E; intro u E0; have E := Lib.hid E0; clear E0) | ((with_reducible refine kn_store1_slice E.out rfl rfl rfl rfl rfl ?_); clear E; intro u E0; have E := Lib.hid E0; clear E0) | ((with_reducible refine kn_store1_bool E.out rfl rfl rfl rfl rfl ?_); clear E; intro u E0; have E := Lib.hid E0; clear E0) | ((with_reducible refine kn_stores E.out rfl rfl rfl rfl rfl ?_ ?_ ?_); (focus (first | exact ⟨rfl, rfl⟩ | (simp only [i64s_length, u8s_length]; refine ⟨?_, ?_⟩ <;> first | rfl | assumption | omega))); (focus (first | exact i64s_one _ | exact u8s_one _ | simp [Value.oneCell'])); clear E; intro u E0; have E := Lib.hid E0; clear E0) | ((with_reducible refine kn_alloc E.out rfl rfl ?_); clear E; intro g u E0 hb0; have E := Lib.hid E0; clear E0 hb0) | ((with_reducible refine kn_box E.out rfl rfl rfl ?_); clear E; intro g u E0 hb0; have E := Lib.hid E0; clear E0 hb0) | ((with_reducible refine kn_box_int E.out rfl rfl rfl ?_); clear E; intro g u E0 hb0; have E := Lib.hid E0; clear E0 hb0) | ((with_reducible refine kn_box_slice E.out rfl rfl rfl ?_); clear E; intro g u E0 hb0; have E := Lib.hid E0; clear E0 hb0) | ((with_reducible refine kn_box_bool E.out rfl rfl rfl ?_); clear E; intro g u E0 hb0; have E := Lib.hid E0; clear E0 hb0) | ((with_reducible refine kn_box_func E.out rfl rfl rfl ?_); clear E; intro g u E0 hb0; have E := Lib.hid E0; clear E0 hb0))
          go_roundw
          case rel => exact ⟨k + 1, by omega, by go_num, hall'.out, E⟩
          case measure => simp [intOf]; try omega
        · have qb := Lib.hid (in_no vb 0 15 gb)
          have hno := N2.out k hlt (by rw [hvb]; exact gb)
          subst hno
          clear hall HOK N1 N2 N3 N4 hva hvb ga gb
          go_wp2_with (first
            | (go_at_call 44; (with_reducible refine (qa.out _).mono ?_); rintro e w1 ⟨rfl, rfl⟩)
            | (go_at_call 44; (with_reducible refine (qb.out _).mono ?_); rintro e w1 ⟨rfl, rfl⟩)
            | (((with_reducible refine kn_bz (i := k) (g := g1) E.out rfl rfl rfl ?h1 ?h2 ?_); (case h1 => omega); (case h2 => omega); rw [HVA.out])) | (((with_reducible refine kn_bz_if (i := k) (g := g1) E.out rfl rfl rfl ?h1 ?h2 ?_); (case h1 => omega); (case h2 => omega); rw [HVA.out]))
            | (((with_reducible refine kn_bz (i := 3 + k) (g := g1) E.out rfl rfl rfl ?h1 ?h2 ?_); (case h1 => omega); (case h2 => omega); rw [HVB.out])) | (((with_reducible refine kn_bz_if (i := 3 + k) (g := g1) E.out rfl rfl rfl ?h1 ?h2 ?_); (case h1 => omega); (case h2 => omega); rw [HVB.out]))
            | ((with_reducible refine kn_bd (g := g1) E.out rfl rfl rfl ?_)) | ((with_reducible refine kn_bd_if (g := g1) E.out rfl rfl rfl ?_))
            | ((with_reducible refine kn_load E.out rfl rfl rfl rfl ?_)) | ((with_reducible refine kn_load_if E.out rfl rfl rfl rfl ?_)) | ((with_reducible refine kn_loads E.out rfl rfl rfl ?_ ?_); (focus (first | rfl | (simp only [i64s_length, u8s_length]; first | rfl | assumption | omega)))) | ((with_reducible refine kn_loads_if E.out rfl rfl rfl ?_ ?_); (focus (first | rfl | (simp only [i64s_length, u8s_length]; first | rfl | assumption | omega)))) | ((with_reducible refine kn_store1_int E.out rfl rfl rfl rfl rfl ?_); clear E; intro u E0; have E := Lib.hid E0; clear E0) | ((with_reducible refine kn_store1_slice E.out rfl rfl rfl rfl rfl ?_); clear E; intro u E0; have E := Lib.hid E0; clear E0) | ((with_reducible refine kn_store1_bool E.out rfl rfl rfl rfl rfl ?_); clear E; intro u E0; have E := Lib.hid E0; clear E0) | ((with_reducible refine kn_stores E.out rfl rfl rfl rfl rfl ?_ ?_ ?_); (focus (first | exact ⟨rfl, rfl⟩ | (simp only [i64s_length, u8s_length]; refine ⟨?_, ?_⟩ <;> first | rfl | assumption | omega))); (focus (first | exact i64s_one _ | exact u8s_one _ | simp [Value.oneCell'])); clear E; intro u E0; have E := Lib.hid E0; clear E0) | ((with_reducible refine kn_alloc E.out rfl rfl ?_); clear E; intro g u E0 hb0; have E := Lib.hid E0; clear E0 hb0) | ((with_reducible refine kn_box E.out rfl rfl rfl ?_); clear E; intro g u E0 hb0; have E := Lib.hid E0; clear E0 hb0) | ((with_reducible refine kn_box_int E.out rfl rfl rfl ?_); clear E; intro g u E0 hb0; have E := Lib.hid E0; clear E0 hb0) | ((with_reducible refine kn_box_slice E.out rfl rfl rfl ?_); clear E; intro g u E0 hb0; have E := Lib.hid E0; clear E0 hb0) | ((with_reducible refine kn_box_bool E.out rfl rfl rfl ?_); clear E; intro g u E0 hb0; have E := Lib.hid E0; clear E0 hb0) | ((with_reducible refine kn_box_func E.out rfl rfl rfl ?_); clear E; intro g u E0 hb0; have E := Lib.hid E0; clear E0 hb0))
          go_ret
          exact ⟨rfl, E.out.bel⟩
      · have qa := Lib.hid (in_no va 0 15 ga)
        have hno := N1.out k hlt (by rw [hva]; exact ga)
        subst hno
        clear hall HOK N1 N2 N3 N4 hva hvb ga
        go_wp2_with (first
          | (go_at_call 44; (with_reducible refine (qa.out _).mono ?_); rintro e w1 ⟨rfl, rfl⟩)
          | (((with_reducible refine kn_bz (i := k) (g := g1) E.out rfl rfl rfl ?h1 ?h2 ?_); (case h1 => omega); (case h2 => omega); rw [HVA.out])) | (((with_reducible refine kn_bz_if (i := k) (g := g1) E.out rfl rfl rfl ?h1 ?h2 ?_); (case h1 => omega); (case h2 => omega); rw [HVA.out]))
          | (((with_reducible refine kn_bz (i := 3 + k) (g := g1) E.out rfl rfl rfl ?h1 ?h2 ?_); (case h1 => omega); (case h2 => omega); rw [HVB.out])) | (((with_reducible refine kn_bz_if (i := 3 + k) (g := g1) E.out rfl rfl rfl ?h1 ?h2 ?_); (case h1 => omega); (case h2 => omega); rw [HVB.out]))
          | ((with_reducible refine kn_bd (g := g1) E.out rfl rfl rfl ?_)) | ((with_reducible refine kn_bd_if (g := g1) E.out rfl rfl rfl ?_))
          | ((with_reducible refine kn_load E.out rfl rfl rfl rfl ?_)) | ((with_reducible refine kn_load_if E.out rfl rfl rfl rfl ?_)) | ((with_reducible refine kn_loads E.out rfl rfl rfl ?_ ?_); (focus (first | rfl | (simp only [i64s_length, u8s_length]; first | rfl | assumption | omega)))) | ((with_reducible refine kn_loads_if E.out rfl rfl rfl ?_ ?_); (focus (first | rfl | (simp only [i64s_length, u8s_length]; first | rfl | assumption | omega)))) | ((with_reducible refine kn_store1_int E.out rfl rfl rfl rfl rfl ?_); clear E; intro u E0; have E := Lib.hid E0; clear E0) | ((with_reducible refine kn_store1_slice E.out rfl rfl rfl rfl rfl ?_); clear E; intro u E0; have E := Lib.hid E0; clear E0) | ((with_reducible refine kn_store1_bool E.out rfl rfl rfl rfl rfl ?_); clear E; intro u E0; have E := Lib.hid E0; clear E0) | ((with_reducible refine kn_stores E.out rfl rfl rfl rfl rfl ?_ ?_ ?_); (focus (first | exact ⟨rfl, rfl⟩ | (simp only [i64s_length, u8s_length]; refine ⟨?_, ?_⟩ <;> first | rfl | assumption | omega))); (focus (first | exact i64s_one _ | exact u8s_one _ | simp [Value.oneCell'])); clear E; intro u E0; have E := Lib.hid E0; clear E0) | ((with_reducible refine kn_alloc E.out rfl rfl ?_); clear E; intro g u E0 hb0; have E := Lib.hid E0; clear E0 hb0) | ((with_reducible refine kn_box E.out rfl rfl rfl ?_); clear E; intro g u E0 hb0; have E := Lib.hid E0; clear E0 hb0) | ((with_reducible refine kn_box_int E.out rfl rfl rfl ?_); clear E; intro g u E0 hb0; have E := Lib.hid E0; clear E0 hb0) | ((with_reducible refine kn_box_slice E.out rfl rfl rfl ?_); clear E; intro g u E0 hb0; have E := Lib.hid E0; clear E0 hb0) | ((with_reducible refine kn_box_bool E.out rfl rfl rfl ?_); clear E; intro g u E0 hb0; have E := Lib.hid E0; clear E0 hb0) | ((with_reducible refine kn_box_func E.out rfl rfl rfl ?_); clear E; intro g u E0 hb0; have E := Lib.hid E0; clear E0 hb0))
        go_ret
        exact ⟨rfl, E.out.bel⟩
    · have hk3 : ¬ ((k : Int) < 3) := by omega
      have ek : k = 3 := by omega
      rw [ek] at hall
      have H1 := Lib.hid (fun c (hc : c < 3) => (hall c hc).1)
      have H2 := Lib.hid (fun c (hc : c < 3) => (hall c hc).2)
      clear N1 N2 hall hlt hk ek
      go_wp2_with (first | ((with_reducible refine kn_load E.out rfl rfl rfl rfl ?_)) | ((with_reducible refine kn_load_if E.out rfl rfl rfl rfl ?_)) | ((with_reducible refine kn_loads E.out rfl rfl rfl ?_ ?_); (focus (first | rfl | (simp only [i64s_length, u8s_length]; first | rfl | assumption | omega)))) | ((with_reducible refine kn_loads_if E.out rfl rfl rfl ?_ ?_); (focus (first | rfl | (simp only [i64s_length, u8s_length]; first | rfl | assumption | omega)))) | ((with_reducible refine kn_store1_int E.out rfl rfl rfl rfl rfl ?_); clear E; intro u E0; have E := Lib.hid E0; clear E0) | ((with_reducible refine kn_store1_slice E.out rfl rfl rfl rfl rfl ?_); clear E; intro u E0; have E := Lib.hid E0; clear E0) | ((with_reducible refine kn_store1_bool E.out rfl rfl rfl rfl rfl ?_); clear E; intro u E0; have E := Lib.hid E0; clear E0) | ((with_reducible refine kn_stores E.out rfl rfl rfl rfl rfl ?_ ?_ ?_); (focus (first | exact ⟨rfl, rfl⟩ | (simp only [i64s_length, u8s_length]; refine ⟨?_, ?_⟩ <;> first | rfl | assumption | omega))); (focus (first | exact i64s_one _ | exact u8s_one _ | simp [Value.oneCell'])); clear E; intro u E0; have E := Lib.hid E0; clear E0) | ((with_reducible refine kn_alloc E.out rfl rfl ?_); clear E; intro g u E0 hb0; have E := Lib.hid E0; clear E0 hb0) | ((with_reducible refine kn_box E.out rfl rfl rfl ?_); clear E; intro g u E0 hb0; have E := Lib.hid E0; clear E0 hb0) | ((with_reducible refine kn_box_int E.out rfl rfl rfl ?_); clear E; intro g u E0 hb0; have E := Lib.hid E0; clear E0 hb0) | ((with_reducible refine kn_box_slice E.out rfl rfl rfl ?_); clear E; intro g u E0 hb0; have E := Lib.hid E0; clear E0 hb0) | ((with_reducible refine kn_box_bool E.out rfl rfl rfl ?_); clear E; intro g u E0 hb0; have E := Lib.hid E0; clear E0 hb0) | ((with_reducible refine kn_box_func E.out rfl rfl rfl ?_); clear E; intro g u E0 hb0; have E := Lib.hid E0; clear E0 hb0))
      go_loopw [4] (fun ci wr => ∃ i : Nat, i ≤ 16 ∧ ci = .int .i64 i ∧ (∀ c, c < i → 0 ≤ Z.getD (8 + c) 0 ∧ Z.getD (8 + c) 0 < 4) ∧ Hid (Kn w [.row g1 32 (blk false f Z)] [] wr)) (fun ci _ => 16 - (intOf ci).toNat)
      case atStart => exact ⟨0, by omega, rfl, fun j hj => absurd hj (by omega), E⟩
      case round =>
        clear E
        obtain ⟨i, hi, rfl, hall, E⟩ := hrel
        by_cases hlt : i < 16
        · have hi3 : (i : Int) < 16 := by omega
          obtain ⟨va, hva⟩ : ∃ v, Z.getD (8 + i) 0 = v := ⟨_, rfl⟩
          have HVA := Lib.hid hva
          by_cases ga : 0 ≤ va ∧ va ≤ 3
          · have qa := Lib.hid (in_yes va 0 3 ga)
            have hall' := Lib.hid (show ∀ c, c < i + 1 → 0 ≤ Z.getD (8 + c) 0 ∧ Z.getD (8 + c) 0 < 4 from fun c hc => by
              rcases Nat.lt_or_ge c i with h | h
              · exact hall c h
              · obtain rfl : c = i := by omega
                rw [hva]; omega)
            clear hall HOK N3 N4 hva ga H1 H2
            go_wp2_with (first
              | (go_at_call 44; (with_reducible refine (qa.out _).mono ?_); rintro e w1 ⟨rfl, rfl⟩)
              | (((with_reducible refine kn_bz (i := 8 + i) (g := g1) E.out rfl rfl rfl ?h1 ?h2 ?_); (case h1 => omega); (case h2 => omega); rw [HVA.out])) | (((with_reducible refine kn_bz_if (i := 8 + i) (g := g1) E.out rfl rfl rfl ?h1 ?h2 ?_); (case h1 => omega); (case h2 => omega); rw [HVA.out]))
              | ((with_reducible refine kn_bd (g := g1) E.out rfl rfl rfl ?_)) | ((with_reducible refine kn_bd_if (g := g1) E.out rfl rfl rfl ?_))
              | ((with_reducible refine kn_load E.out rfl rfl rfl rfl ?_)) | ((with_reducible refine kn_load_if E.out rfl rfl rfl rfl ?_)) | ((with_reducible refine kn_loads E.out rfl rfl rfl ?_ ?_); (focus (first | rfl | (simp only [i64s_length, u8s_length]; first | rfl | assumption | omega)))) | ((with_reducible refine kn_loads_if E.out rfl rfl rfl ?_ ?_); (focus (first | rfl | (simp only [i64s_length, u8s_length]; first | rfl | assumption | omega)))) | ((with_reducible refine kn_store1_int E.out rfl rfl rfl rfl rfl ?_); clear E; intro u E0; have E := Lib.hid E0; clear E0) | ((with_reducible refine kn_store1_slice E.out rfl rfl rfl rfl rfl ?_); clear E; intro u E0; have E := Lib.hid E0; clear E0) | ((with_reducible refine kn_store1_bool E.out rfl rfl rfl rfl rfl ?_); clear E; intro u E0; have E := Lib.hid E0; clear E0) | ((with_reducible refine kn_stores E.out rfl rfl rfl rfl rfl ?_ ?_ ?_); (focus (first | exact ⟨rfl, rfl⟩ | (simp only [i64s_length, u8s_length]; refine ⟨?_, ?_⟩ <;> first | rfl | assumption | omega))); (focus (first | exact i64s_one _ | exact u8s_one _ | simp [Value.oneCell'])); clear E; intro u E0; have E := Lib.hid E0; clear E0) | ((with_reducible refine kn_alloc E.out rfl rfl ?_); clear E; intro g u E0 hb0; have E := Lib.hid E0; clear E0 hb0) | ((with_reducible refine kn_box E.out rfl rfl rfl ?_); clear E; intro g u E0 hb0; have E := Lib.hid E0; clear E0 hb0) | ((with_reducible refine kn_box_int E.out rfl rfl rfl ?_); clear E; intro g u E0 hb0; have E := Lib.hid E0; clear E0 hb0) | ((with_reducible refine kn_box_slice E.out rfl rfl rfl ?_); clear E; intro g u E0 hb0; have E := Lib.hid E0; clear E0 hb0) | ((with_reducible refine kn_box_bool E.out rfl rfl rfl ?_); clear E; intro g u E0 hb0; have E := Lib.hid E0; clear E0 hb0) | ((with_reducible refine kn_box_func E.out rfl rfl rfl ?_); clear E; intro g u E0 hb0; have E := Lib.hid E0; clear E0 hb0))
            go_roundw
            case rel => exact ⟨i + 1, by omega, by go_num, hall'.out, E⟩
            case measure => simp [intOf]; try omega
          · have qa := Lib.hid (in_no va 0 3 ga)
            have hno := N4.out i hlt (by rw [hva]; exact ga)
            subst hno
            clear hall HOK N3 N4 hva ga H1 H2
            go_wp2_with (first
              | (go_at_call 44; (with_reducible refine (qa.out _).mono ?_); rintro e w1 ⟨rfl, rfl⟩)
              | (((with_reducible refine kn_bz (i := 8 + i) (g := g1) E.out rfl rfl rfl ?h1 ?h2 ?_); (case h1 => omega); (case h2 => omega); rw [HVA.out])) | (((with_reducible refine kn_bz_if (i := 8 + i) (g := g1) E.out rfl rfl rfl ?h1 ?h2 ?_); (case h1 => omega); (case h2 => omega); rw [HVA.out]))
              | ((with_reducible refine kn_bd (g := g1) E.out rfl rfl rfl ?_)) | ((with_reducible refine kn_bd_if (g := g1) E.out rfl rfl rfl ?_))
              | ((with_reducible refine kn_load E.out rfl rfl rfl rfl ?_)) | ((with_reducible refine kn_load_if E.out rfl rfl rfl rfl ?_)) | ((with_reducible refine kn_loads E.out rfl rfl rfl ?_ ?_); (focus (first | rfl | (simp only [i64s_length, u8s_length]; first | rfl | assumption | omega)))) | ((with_reducible refine kn_loads_if E.out rfl rfl rfl ?_ ?_); (focus (first | rfl | (simp only [i64s_length, u8s_length]; first | rfl | assumption | omega)))) | ((with_reducible refine kn_store1_int E.out rfl rfl rfl rfl rfl ?_); clear E; intro u E0; have E := Lib.hid E0; clear E0) | ((with_reducible refine kn_store1_slice E.out rfl rfl rfl rfl rfl ?_); clear E; intro u E0; have E := Lib.hid E0; clear E0) | ((with_reducible refine kn_store1_bool E.out rfl rfl rfl rfl rfl ?_); clear E; intro u E0; have E := Lib.hid E0; clear E0) | ((with_reducible refine kn_stores E.out rfl rfl rfl rfl rfl ?_ ?_ ?_); (focus (first | exact ⟨rfl, rfl⟩ | (simp only [i64s_length, u8s_length]; refine ⟨?_, ?_⟩ <;> first | rfl | assumption | omega))); (focus (first | exact i64s_one _ | exact u8s_one _ | simp [Value.oneCell'])); clear E; intro u E0; have E := Lib.hid E0; clear E0) | ((with_reducible refine kn_alloc E.out rfl rfl ?_); clear E; intro g u E0 hb0; have E := Lib.hid E0; clear E0 hb0) | ((with_reducible refine kn_box E.out rfl rfl rfl ?_); clear E; intro g u E0 hb0; have E := Lib.hid E0; clear E0 hb0) | ((with_reducible refine kn_box_int E.out rfl rfl rfl ?_); clear E; intro g u E0 hb0; have E := Lib.hid E0; clear E0 hb0) | ((with_reducible refine kn_box_slice E.out rfl rfl rfl ?_); clear E; intro g u E0 hb0; have E := Lib.hid E0; clear E0 hb0) | ((with_reducible refine kn_box_bool E.out rfl rfl rfl ?_); clear E; intro g u E0 hb0; have E := Lib.hid E0; clear E0 hb0) | ((with_reducible refine kn_box_func E.out rfl rfl rfl ?_); clear E; intro g u E0 hb0; have E := Lib.hid E0; clear E0 hb0))
            go_ret
            exact ⟨rfl, E.out.bel⟩
        · have hi3 : ¬ ((i : Int) < 16) := by omega
          have ei : i = 16 := by omega
          rw [ei] at hall
          clear N4 hlt hi ei
          obtain ⟨va, hva⟩ : ∃ v, Z.getD 6 0 = v := ⟨_, rfl⟩
          obtain ⟨vb, hvb⟩ : ∃ v, Z.getD 7 0 = v := ⟨_, rfl⟩
          have HVA := Lib.hid hva
          have HVB := Lib.hid hvb
          by_cases ga : 0 ≤ va ∧ va ≤ 7
          · have qa := Lib.hid (in_yes va 0 7 ga)
            by_cases gb : 0 ≤ vb ∧ vb ≤ 7
            · have qb := Lib.hid (in_yes vb 0 7 gb)
              have hyes := HOK.out H1.out H2.out (fun c hc => by
                obtain rfl | rfl : c = 0 ∨ c = 1 := by omega
                · show 0 ≤ Z.getD 6 0 ∧ Z.getD 6 0 < 8
                  rw [hva]; omega
                · show 0 ≤ Z.getD 7 0 ∧ Z.getD 7 0 < 8
                  rw [hvb]; omega) hall
              subst hyes
              clear hall HOK N3 hva hvb ga gb H1 H2
              go_wp2_with (first
                | (go_at_call 44; (with_reducible refine (qa.out _).mono ?_); rintro e w1 ⟨rfl, rfl⟩)
                | (go_at_call 44; (with_reducible refine (qb.out _).mono ?_); rintro e w1 ⟨rfl, rfl⟩)
                | (((with_reducible refine kn_bz (i := 6) (g := g1) E.out rfl rfl rfl ?h1 ?h2 ?_); (case h1 => omega); (case h2 => omega); rw [HVA.out])) | (((with_reducible refine kn_bz_if (i := 6) (g := g1) E.out rfl rfl rfl ?h1 ?h2 ?_); (case h1 => omega); (case h2 => omega); rw [HVA.out]))
                | (((with_reducible refine kn_bz (i := 7) (g := g1) E.out rfl rfl rfl ?h1 ?h2 ?_); (case h1 => omega); (case h2 => omega); rw [HVB.out])) | (((with_reducible refine kn_bz_if (i := 7) (g := g1) E.out rfl rfl rfl ?h1 ?h2 ?_); (case h1 => omega); (case h2 => omega); rw [HVB.out]))
                | ((with_reducible refine kn_bd (g := g1) E.out rfl rfl rfl ?_)) | ((with_reducible refine kn_bd_if (g := g1) E.out rfl rfl rfl ?_))
                | ((with_reducible refine kn_load E.out rfl rfl rfl rfl ?_)) | ((with_reducible refine kn_load_if E.out rfl rfl rfl rfl ?_)) | ((with_reducible refine kn_loads E.out rfl rfl rfl ?_ ?_); (focus (first | rfl | (simp only [i64s_length, u8s_length]; first | rfl | assumption | omega)))) | ((with_reducible refine kn_loads_if E.out rfl rfl rfl ?_ ?_); (focus (first | rfl | (simp only [i64s_length, u8s_length]; first | rfl | assumption | omega)))) | ((with_reducible refine kn_store1_int E.out rfl rfl rfl rfl rfl ?_); clear E; intro u E0; have E := Lib.hid E0; clear E0) | ((with_reducible refine kn_store1_slice E.out rfl rfl rfl rfl rfl ?_); clear E; intro u E0; have E := Lib.hid E0; clear E0) | ((with_reducible refine kn_store1_bool E.out rfl rfl rfl rfl rfl ?_); clear E; intro u E0; have E := Lib.hid E0; clear E0) | ((with_reducible refine kn_stores E.out rfl rfl rfl rfl rfl ?_ ?_ ?_); (focus (first | exact ⟨rfl, rfl⟩ | (simp only [i64s_length, u8s_length]; refine ⟨?_, ?_⟩ <;> first | rfl | assumption | omega))); (focus (first | exact i64s_one _ | exact u8s_one _ | simp [Value.oneCell'])); clear E; intro u E0; have E := Lib.hid E0; clear E0) | ((with_reducible refine kn_alloc E.out rfl rfl ?_); clear E; intro g u E0 hb0; have E := Lib.hid E0; clear E0 hb0) | ((with_reducible refine kn_box E.out rfl rfl rfl ?_); clear E; intro g u E0 hb0; have E := Lib.hid E0; clear E0 hb0) | ((with_reducible refine kn_box_int E.out rfl rfl rfl ?_); clear E; intro g u E0 hb0; have E := Lib.hid E0; clear E0 hb0) | ((with_reducible refine kn_box_slice E.out rfl rfl rfl ?_); clear E; intro g u E0 hb0; have E := Lib.hid E0; clear E0 hb0) | ((with_reducible refine kn_box_bool E.out rfl rfl rfl ?_); clear E; intro g u E0 hb0; have E := Lib.hid E0; clear E0 hb0) | ((with_reducible refine kn_box_func E.out rfl rfl rfl ?_); clear E; intro g u E0 hb0; have E := Lib.hid E0; clear E0 hb0))
              go_ret
              exact ⟨rfl, E.out.bel⟩
            · have qb := Lib.hid (in_no vb 0 7 gb)
              have hno := N3.out 1 (by omega) (show ¬ (0 ≤ Z.getD 7 0 ∧ Z.getD 7 0 ≤ 7) from by rw [hvb]; exact gb)
              subst hno
              clear hall HOK N3 hva hvb ga gb H1 H2
              go_wp2_with (first
                | (go_at_call 44; (with_reducible refine (qa.out _).mono ?_); rintro e w1 ⟨rfl, rfl⟩)
                | (go_at_call 44; (with_reducible refine (qb.out _).mono ?_); rintro e w1 ⟨rfl, rfl⟩)
                | (((with_reducible refine kn_bz (i := 6) (g := g1) E.out rfl rfl rfl ?h1 ?h2 ?_); (case h1 => omega); (case h2 => omega); rw [HVA.out])) | (((with_reducible refine kn_bz_if (i := 6) (g := g1) E.out rfl rfl rfl ?h1 ?h2 ?_); (case h1 => omega); (case h2 => omega); rw [HVA.out]))
                | (((with_reducible refine kn_bz (i := 7) (g := g1) E.out rfl rfl rfl ?h1 ?h2 ?_); (case h1 => omega); (case h2 => omega); rw [HVB.out])) | (((with_reducible refine kn_bz_if (i := 7) (g := g1) E.out rfl rfl rfl ?h1 ?h2 ?_); (case h1 => omega); (case h2 => omega); rw [HVB.out]))
                | ((with_reducible refine kn_bd (g := g1) E.out rfl rfl rfl ?_)) | ((with_reducible refine kn_bd_if (g := g1) E.out rfl rfl rfl ?_))
                | ((with_reducible refine kn_load E.out rfl rfl rfl rfl ?_)) | ((with_reducible refine kn_load_if E.out rfl rfl rfl rfl ?_)) | ((with_reducible refine kn_loads E.out rfl rfl rfl ?_ ?_); (focus (first | rfl | (simp only [i64s_length, u8s_length]; first | rfl | assumption | omega)))) | ((with_reducible refine kn_loads_if E.out rfl rfl rfl ?_ ?_); (focus (first | rfl | (simp only [i64s_length, u8s_length]; first | rfl | assumption | omega)))) | ((with_reducible refine kn_store1_int E.out rfl rfl rfl rfl rfl ?_); clear E; intro u E0; have E := Lib.hid E0; clear E0) | ((with_reducible refine kn_store1_slice E.out rfl rfl rfl rfl rfl ?_); clear E; intro u E0; have E := Lib.hid E0; clear E0) | ((with_reducible refine kn_store1_bool E.out rfl rfl rfl rfl rfl ?_); clear E; intro u E0; have E := Lib.hid E0; clear E0) | ((with_reducible refine kn_stores E.out rfl rfl rfl rfl rfl ?_ ?_ ?_); (focus (first | exact ⟨rfl, rfl⟩ | (simp only [i64s_length, u8s_length]; refine ⟨?_, ?_⟩ <;> first | rfl | assumption | omega))); (focus (first | exact i64s_one _ | exact u8s_one _ | simp [Value.oneCell'])); clear E; intro u E0; have E := Lib.hid E0; clear E0) | ((with_reducible refine kn_alloc E.out rfl rfl ?_); clear E; intro g u E0 hb0; have E := Lib.hid E0; clear E0 hb0) | ((with_reducible refine kn_box E.out rfl rfl rfl ?_); clear E; intro g u E0 hb0; have E := Lib.hid E0; clear E0 hb0) | ((with_reducible refine kn_box_int E.out rfl rfl rfl ?_); clear E; intro g u E0 hb0; have E := Lib.hid E0; clear E0 hb0) | ((with_reducible refine kn_box_slice E.out rfl rfl rfl ?_); clear E; intro g u E0 hb0; have E := Lib.hid E0; clear E0 hb0) | ((with_reducible refine kn_box_bool E.out rfl rfl rfl ?_); clear E; intro g u E0 hb0; have E := Lib.hid E0; clear E0 hb0) | ((with_reducible refine kn_box_func E.out rfl rfl rfl ?_); clear E; intro g u E0 hb0; have E := Lib.hid E0; clear E0 hb0))
              go_ret
              exact ⟨rfl, E.out.bel⟩
          · have qa := Lib.hid (in_no va 0 7 ga)
            have hno := N3.out 0 (by omega) (show ¬ (0 ≤ Z.getD 6 0 ∧ Z.getD 6 0 ≤ 7) from by rw [hva]; exact ga)
            subst hno
            clear hall HOK N3 hva hvb ga H1 H2
            go_wp2_with (first
              | (go_at_call 44; (with_reducible refine (qa.out _).mono ?_); rintro e w1 ⟨rfl, rfl⟩)
              | (((with_reducible refine kn_bz (i := 6) (g := g1) E.out rfl rfl rfl ?h1 ?h2 ?_); (case h1 => omega); (case h2 => omega); rw [HVA.out])) | (((with_reducible refine kn_bz_if (i := 6) (g := g1) E.out rfl rfl rfl ?h1 ?h2 ?_); (case h1 => omega); (case h2 => omega); rw [HVA.out]))
              | (((with_reducible refine kn_bz (i := 7) (g := g1) E.out rfl rfl rfl ?h1 ?h2 ?_); (case h1 => omega); (case h2 => omega); rw [HVB.out])) | (((with_reducible refine kn_bz_if (i := 7) (g := g1) E.out rfl rfl rfl ?h1 ?h2 ?_); (case h1 => omega); (case h2 => omega); rw [HVB.out]))
              | ((with_reducible refine kn_bd (g := g1) E.out rfl rfl rfl ?_)) | ((with_reducible refine kn_bd_if (g := g1) E.out rfl rfl rfl ?_))
              | ((with_reducible refine kn_load E.out rfl rfl rfl rfl ?_)) | ((with_reducible refine kn_load_if E.out rfl rfl rfl rfl ?_)) | ((with_reducible refine kn_loads E.out rfl rfl rfl ?_ ?_); (focus (first | rfl | (simp only [i64s_length, u8s_length]; first | rfl | assumption | omega)))) | ((with_reducible refine kn_loads_if E.out rfl rfl rfl ?_ ?_); (focus (first | rfl | (simp only [i64s_length, u8s_length]; first | rfl | assumption | omega)))) | ((with_reducible refine kn_store1_int E.out rfl rfl rfl rfl rfl ?_); clear E; intro u E0; have E := Lib.hid E0; clear E0) | ((with_reducible refine kn_store1_slice E.out rfl rfl rfl rfl rfl ?_); clear E; intro u E0; have E := Lib.hid E0; clear E0) | ((with_reducible refine kn_store1_bool E.out rfl rfl rfl rfl rfl ?_); clear E; intro u E0; have E := Lib.hid E0; clear E0) | ((with_reducible refine kn_stores E.out rfl rfl rfl rfl rfl ?_ ?_ ?_); (focus (first | exact ⟨rfl, rfl⟩ | (simp only [i64s_length, u8s_length]; refine ⟨?_, ?_⟩ <;> first | rfl | assumption | omega))); (focus (first | exact i64s_one _ | exact u8s_one _ | simp [Value.oneCell'])); clear E; intro u E0; have E := Lib.hid E0; clear E0) | ((with_reducible refine kn_alloc E.out rfl rfl ?_); clear E; intro g u E0 hb0; have E := Lib.hid E0; clear E0 hb0) | ((with_reducible refine kn_box E.out rfl rfl rfl ?_); clear E; intro g u E0 hb0; have E := Lib.hid E0; clear E0 hb0) | ((with_reducible refine kn_box_int E.out rfl rfl rfl ?_); clear E; intro g u E0 hb0; have E := Lib.hid E0; clear E0 hb0) | ((with_reducible refine kn_box_slice E.out rfl rfl rfl ?_); clear E; intro g u E0 hb0; have E := Lib.hid E0; clear E0 hb0) | ((with_reducible refine kn_box_bool E.out rfl rfl rfl ?_); clear E; intro g u E0 hb0; have E := Lib.hid E0; clear E0 hb0) | ((with_reducible refine kn_box_func E.out rfl rfl rfl ?_); clear E; intro g u E0 hb0; have E := Lib.hid E0; clear E0 hb0))
            go_ret
            exact ⟨rfl, E.out.bel⟩
theorem may_any (d f : Bool) (Z : List Int) (w : World) (hZ : Z.length = 24) : Calls Tryd.prog 38 #[.agg (blk d f Z).toArray] w fun e w' => e = .returned (.bool (decide (okP d Z))) ∧ Below w.heap.size w w' := by
  cases d
  · exact may_false f Z w hZ
  · exact may_true f Z w hZ
end Go.Proofs.YtjlkdmdepdoanaaDoor
