/- The block of any parts, the program's. -/
import Derived.Test.YtjlkdmdepdoanaaDoorE1Put
import Derived.Test.YtjlkdmdepdoanaaDoorE1May
set_option linter.all false
namespace Go.Proofs.YtjlkdmdepdoanaaDoor
open Go.RowKit
open Bi Lv Eo Bc

set_option maxHeartbeats 2000000 in
set_option maxRecDepth 100000 in
theorem join_no (d f : Bool) (Z : List Int) (w : World) (hZ : Z.length = 24) (h : ¬ okP d Z) :
    Calls Tryd.prog 17 #[.agg (blk d f Z).toArray] w (Laid w (jV d f Z) (jE d Z)) := by
  have E := Lib.hid (Kn.start w)
  have hF := Lib.hid (fun u => fits_any d f Z u hZ)
  rw [decide_eq_false h] at hF
  rw [jV_no h, jE_no h]
  clear h
  go_enter Tryd.func17, Tryd.ntmps17
  go_wp2_with (first
    | (go_at_call 34; refine (hF.out _).mono ?_; clear hF; rintro e w1 ⟨rfl, hb⟩; have E1 := Lib.hid (E.out.later hb); clear hb E; have E := E1; clear E1)
    | ((with_reducible refine kn_ball (g := g1) E.out rfl rfl rfl ?h1 ?_); (case h1 => exact hZ))
    | ((with_reducible refine kn_load E.out rfl rfl rfl rfl ?_)) | ((with_reducible refine kn_load_if E.out rfl rfl rfl rfl ?_)) | ((with_reducible refine kn_loads E.out rfl rfl rfl ?_ ?_); (focus (first | rfl | (simp only [i64s_length, u8s_length]; first | rfl | assumption | omega)))) | ((with_reducible refine kn_loads_if E.out rfl rfl rfl ?_ ?_); (focus (first | rfl | (simp only [i64s_length, u8s_length]; first | rfl | assumption | omega)))) | ((with_reducible refine kn_store1_int E.out rfl rfl rfl rfl rfl ?_); clear E; intro u E0; have E := Lib.hid E0; clear E0) | ((with_reducible refine kn_store1_slice E.out rfl rfl rfl rfl rfl ?_); clear E; intro u E0; have E := Lib.hid E0; clear E0) | ((with_reducible refine kn_store1_bool E.out rfl rfl rfl rfl rfl ?_); clear E; intro u E0; have E := Lib.hid E0; clear E0) | ((with_reducible refine kn_stores E.out rfl rfl rfl rfl rfl ?_ ?_ ?_); (focus (first | exact ⟨rfl, rfl⟩ | (simp only [i64s_length, u8s_length]; refine ⟨?_, ?_⟩ <;> first | rfl | assumption | omega))); (focus (first | exact i64s_one _ | exact u8s_one _ | simp [Value.oneCell'])); clear E; intro u E0; have E := Lib.hid E0; clear E0) | ((with_reducible refine kn_alloc (o := ⟨some 1, _, _, _, _, _⟩) E.out rfl rfl ?_); clear E; intro g1 u E0 hb0; have E := Lib.hid E0; clear E0 hb0) | ((with_reducible refine kn_box (o := ⟨some 1, _, _, _, _, _⟩) E.out rfl rfl rfl ?_); clear E; intro g1 u E0 hb0; have E := Lib.hid E0; clear E0 hb0) | ((with_reducible refine kn_box_int (o := ⟨some 1, _, _, _, _, _⟩) E.out rfl rfl rfl ?_); clear E; intro g1 u E0 hb0; have E := Lib.hid E0; clear E0 hb0) | ((with_reducible refine kn_box_slice (o := ⟨some 1, _, _, _, _, _⟩) E.out rfl rfl rfl ?_); clear E; intro g1 u E0 hb0; have E := Lib.hid E0; clear E0 hb0) | ((with_reducible refine kn_box_bool (o := ⟨some 1, _, _, _, _, _⟩) E.out rfl rfl rfl ?_); clear E; intro g1 u E0 hb0; have E := Lib.hid E0; clear E0 hb0) | ((with_reducible refine kn_box_func (o := ⟨some 1, _, _, _, _, _⟩) E.out rfl rfl rfl ?_); clear E; intro g1 u E0 hb0; have E := Lib.hid E0; clear E0 hb0) | ((with_reducible refine kn_alloc E.out rfl rfl ?_); clear E; intro g u E0 hb0; have E := Lib.hid E0; clear E0 hb0) | ((with_reducible refine kn_box E.out rfl rfl rfl ?_); clear E; intro g u E0 hb0; have E := Lib.hid E0; clear E0 hb0) | ((with_reducible refine kn_box_int E.out rfl rfl rfl ?_); clear E; intro g u E0 hb0; have E := Lib.hid E0; clear E0 hb0) | ((with_reducible refine kn_box_slice E.out rfl rfl rfl ?_); clear E; intro g u E0 hb0; have E := Lib.hid E0; clear E0 hb0) | ((with_reducible refine kn_box_bool E.out rfl rfl rfl ?_); clear E; intro g u E0 hb0; have E := Lib.hid E0; clear E0 hb0) | ((with_reducible refine kn_box_func E.out rfl rfl rfl ?_); clear E; intro g u E0 hb0; have E := Lib.hid E0; clear E0 hb0))
  go_ret2
  exact ⟨none, 0, 0, rfl, ⟨rfl, by simp, fun h => absurd h (by omega)⟩, by omega, by omega, E.out.bel⟩

theorem or_up1 (H v q : Nat) (hH : H < 65536) (hv : v < 4) (hq : q < 16) : bits .or .i64 (H : Int) (wrap64 ((v : Int) / 2 * 2 ^ q)) = ((H ||| (((v : Int).toNat).testBit 1).toNat * 2 ^ q : Nat) : Int) := by
  have h1 : 2 ^ q ≤ 2 ^ 15 := Nat.pow_le_pow_right (by omega) (by omega)
  have h2 : v / 2 * 2 ^ q ≤ 1 * 2 ^ 15 := Nat.mul_le_mul (by omega) h1
  have e : (v : Int) / 2 * 2 ^ q = ((v / 2 * 2 ^ q : Nat) : Int) := by simp
  have eb : (v.testBit 1).toNat = v / 2 := by rw [← bit_div]; omega
  rw [e, wrap64_small _ (by omega) (by omega), i64_or_nat _ _ (by omega) (by omega), Int.toNat_natCast, eb]
theorem or_up0 (H v q : Nat) (hH : H < 65536) (hv : v < 4) (hq : q < 16) : bits .or .i64 (H : Int) (wrap64 (bits .and .i64 (v : Int) 1 * 2 ^ q)) = ((H ||| (((v : Int).toNat).testBit 0).toNat * 2 ^ q : Nat) : Int) := by
  have h1 : 2 ^ q ≤ 2 ^ 15 := Nat.pow_le_pow_right (by omega) (by omega)
  have h2 : v % 2 * 2 ^ q ≤ 1 * 2 ^ 15 := Nat.mul_le_mul (by omega) h1
  have e : (v : Int) % 2 * 2 ^ q = ((v % 2 * 2 ^ q : Nat) : Int) := by simp
  have eb : (v.testBit 0).toNat = v % 2 := by rw [← bit_div]; omega
  rw [and1, e, wrap64_small _ (by omega) (by omega), i64_or_nat _ _ (by omega) (by omega), Int.toNat_natCast, eb]
set_option maxHeartbeats 8000000 in
set_option maxRecDepth 100000 in
theorem join_ok (d f : Bool) (Z : List Int) (w : World) (hZ : Z.length = 24) (h : okP d Z) :
    Calls Tryd.prog 17 #[.agg (blk d f Z).toArray] w (Laid w (jV d f Z) (jE d Z)) := by
  have E := Lib.hid (Kn.start w)
  have hF := Lib.hid (fun u => fits_any d f Z u hZ)
  rw [decide_eq_true h] at hF
  rw [jV_ok h, jE_ok h]
  have hLl := Lib.hid (lP_length (jG d f Z))
  have h0 := Lib.hid (lP_zero (jG d f Z))
  have hW := Lib.hid (fun u => widths_any d u)
  have hw1 := w1_bd d
  have hw2 := w2_bd d
  have hws := w_sum d
  have SA := Lib.hid (fun c (hc : c < 3) => show st (lP (jG d f Z) (8 * c)) true (8 * c) (w1 d) (Z.getD c 0 % ((2 ^ w1 d : Nat) : Int)).toNat = lP (jG d f Z) (8 * c + w1 d) from by
    rw [low_is (ok_a h hc)]
    exact lP_st _ rfl (by omega) fun k hk => jG_a d f Z c k hc hk)
  have SB := Lib.hid (fun c (hc : c < 3) => show st (lP (jG d f Z) (8 * c + w1 d)) true (8 * c + w1 d) (w2 d) (Z.getD (3 + c) 0 % ((2 ^ w2 d : Nat) : Int)).toNat = lP (jG d f Z) (8 * (c + 1)) from
    lP_st _ (by omega) (by omega) fun k hk => jG_b d f Z c k hc hk)
  have ST := Lib.hid (fun c (hc : c < 2) => show st (lP (jG d f Z) (24 + 3 * c)) true (24 + 3 * c) 3 (Z.getD (6 + c) 0 % ((2 ^ 3 : Nat) : Int)).toNat = lP (jG d f Z) (24 + 3 * (c + 1)) from by
    rw [low_is (m := 3) (ok_t h hc)]
    exact lP_st _ (by omega) (by omega) fun k hk => jG_t d f Z c k hc hk)
  have SD := Lib.hid (show st (lP (jG d f Z) 30) true 30 1 (((d.toNat : Nat) : Int) % ((2 ^ 1 : Nat) : Int)).toNat = lP (jG d f Z) 31 from
    lP_st _ rfl (by omega) fun k hk => by
      obtain rfl : k = 0 := by omega
      rw [jG_d]; cases d <;> rfl)
  have SF := Lib.hid (show st (lP (jG d f Z) 31) true 31 1 (((f.toNat : Nat) : Int) % ((2 ^ 1 : Nat) : Int)).toNat = lP (jG d f Z) 32 from
    lP_st _ rfl (by omega) fun k hk => by
      obtain rfl : k = 0 := by omega
      rw [jG_f]; cases f <;> rfl)
  have b1 := plN_lt Z 1 16
  have b0 := plN_lt Z 0 16
  have SH := Lib.hid (show st (lP (jG d f Z) 32) true 32 16 (((plN Z 1 16 : Nat) : Int) % ((2 ^ 16 : Nat) : Int)).toNat = lP (jG d f Z) 48 from by
    rw [low_is (m := 16) (by omega)]
    exact lP_st _ rfl (by omega) fun k hk => by rw [Int.toNat_natCast]; exact plN_hi d f Z k hk)
  have SL := Lib.hid (show st (lP (jG d f Z) 48) true 48 16 (((plN Z 0 16 : Nat) : Int) % ((2 ^ 16 : Nat) : Int)).toNat = jB d f Z from by
    rw [low_is (m := 16) (by omega)]
    exact (lP_st _ (q := 64) rfl (by omega) fun k hk => by rw [Int.toNat_natCast]; exact plN_lo d f Z k hk).trans (lP_full _))
  have HW4 := Lib.hid (fun i (hi : i < 16) => ok_w h hi)
  have hB1 := Lib.hid (fun u => bit_any d u)
  have hB2 := Lib.hid (fun u => bit_any f u)
  have hjl := Lib.hid (jB_length d f Z)
  clear h b1 b0
  obtain ⟨wa, hwa⟩ : ∃ a, w1 d = a := ⟨_, rfl⟩
  obtain ⟨wb, hwb⟩ : ∃ a, w2 d = a := ⟨_, rfl⟩
  rw [hwa] at hW SA SB hw1 hws
  rw [hwb] at hW SB hw2 hws
  clear hwa hwb
  generalize lP (jG d f Z) = LP at *
  generalize jB d f Z = JB at *
  go_enter Tryd.func17, Tryd.ntmps17
  go_wp2_with (first
    | (go_at_call 34; refine (hF.out _).mono ?_; clear hF; rintro e w1 ⟨rfl, hb⟩; have E1 := Lib.hid (E.out.later hb); clear hb E; have E := E1; clear E1)
    | (go_at_call 26; refine (hW.out _).mono ?_; clear hW; rintro e w1 ⟨rfl, rfl⟩)
    | ((with_reducible refine kn_make8 E.out rfl rfl rfl rfl ?_); clear E; intro gg u E0 hB; have E := Lib.hid ((E0.rest gg).new_bsi hB); clear E0 hB)
    | ((with_reducible refine kn_ball (g := g1) E.out rfl rfl rfl ?h1 ?_); (case h1 => exact hZ))
    | ((with_reducible refine kn_bd (g := g1) E.out rfl rfl rfl ?_))
    | ((with_reducible refine kn_load E.out rfl rfl rfl rfl ?_)) | ((with_reducible refine kn_load_if E.out rfl rfl rfl rfl ?_)) | ((with_reducible refine kn_loads E.out rfl rfl rfl ?_ ?_); (focus (first | rfl | (simp only [i64s_length, u8s_length]; first | rfl | assumption | omega)))) | ((with_reducible refine kn_loads_if E.out rfl rfl rfl ?_ ?_); (focus (first | rfl | (simp only [i64s_length, u8s_length]; first | rfl | assumption | omega)))) | ((with_reducible refine kn_store1_int E.out rfl rfl rfl rfl rfl ?_); clear E; intro u E0; have E := Lib.hid E0; clear E0) | ((with_reducible refine kn_store1_slice E.out rfl rfl rfl rfl rfl ?_); clear E; intro u E0; have E := Lib.hid E0; clear E0) | ((with_reducible refine kn_store1_bool E.out rfl rfl rfl rfl rfl ?_); clear E; intro u E0; have E := Lib.hid E0; clear E0) | ((with_reducible refine kn_stores E.out rfl rfl rfl rfl rfl ?_ ?_ ?_); (focus (first | exact ⟨rfl, rfl⟩ | (simp only [i64s_length, u8s_length]; refine ⟨?_, ?_⟩ <;> first | rfl | assumption | omega))); (focus (first | exact i64s_one _ | exact u8s_one _ | simp [Value.oneCell'])); clear E; intro u E0; have E := Lib.hid E0; clear E0) | ((with_reducible refine kn_alloc (o := ⟨some 1, _, _, _, _, _⟩) E.out rfl rfl ?_); clear E; intro g1 u E0 hb0; have E := Lib.hid E0; clear E0 hb0) | ((with_reducible refine kn_box (o := ⟨some 1, _, _, _, _, _⟩) E.out rfl rfl rfl ?_); clear E; intro g1 u E0 hb0; have E := Lib.hid E0; clear E0 hb0) | ((with_reducible refine kn_box_int (o := ⟨some 1, _, _, _, _, _⟩) E.out rfl rfl rfl ?_); clear E; intro g1 u E0 hb0; have E := Lib.hid E0; clear E0 hb0) | ((with_reducible refine kn_box_slice (o := ⟨some 1, _, _, _, _, _⟩) E.out rfl rfl rfl ?_); clear E; intro g1 u E0 hb0; have E := Lib.hid E0; clear E0 hb0) | ((with_reducible refine kn_box_bool (o := ⟨some 1, _, _, _, _, _⟩) E.out rfl rfl rfl ?_); clear E; intro g1 u E0 hb0; have E := Lib.hid E0; clear E0 hb0) | ((with_reducible refine kn_box_func (o := ⟨some 1, _, _, _, _, _⟩) E.out rfl rfl rfl ?_); clear E; intro g1 u E0 hb0; have E := Lib.hid E0; clear E0 hb0) | ((with_reducible refine kn_alloc (o := ⟨some 4, _, _, _, _, _⟩) E.out rfl rfl ?_); clear E; intro g4 u E0 hb0; have E := Lib.hid E0; clear E0 hb0) | ((with_reducible refine kn_box (o := ⟨some 4, _, _, _, _, _⟩) E.out rfl rfl rfl ?_); clear E; intro g4 u E0 hb0; have E := Lib.hid E0; clear E0 hb0) | ((with_reducible refine kn_box_int (o := ⟨some 4, _, _, _, _, _⟩) E.out rfl rfl rfl ?_); clear E; intro g4 u E0 hb0; have E := Lib.hid E0; clear E0 hb0) | ((with_reducible refine kn_box_slice (o := ⟨some 4, _, _, _, _, _⟩) E.out rfl rfl rfl ?_); clear E; intro g4 u E0 hb0; have E := Lib.hid E0; clear E0 hb0) | ((with_reducible refine kn_box_bool (o := ⟨some 4, _, _, _, _, _⟩) E.out rfl rfl rfl ?_); clear E; intro g4 u E0 hb0; have E := Lib.hid E0; clear E0 hb0) | ((with_reducible refine kn_box_func (o := ⟨some 4, _, _, _, _, _⟩) E.out rfl rfl rfl ?_); clear E; intro g4 u E0 hb0; have E := Lib.hid E0; clear E0 hb0) | ((with_reducible refine kn_alloc E.out rfl rfl ?_); clear E; intro g u E0 hb0; have E := Lib.hid E0; clear E0 hb0) | ((with_reducible refine kn_box E.out rfl rfl rfl ?_); clear E; intro g u E0 hb0; have E := Lib.hid E0; clear E0 hb0) | ((with_reducible refine kn_box_int E.out rfl rfl rfl ?_); clear E; intro g u E0 hb0; have E := Lib.hid E0; clear E0 hb0) | ((with_reducible refine kn_box_slice E.out rfl rfl rfl ?_); clear E; intro g u E0 hb0; have E := Lib.hid E0; clear E0 hb0) | ((with_reducible refine kn_box_bool E.out rfl rfl rfl ?_); clear E; intro g u E0 hb0; have E := Lib.hid E0; clear E0 hb0) | ((with_reducible refine kn_box_func E.out rfl rfl rfl ?_); clear E; intro g u E0 hb0; have E := Lib.hid E0; clear E0 hb0))
  go_loopw [27] (fun ci wr => ∃ (k : Nat) (A1 : Option Addr) (c1 : Nat), k ≤ 3 ∧ ci = .int .i64 k ∧ (8 ≤ c1 ∧ c1 ≤ 9223372036854775807) ∧ Hid (Kn w [.row g4 22 [.slice A1 8 c1], .row g1 28 (blk d f Z)] [bsF A1 8 (LP (8 * k))] wr)) (fun ci _ => 3 - (intOf ci).toNat)
  case atStart => exact ⟨0, some ⟨gg, 0, none⟩, 8, by omega, rfl, ⟨by omega, by omega⟩, by rw [h0.out]; exact E.out.part _ _ (List.Sublist.refl _) (by simp)⟩
  case round =>
    clear E
    obtain ⟨k, A1, c1, hk, rfl, hc1, E⟩ := hrel
    by_cases hlt : k < 3
    · have hk3 : (k : Int) < 3 := by omega
      have sa := Lib.hid (SA.out k hlt)
      have sb := Lib.hid (SB.out k hlt)
      clear SA SB ST SD SF SH SL HW4 hB1 hB2 h0 hjl
      obtain ⟨va, hva⟩ : ∃ v, Z.getD k 0 = v := ⟨_, rfl⟩
      obtain ⟨vb, hvb⟩ : ∃ v, Z.getD (3 + k) 0 = v := ⟨_, rfl⟩
      rw [hva] at sa
      rw [hvb] at sb
      have HVA := Lib.hid hva
      have HVB := Lib.hid hvb
      clear hva hvb
      go_wp2_with (first
        | (go_at_call 35; (with_reducible refine (put10 g4 A1 c1 E.out (8 * (k : Int)) (wa : Int) va (8 * k) wa ?h1 ?h2 (LP (8 * k)) (LP (8 * k + wa)) ?h3 ?h4 ?h5 ?h6 ?h7).mono ?_); (case h1 => first | rfl | omega); (case h2 => first | rfl | omega); (case h3 => exact List.mem_cons_self); (case h4 => omega); (case h5 => omega); (case h6 => exact hLl.out _); (case h7 => exact sa.out); rintro e w1 ⟨rfl, A2, c2, hc2, E0⟩; clear E; have E := Lib.hid E0; clear E0)
        | (go_at_call 35; (with_reducible refine (put10 g4 A2 c2 E.out (8 * (k : Int) + (wa : Int)) (wb : Int) vb (8 * k + wa) wb ?h1 ?h2 (LP (8 * k + wa)) (LP (8 * (k + 1))) ?h3 ?h4 ?h5 ?h6 ?h7).mono ?_); (case h1 => first | rfl | omega); (case h2 => first | rfl | omega); (case h3 => exact List.mem_cons_self); (case h4 => omega); (case h5 => omega); (case h6 => exact hLl.out _); (case h7 => exact sb.out); rintro e w1 ⟨rfl, A3, c3, hc3, E0⟩; clear E; have E := Lib.hid E0; clear E0)
        | (((with_reducible refine kn_bz (i := k) (g := g1) E.out rfl rfl rfl ?h1 ?h2 ?_); (case h1 => omega); (case h2 => omega); rw [HVA.out]))
        | (((with_reducible refine kn_bz (i := 3 + k) (g := g1) E.out rfl rfl rfl ?h1 ?h2 ?_); (case h1 => omega); (case h2 => omega); rw [HVB.out]))
        | ((with_reducible refine kn_load E.out rfl rfl rfl rfl ?_)) | ((with_reducible refine kn_load_if E.out rfl rfl rfl rfl ?_)) | ((with_reducible refine kn_loads E.out rfl rfl rfl ?_ ?_); (focus (first | rfl | (simp only [i64s_length, u8s_length]; first | rfl | assumption | omega)))) | ((with_reducible refine kn_loads_if E.out rfl rfl rfl ?_ ?_); (focus (first | rfl | (simp only [i64s_length, u8s_length]; first | rfl | assumption | omega)))) | ((with_reducible refine kn_store1_int E.out rfl rfl rfl rfl rfl ?_); clear E; intro u E0; have E := Lib.hid E0; clear E0) | ((with_reducible refine kn_store1_slice E.out rfl rfl rfl rfl rfl ?_); clear E; intro u E0; have E := Lib.hid E0; clear E0) | ((with_reducible refine kn_store1_bool E.out rfl rfl rfl rfl rfl ?_); clear E; intro u E0; have E := Lib.hid E0; clear E0) | ((with_reducible refine kn_stores E.out rfl rfl rfl rfl rfl ?_ ?_ ?_); (focus (first | exact ⟨rfl, rfl⟩ | (simp only [i64s_length, u8s_length]; refine ⟨?_, ?_⟩ <;> first | rfl | assumption | omega))); (focus (first | exact i64s_one _ | exact u8s_one _ | simp [Value.oneCell'])); clear E; intro u E0; have E := Lib.hid E0; clear E0) | ((with_reducible refine kn_alloc E.out rfl rfl ?_); clear E; intro g u E0 hb0; have E := Lib.hid E0; clear E0 hb0) | ((with_reducible refine kn_box E.out rfl rfl rfl ?_); clear E; intro g u E0 hb0; have E := Lib.hid E0; clear E0 hb0) | ((with_reducible refine kn_box_int E.out rfl rfl rfl ?_); clear E; intro g u E0 hb0; have E := Lib.hid E0; clear E0 hb0) | ((with_reducible refine kn_box_slice E.out rfl rfl rfl ?_); clear E; intro g u E0 hb0; have E := Lib.hid E0; clear E0 hb0) | ((with_reducible refine kn_box_bool E.out rfl rfl rfl ?_); clear E; intro g u E0 hb0; have E := Lib.hid E0; clear E0 hb0) | ((with_reducible refine kn_box_func E.out rfl rfl rfl ?_); clear E; intro g u E0 hb0; have E := Lib.hid E0; clear E0 hb0))
      go_roundw
      case rel => exact ⟨k + 1, A3, c3, by omega, by go_num, hc3, E.out.part _ _ (List.Sublist.refl _) (by simp)⟩
      case measure => simp [intOf]; try omega
    · have hk3 : ¬ ((k : Int) < 3) := by omega
      have ek : k = 3 := by omega
      rw [ek] at E
      have hT2 := Lib.hid (fun c (hc : c < 2) => show ((Z.drop 6).take 2).getD c 0 = Z.getD (6 + c) 0 from by
        rw [List.getD_eq_getElem?_getD, List.getElem?_take, if_pos hc, List.getElem?_drop, ← List.getD_eq_getElem?_getD])
      have hTl : ((Z.drop 6).take 2).length = 2 := by rw [List.length_take, List.length_drop]; omega
      have hIX := Lib.hid (fun (j : Nat) (hj : j < 2) (u : World) => run_index_i64 (P := Tryd.prog) 25 3 2 Tryd.underlying25 Tryd.underlying3 (by kernel_rfl) ((Z.drop 6).take 2) j hj hTl u)
      obtain ⟨T2, hTe⟩ : ∃ T2, (Z.drop 6).take 2 = T2 := ⟨_, rfl⟩
      rw [hTe] at hT2 hIX
      have HTE := Lib.hid hTe
      clear SA SB h0 hTe hTl hlt hk ek
      go_wp2_with (first
        | ((with_reducible refine kn_bp (g := g1) (i := 6) E.out rfl rfl rfl ?h1 ?h2 ?_); (case h1 => rfl); (case h2 => omega); rw [HTE.out])
        | ((with_reducible refine kn_load E.out rfl rfl rfl rfl ?_)) | ((with_reducible refine kn_load_if E.out rfl rfl rfl rfl ?_)) | ((with_reducible refine kn_loads E.out rfl rfl rfl ?_ ?_); (focus (first | rfl | (simp only [i64s_length, u8s_length]; first | rfl | assumption | omega)))) | ((with_reducible refine kn_loads_if E.out rfl rfl rfl ?_ ?_); (focus (first | rfl | (simp only [i64s_length, u8s_length]; first | rfl | assumption | omega)))) | ((with_reducible refine kn_store1_int E.out rfl rfl rfl rfl rfl ?_); clear E; intro u E0; have E := Lib.hid E0; clear E0) | ((with_reducible refine kn_store1_slice E.out rfl rfl rfl rfl rfl ?_); clear E; intro u E0; have E := Lib.hid E0; clear E0) | ((with_reducible refine kn_store1_bool E.out rfl rfl rfl rfl rfl ?_); clear E; intro u E0; have E := Lib.hid E0; clear E0) | ((with_reducible refine kn_stores E.out rfl rfl rfl rfl rfl ?_ ?_ ?_); (focus (first | exact ⟨rfl, rfl⟩ | (simp only [i64s_length, u8s_length]; refine ⟨?_, ?_⟩ <;> first | rfl | assumption | omega))); (focus (first | exact i64s_one _ | exact u8s_one _ | simp [Value.oneCell'])); clear E; intro u E0; have E := Lib.hid E0; clear E0) | ((with_reducible refine kn_alloc E.out rfl rfl ?_); clear E; intro g u E0 hb0; have E := Lib.hid E0; clear E0 hb0) | ((with_reducible refine kn_box E.out rfl rfl rfl ?_); clear E; intro g u E0 hb0; have E := Lib.hid E0; clear E0 hb0) | ((with_reducible refine kn_box_int E.out rfl rfl rfl ?_); clear E; intro g u E0 hb0; have E := Lib.hid E0; clear E0 hb0) | ((with_reducible refine kn_box_slice E.out rfl rfl rfl ?_); clear E; intro g u E0 hb0; have E := Lib.hid E0; clear E0 hb0) | ((with_reducible refine kn_box_bool E.out rfl rfl rfl ?_); clear E; intro g u E0 hb0; have E := Lib.hid E0; clear E0 hb0) | ((with_reducible refine kn_box_func E.out rfl rfl rfl ?_); clear E; intro g u E0 hb0; have E := Lib.hid E0; clear E0 hb0))
      go_loopw [53] (fun ci wr => ∃ (j : Nat) (A1 : Option Addr) (c1 : Nat), j ≤ 2 ∧ ci = .int .i64 j ∧ (8 ≤ c1 ∧ c1 ≤ 9223372036854775807) ∧ Hid (Kn w [.row g4 22 [.slice A1 8 c1], .row g1 28 (blk d f Z)] [bsF A1 8 (LP (24 + 3 * j))] wr)) (fun ci _ => 2 - (intOf ci).toNat)
      case atStart => exact ⟨0, A1, c1, by omega, rfl, hc1, E⟩
      case round =>
        clear E hc1
        clear A1 c1
        obtain ⟨j, A1, c1, hj, rfl, hc1, E⟩ := hrel
        by_cases hlt : j < 2
        · have hj3 : (j : Int) < 2 := by omega
          have st1 := Lib.hid (ST.out j hlt)
          have hix := hIX.out j hlt
          rw [hT2.out j hlt] at hix
          clear ST SD SF SH SL HW4 hB1 hB2 hjl hIX hT2
          obtain ⟨va, hva⟩ : ∃ v, Z.getD (6 + j) 0 = v := ⟨_, rfl⟩
          rw [hva] at st1 hix
          clear hva
          go_wp2_with (first
            | (go_at_call 35; (with_reducible refine (put10 g4 A1 c1 E.out (24 + 3 * (j : Int)) 3 va (24 + 3 * j) 3 ?h1 ?h2 (LP (24 + 3 * j)) (LP (24 + 3 * (j + 1))) ?h3 ?h4 ?h5 ?h6 ?h7).mono ?_); (case h1 => first | rfl | omega); (case h2 => first | rfl | omega); (case h3 => exact List.mem_cons_self); (case h4 => omega); (case h5 => omega); (case h6 => exact hLl.out _); (case h7 => exact st1.out); rintro e w1 ⟨rfl, A2, c2, hc2, E0⟩; clear E; have E := Lib.hid E0; clear E0)
            | ((with_reducible refine kn_load E.out rfl rfl rfl rfl ?_)) | ((with_reducible refine kn_load_if E.out rfl rfl rfl rfl ?_)) | ((with_reducible refine kn_loads E.out rfl rfl rfl ?_ ?_); (focus (first | rfl | (simp only [i64s_length, u8s_length]; first | rfl | assumption | omega)))) | ((with_reducible refine kn_loads_if E.out rfl rfl rfl ?_ ?_); (focus (first | rfl | (simp only [i64s_length, u8s_length]; first | rfl | assumption | omega)))) | ((with_reducible refine kn_store1_int E.out rfl rfl rfl rfl rfl ?_); clear E; intro u E0; have E := Lib.hid E0; clear E0) | ((with_reducible refine kn_store1_slice E.out rfl rfl rfl rfl rfl ?_); clear E; intro u E0; have E := Lib.hid E0; clear E0) | ((with_reducible refine kn_store1_bool E.out rfl rfl rfl rfl rfl ?_); clear E; intro u E0; have E := Lib.hid E0; clear E0) | ((with_reducible refine kn_stores E.out rfl rfl rfl rfl rfl ?_ ?_ ?_); (focus (first | exact ⟨rfl, rfl⟩ | (simp only [i64s_length, u8s_length]; refine ⟨?_, ?_⟩ <;> first | rfl | assumption | omega))); (focus (first | exact i64s_one _ | exact u8s_one _ | simp [Value.oneCell'])); clear E; intro u E0; have E := Lib.hid E0; clear E0) | ((with_reducible refine kn_alloc E.out rfl rfl ?_); clear E; intro g u E0 hb0; have E := Lib.hid E0; clear E0 hb0) | ((with_reducible refine kn_box E.out rfl rfl rfl ?_); clear E; intro g u E0 hb0; have E := Lib.hid E0; clear E0 hb0) | ((with_reducible refine kn_box_int E.out rfl rfl rfl ?_); clear E; intro g u E0 hb0; have E := Lib.hid E0; clear E0 hb0) | ((with_reducible refine kn_box_slice E.out rfl rfl rfl ?_); clear E; intro g u E0 hb0; have E := Lib.hid E0; clear E0 hb0) | ((with_reducible refine kn_box_bool E.out rfl rfl rfl ?_); clear E; intro g u E0 hb0; have E := Lib.hid E0; clear E0 hb0) | ((with_reducible refine kn_box_func E.out rfl rfl rfl ?_); clear E; intro g u E0 hb0; have E := Lib.hid E0; clear E0 hb0))
          go_roundw
          case rel => exact ⟨j + 1, A2, c2, by omega, by go_num, hc2, E.out.part _ _ (List.Sublist.refl _) (by simp)⟩
          case measure => simp [intOf]; try omega
        · have hj3 : ¬ ((j : Int) < 2) := by omega
          have ej : j = 2 := by omega
          rw [ej] at E
          have hW2 := Lib.hid (fun c (hc : c < 16) => show ((Z.drop 8).take 16).getD c 0 = Z.getD (8 + c) 0 from by
            rw [List.getD_eq_getElem?_getD, List.getElem?_take, if_pos hc, List.getElem?_drop, ← List.getD_eq_getElem?_getD])
          have hWl : ((Z.drop 8).take 16).length = 16 := by rw [List.length_take, List.length_drop]; omega
          have hIW := Lib.hid (fun (j : Nat) (hj : j < 16) (u : World) => run_index_i64 (P := Tryd.prog) 26 3 16 Tryd.underlying26 Tryd.underlying3 (by kernel_rfl) ((Z.drop 8).take 16) j hj hWl u)
          obtain ⟨W2, hWe⟩ : ∃ W2, (Z.drop 8).take 16 = W2 := ⟨_, rfl⟩
          rw [hWe] at hW2 hIW
          have HWE := Lib.hid hWe
          clear ST hIX hT2 hWe hWl hlt hj ej
          go_wp2_with (first
            | (go_at_call 37; (with_reducible refine (hB1.out _).mono ?_); clear hB1; rintro e w1 ⟨rfl, rfl⟩)
            | (go_at_call 37; (with_reducible refine (hB2.out _).mono ?_); clear hB2; rintro e w1 ⟨rfl, rfl⟩)
            | (go_at_call 35; (with_reducible refine (put10 g4 A1 c1 E.out 30 1 ((d.toNat : Nat) : Int) 30 1 ?h1 ?h2 (LP 30) (LP 31) ?h3 ?h4 ?h5 ?h6 ?h7).mono ?_); (case h1 => first | rfl | omega); (case h2 => first | rfl | omega); (case h3 => exact List.mem_cons_self); (case h4 => omega); (case h5 => omega); (case h6 => exact hLl.out _); (case h7 => exact SD.out); rintro e w1 ⟨rfl, A2, c2, hc2, E0⟩; clear E; have E := Lib.hid E0; clear E0)
            | (go_at_call 35; (with_reducible refine (put10 g4 A2 c2 E.out 31 1 ((f.toNat : Nat) : Int) 31 1 ?h1 ?h2 (LP 31) (LP 32) ?h3 ?h4 ?h5 ?h6 ?h7).mono ?_); (case h1 => first | rfl | omega); (case h2 => first | rfl | omega); (case h3 => exact List.mem_cons_self); (case h4 => omega); (case h5 => omega); (case h6 => exact hLl.out _); (case h7 => exact SF.out); rintro e w1 ⟨rfl, A3, c3, hc3, E0⟩; clear E; have E := Lib.hid E0; clear E0)
            | ((with_reducible refine kn_bd (g := g1) E.out rfl rfl rfl ?_))
            | ((with_reducible refine kn_bf (g := g1) E.out rfl rfl rfl ?_))
            | ((with_reducible refine kn_bp (g := g1) (i := 8) E.out rfl rfl rfl ?h1 ?h2 ?_); (case h1 => rfl); (case h2 => omega); rw [HWE.out])
            | ((with_reducible refine kn_load E.out rfl rfl rfl rfl ?_)) | ((with_reducible refine kn_load_if E.out rfl rfl rfl rfl ?_)) | ((with_reducible refine kn_loads E.out rfl rfl rfl ?_ ?_); (focus (first | rfl | (simp only [i64s_length, u8s_length]; first | rfl | assumption | omega)))) | ((with_reducible refine kn_loads_if E.out rfl rfl rfl ?_ ?_); (focus (first | rfl | (simp only [i64s_length, u8s_length]; first | rfl | assumption | omega)))) | ((with_reducible refine kn_store1_int E.out rfl rfl rfl rfl rfl ?_); clear E; intro u E0; have E := Lib.hid E0; clear E0) | ((with_reducible refine kn_store1_slice E.out rfl rfl rfl rfl rfl ?_); clear E; intro u E0; have E := Lib.hid E0; clear E0) | ((with_reducible refine kn_store1_bool E.out rfl rfl rfl rfl rfl ?_); clear E; intro u E0; have E := Lib.hid E0; clear E0) | ((with_reducible refine kn_stores E.out rfl rfl rfl rfl rfl ?_ ?_ ?_); (focus (first | exact ⟨rfl, rfl⟩ | (simp only [i64s_length, u8s_length]; refine ⟨?_, ?_⟩ <;> first | rfl | assumption | omega))); (focus (first | exact i64s_one _ | exact u8s_one _ | simp [Value.oneCell'])); clear E; intro u E0; have E := Lib.hid E0; clear E0) | ((with_reducible refine kn_alloc E.out rfl rfl ?_); clear E; intro g u E0 hb0; have E := Lib.hid E0; clear E0 hb0) | ((with_reducible refine kn_box E.out rfl rfl rfl ?_); clear E; intro g u E0 hb0; have E := Lib.hid E0; clear E0 hb0) | ((with_reducible refine kn_box_int E.out rfl rfl rfl ?_); clear E; intro g u E0 hb0; have E := Lib.hid E0; clear E0 hb0) | ((with_reducible refine kn_box_slice E.out rfl rfl rfl ?_); clear E; intro g u E0 hb0; have E := Lib.hid E0; clear E0 hb0) | ((with_reducible refine kn_box_bool E.out rfl rfl rfl ?_); clear E; intro g u E0 hb0; have E := Lib.hid E0; clear E0 hb0) | ((with_reducible refine kn_box_func E.out rfl rfl rfl ?_); clear E; intro g u E0 hb0; have E := Lib.hid E0; clear E0 hb0))
          go_loopw [76, 11, 12] (fun ci hh ll wr => ∃ (m : Nat), m ≤ 16 ∧ ci = .int .i64 m ∧ hh = .int .i64 ((plN Z 1 m : Nat) : Int) ∧ ll = .int .i64 ((plN Z 0 m : Nat) : Int) ∧ Hid (Kn w [.row g4 22 [.slice A3 8 c3], .row g1 28 (blk d f Z)] [bsF A3 8 (LP 32)] wr)) (fun ci _ _ _ => 16 - (intOf ci).toNat)
          case atStart => exact ⟨0, by omega, rfl, by rw [plN_zero]; rfl, by rw [plN_zero]; rfl, E.out.part _ _ (List.Sublist.refl _) (by simp)⟩
          case round =>
            clear E
            obtain ⟨m, hm, rfl, rfl, rfl, E⟩ := hrel
            by_cases hlt : m < 16
            · have hm3 : (m : Int) < 16 := by omega
              have hix := hIW.out m hlt
              rw [hW2.out m hlt] at hix
              have hb := HW4.out m hlt
              have s1 := Lib.hid (plN_step Z 1 m hlt)
              have s0 := Lib.hid (plN_step Z 0 m hlt)
              have l1 := plN_lt Z 1 m
              have l0 := plN_lt Z 0 m
              have hpl := Lib.hid (fun u => place10_any m u hlt)
              have hps := pos_lt hlt
              clear SD SF SH SL HW4 hjl hIW hW2
              obtain ⟨v, hv⟩ : ∃ v : Nat, Z.getD (8 + m) 0 = (v : Int) := ⟨(Z.getD (8 + m) 0).toNat, by omega⟩
              rw [hv] at hb hix s1 s0
              have hv4 : v < 4 := by omega
              clear hv hb
              generalize pos m = q at *
              generalize plN Z 1 m = H at *
              generalize plN Z 0 m = L at *
              go_wp2_with (first
                | (go_at_call 28; (with_reducible refine (hpl.out _).mono ?_); clear hpl; rintro e w1 ⟨rfl, rfl⟩)
                | ((with_reducible refine kn_load E.out rfl rfl rfl rfl ?_)) | ((with_reducible refine kn_load_if E.out rfl rfl rfl rfl ?_)) | ((with_reducible refine kn_loads E.out rfl rfl rfl ?_ ?_); (focus (first | rfl | (simp only [i64s_length, u8s_length]; first | rfl | assumption | omega)))) | ((with_reducible refine kn_loads_if E.out rfl rfl rfl ?_ ?_); (focus (first | rfl | (simp only [i64s_length, u8s_length]; first | rfl | assumption | omega)))) | ((with_reducible refine kn_store1_int E.out rfl rfl rfl rfl rfl ?_); clear E; intro u E0; have E := Lib.hid E0; clear E0) | ((with_reducible refine kn_store1_slice E.out rfl rfl rfl rfl rfl ?_); clear E; intro u E0; have E := Lib.hid E0; clear E0) | ((with_reducible refine kn_store1_bool E.out rfl rfl rfl rfl rfl ?_); clear E; intro u E0; have E := Lib.hid E0; clear E0) | ((with_reducible refine kn_stores E.out rfl rfl rfl rfl rfl ?_ ?_ ?_); (focus (first | exact ⟨rfl, rfl⟩ | (simp only [i64s_length, u8s_length]; refine ⟨?_, ?_⟩ <;> first | rfl | assumption | omega))); (focus (first | exact i64s_one _ | exact u8s_one _ | simp [Value.oneCell'])); clear E; intro u E0; have E := Lib.hid E0; clear E0) | ((with_reducible refine kn_alloc E.out rfl rfl ?_); clear E; intro g u E0 hb0; have E := Lib.hid E0; clear E0 hb0) | ((with_reducible refine kn_box E.out rfl rfl rfl ?_); clear E; intro g u E0 hb0; have E := Lib.hid E0; clear E0 hb0) | ((with_reducible refine kn_box_int E.out rfl rfl rfl ?_); clear E; intro g u E0 hb0; have E := Lib.hid E0; clear E0 hb0) | ((with_reducible refine kn_box_slice E.out rfl rfl rfl ?_); clear E; intro g u E0 hb0; have E := Lib.hid E0; clear E0 hb0) | ((with_reducible refine kn_box_bool E.out rfl rfl rfl ?_); clear E; intro g u E0 hb0; have E := Lib.hid E0; clear E0 hb0) | ((with_reducible refine kn_box_func E.out rfl rfl rfl ?_); clear E; intro g u E0 hb0; have E := Lib.hid E0; clear E0 hb0))
              go_roundw
              case rel =>
                refine ⟨m + 1, by omega, by go_num, ?_, ?_, E⟩
                · rw [or_up1 H v q (by omega) hv4 hps]
                  exact congrArg (fun z : Nat => Value.int .i64 (z : Int)) s1.out
                · rw [or_up0 L v q (by omega) hv4 hps]
                  exact congrArg (fun z : Nat => Value.int .i64 (z : Int)) s0.out
              case measure => simp [intOf]; try omega
            · have hm3 : ¬ ((m : Int) < 16) := by omega
              have em : m = 16 := by omega
              have e1 : plN Z 1 m = plN Z 1 16 := by rw [em]
              have e0 : plN Z 0 m = plN Z 0 16 := by rw [em]
              rw [e1, e0]
              clear SD SF HW4 hIW hW2 hlt hm em e1 e0
              generalize plN Z 1 16 = H at *
              generalize plN Z 0 16 = L at *
              go_wp2_with (first
                | (go_at_call 35; (with_reducible refine (put10 g4 A3 c3 E.out 32 16 (H : Int) 32 16 ?h1 ?h2 (LP 32) (LP 48) ?h3 ?h4 ?h5 ?h6 ?h7).mono ?_); (case h1 => first | rfl | omega); (case h2 => first | rfl | omega); (case h3 => exact List.mem_cons_self); (case h4 => omega); (case h5 => omega); (case h6 => exact hLl.out _); (case h7 => exact SH.out); rintro e w1 ⟨rfl, A4, c4, hc4, E0⟩; clear E; have E := Lib.hid E0; clear E0)
                | (go_at_call 35; (with_reducible refine (put10 g4 A4 c4 E.out 48 16 (L : Int) 48 16 ?h1 ?h2 (LP 48) JB ?h3 ?h4 ?h5 ?h6 ?h7).mono ?_); (case h1 => first | rfl | omega); (case h2 => first | rfl | omega); (case h3 => exact List.mem_cons_self); (case h4 => omega); (case h5 => omega); (case h6 => exact hLl.out _); (case h7 => exact SL.out); rintro e w1 ⟨rfl, A5, c5, hc5, E0⟩; clear E; have E := Lib.hid E0; clear E0)
                | ((with_reducible refine kn_load E.out rfl rfl rfl rfl ?_)) | ((with_reducible refine kn_load_if E.out rfl rfl rfl rfl ?_)) | ((with_reducible refine kn_loads E.out rfl rfl rfl ?_ ?_); (focus (first | rfl | (simp only [i64s_length, u8s_length]; first | rfl | assumption | omega)))) | ((with_reducible refine kn_loads_if E.out rfl rfl rfl ?_ ?_); (focus (first | rfl | (simp only [i64s_length, u8s_length]; first | rfl | assumption | omega)))) | ((with_reducible refine kn_store1_int E.out rfl rfl rfl rfl rfl ?_); clear E; intro u E0; have E := Lib.hid E0; clear E0) | ((with_reducible refine kn_store1_slice E.out rfl rfl rfl rfl rfl ?_); clear E; intro u E0; have E := Lib.hid E0; clear E0) | ((with_reducible refine kn_store1_bool E.out rfl rfl rfl rfl rfl ?_); clear E; intro u E0; have E := Lib.hid E0; clear E0) | ((with_reducible refine kn_stores E.out rfl rfl rfl rfl rfl ?_ ?_ ?_); (focus (first | exact ⟨rfl, rfl⟩ | (simp only [i64s_length, u8s_length]; refine ⟨?_, ?_⟩ <;> first | rfl | assumption | omega))); (focus (first | exact i64s_one _ | exact u8s_one _ | simp [Value.oneCell'])); clear E; intro u E0; have E := Lib.hid E0; clear E0) | ((with_reducible refine kn_alloc E.out rfl rfl ?_); clear E; intro g u E0 hb0; have E := Lib.hid E0; clear E0 hb0) | ((with_reducible refine kn_box E.out rfl rfl rfl ?_); clear E; intro g u E0 hb0; have E := Lib.hid E0; clear E0 hb0) | ((with_reducible refine kn_box_int E.out rfl rfl rfl ?_); clear E; intro g u E0 hb0; have E := Lib.hid E0; clear E0 hb0) | ((with_reducible refine kn_box_slice E.out rfl rfl rfl ?_); clear E; intro g u E0 hb0; have E := Lib.hid E0; clear E0 hb0) | ((with_reducible refine kn_box_bool E.out rfl rfl rfl ?_); clear E; intro g u E0 hb0; have E := Lib.hid E0; clear E0 hb0) | ((with_reducible refine kn_box_func E.out rfl rfl rfl ?_); clear E; intro g u E0 hb0; have E := Lib.hid E0; clear E0 hb0))
              go_ret2
              exact ⟨A5, 8, c5, rfl, E.out.bs (by simp), hc5.1, hc5.2, E.out.bel⟩
theorem bjoin10 (d f : Bool) (Z : List Int) (w : World) (hZ : Z.length = 24) : Calls Tryd.prog 17 #[.agg (blk d f Z).toArray] w (Laid w (jV d f Z) (jE d Z)) := by
  by_cases h : okP d Z
  · exact join_ok d f Z w hZ h
  · exact join_no d f Z w hZ h
end Go.Proofs.YtjlkdmdepdoanaaDoor
