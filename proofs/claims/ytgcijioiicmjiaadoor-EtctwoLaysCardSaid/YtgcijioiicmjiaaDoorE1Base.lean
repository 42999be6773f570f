/- The two colours of a block: the program's. -/
import Derived.Test.YtgcijioiicmjiaaDoorE1Part
set_option linter.all false
namespace Go.Proofs.YtgcijioiicmjiaaDoor
open Go.RowKit
open Bi Lv Eo

namespace Eo
theorem wideV_mod (v : Int) (w : Nat) : wideV (v % ((2 ^ w : Nat) : Int)) (w : Int) = wideV v (w : Int) := by
  unfold wideV
  have e : ((2 ^ w : Nat) : Int) = (2 : Int) ^ (w : Int).toNat := by simp
  rw [e, Int.emod_emod_of_dvd _ (Int.dvd_refl _)]
def zk (k : Nat) : List Int := if k = 0 then [0, 0, 0, 0, 0, 0, 0, 0] else if k = 1 then [0, 0, 0, 255, 0, 0, 0, 0] else [0, 0, 0, 255, 0, 0, 0, 255]
theorem zk_length (k : Nat) : (zk k).length = 8 := by unfold zk; split; rfl; split <;> rfl
theorem zk_set (k : Nat) (h : k < 2) : (zk k).set (k * 4 + 3) 255 = zk (k + 1) := by
  obtain rfl | rfl : k = 0 ∨ k = 1 := by omega
  all_goals rfl
end Eo

set_option maxHeartbeats 8000000 in
set_option maxRecDepth 100000 in
theorem bases_true (f : Bool) (Z : List Int) (w : World) (hZ : Z.length = 24) (h : okP true Z) :
    Calls Tryd.prog 22 #[.agg (blk true f Z).toArray] w fun e w' => e = .returned (.tuple #[arr (baV true Z), .int .i64 ((farP true Z 3 : Nat) : Int)]) ∧ Below w.heap.size w w' := by
  have E := Lib.hid (Kn.start w)
  have hW := Lib.hid (fun u => show Calls Tryd.prog 49 #[.bool true] u (fun e w' => e = .returned (.tuple #[.int .i64 5, .int .i64 3]) ∧ u = w') from widths_any true u)
  have hzl := Lib.hid zk_length
  have hz0 := Lib.hid (show zk 0 = [0, 0, 0, 0, 0, 0, 0, 0] from rfl)
  have hzs := Lib.hid zk_set
  have h0 := Lib.hid (show zk 2 = bS true Z (sU 0) from (bS_none true Z _ fun j hj => by simp [sU]).symm)
  have hbl := Lib.hid (fun k => bS_length true Z (sU k))
  have hbs := Lib.hid (fun c (hc : c < 3) (a b : Int) (ha : a = wideV (Z.getD c 0) 5) (hb : b = wideV (seV true Z c) 5) => show ((bS true Z (sU c)).set c a).set (4 + c) b = bS true Z (sU (c + 1)) from
    bS_set true Z hc a b ha hb fun j hj => by simp only [sU]; rw [Bool.eq_iff_iff]; simp only [Bool.or_eq_true, decide_eq_true_eq]; omega)
  have hbe := Lib.hid (show bS true Z (sU 3) = baV true Z from bS_full true Z _ fun j hj => by simpa [sU] using hj)
  have hba := Lib.hid (baV_length true Z)
  have hse := Lib.hid (fun c => show seV true Z c = Z.getD (3 + c) 0 + Z.getD c 0 from rfl)
  have hoa := Lib.hid (fun c (hc : c < 3) => show 0 ≤ Z.getD c 0 ∧ Z.getD c 0 < 32 from ok_a h hc)
  have hob := Lib.hid (fun c (hc : c < 3) => (ok_b h hc).1 rfl)
  have hoo := Lib.hid (fun c (b : Bool) (hb : decide (0 ≤ seV true Z c ∧ seV true Z c < 32) = b) => show oob true Z c = !b from by unfold oob; rw [hb]; rfl)
  have hfs := Lib.hid (fun c => show farP true Z (c + 1) = if farP true Z c = 3 ∧ oob true Z c = true then c else farP true Z c from rfl)
  have hf0 := Lib.hid (show farP true Z 0 = 3 from rfl)
  have hfl := Lib.hid (farP_le true Z)
  have hA3 : ((Z.drop 0).take 3).length = 3 := by rw [List.length_take, List.length_drop]; omega
  have hA2 := Lib.hid (fun c (hc : c < 3) => show ((Z.drop 0).take 3).getD c 0 = Z.getD c 0 from by
    rw [List.getD_eq_getElem?_getD, List.getElem?_take, if_pos hc, List.getElem?_drop, ← List.getD_eq_getElem?_getD, Nat.zero_add])
  have hIX := Lib.hid (fun (j : Nat) (hj : j < 3) (u : World) => run_index_i64 (P := Tryd.prog) 34 3 3 Tryd.underlying34 Tryd.underlying3 (by kernel_rfl) ((Z.drop 0).take 3) j hj hA3 u)
  obtain ⟨A3, hAe⟩ : ∃ A3, (Z.drop 0).take 3 = A3 := ⟨_, rfl⟩
  rw [hAe] at hA2 hIX
  have HAE := Lib.hid hAe
  clear h hAe hA3
  generalize farP true Z = FP at *
  generalize oob true Z = OB at *
  generalize seV true Z = SE at *
  generalize bS true Z = BS at *
  generalize baV true Z = BA at *
  generalize zk = ZK at *
  go_enter Tryd.func22, Tryd.ntmps22
  go_wp2_with (first | ((with_reducible refine kn_load E.out rfl rfl rfl rfl ?_)) | ((with_reducible refine kn_load_if E.out rfl rfl rfl rfl ?_)) | ((with_reducible refine kn_loads E.out rfl rfl rfl ?_ ?_); (focus (first | rfl | (simp only [i64s_length, u8s_length]; first | rfl | assumption | omega)))) | ((with_reducible refine kn_loads_if E.out rfl rfl rfl ?_ ?_); (focus (first | rfl | (simp only [i64s_length, u8s_length]; first | rfl | assumption | omega)))) | ((with_reducible refine kn_stores E.out rfl rfl rfl rfl rfl ?_ ?_ ?_); (focus (first | exact ⟨rfl, rfl⟩ | (simp only [i64s_length, u8s_length]; refine ⟨?_, ?_⟩ <;> first | rfl | assumption | omega))); (focus (first | exact i64s_one _ | exact u8s_one _ | simp [Value.oneCell'])); clear E; intro u E0; have E := Lib.hid E0; clear E0) | ((with_reducible refine kn_alloc (o := ⟨some 1, _, _, _, _, _⟩) E.out rfl rfl ?_); clear E; intro g1 u E0 hb0; have E := Lib.hid E0; clear E0 hb0) | ((with_reducible refine kn_box (o := ⟨some 1, _, _, _, _, _⟩) E.out rfl rfl rfl ?_); clear E; intro g1 u E0 hb0; have E := Lib.hid E0; clear E0 hb0) | ((with_reducible refine kn_box_int (o := ⟨some 1, _, _, _, _, _⟩) E.out rfl rfl rfl ?_); clear E; intro g1 u E0 hb0; have E := Lib.hid E0; clear E0 hb0) | ((with_reducible refine kn_box_slice (o := ⟨some 1, _, _, _, _, _⟩) E.out rfl rfl rfl ?_); clear E; intro g1 u E0 hb0; have E := Lib.hid E0; clear E0 hb0) | ((with_reducible refine kn_box_bool (o := ⟨some 1, _, _, _, _, _⟩) E.out rfl rfl rfl ?_); clear E; intro g1 u E0 hb0; have E := Lib.hid E0; clear E0 hb0) | ((with_reducible refine kn_box_func (o := ⟨some 1, _, _, _, _, _⟩) E.out rfl rfl rfl ?_); clear E; intro g1 u E0 hb0; have E := Lib.hid E0; clear E0 hb0) | ((with_reducible refine kn_alloc (o := ⟨some 2, _, _, _, _, _⟩) E.out rfl rfl ?_); clear E; intro g2 u E0 hb0; have E := Lib.hid E0; clear E0 hb0) | ((with_reducible refine kn_box (o := ⟨some 2, _, _, _, _, _⟩) E.out rfl rfl rfl ?_); clear E; intro g2 u E0 hb0; have E := Lib.hid E0; clear E0 hb0) | ((with_reducible refine kn_box_int (o := ⟨some 2, _, _, _, _, _⟩) E.out rfl rfl rfl ?_); clear E; intro g2 u E0 hb0; have E := Lib.hid E0; clear E0 hb0) | ((with_reducible refine kn_box_slice (o := ⟨some 2, _, _, _, _, _⟩) E.out rfl rfl rfl ?_); clear E; intro g2 u E0 hb0; have E := Lib.hid E0; clear E0 hb0) | ((with_reducible refine kn_box_bool (o := ⟨some 2, _, _, _, _, _⟩) E.out rfl rfl rfl ?_); clear E; intro g2 u E0 hb0; have E := Lib.hid E0; clear E0 hb0) | ((with_reducible refine kn_box_func (o := ⟨some 2, _, _, _, _, _⟩) E.out rfl rfl rfl ?_); clear E; intro g2 u E0 hb0; have E := Lib.hid E0; clear E0 hb0) | ((with_reducible refine kn_alloc (o := ⟨some 4, _, _, _, _, _⟩) E.out rfl rfl ?_); clear E; intro g4 u E0 hb0; have E := Lib.hid E0; clear E0 hb0) | ((with_reducible refine kn_box (o := ⟨some 4, _, _, _, _, _⟩) E.out rfl rfl rfl ?_); clear E; intro g4 u E0 hb0; have E := Lib.hid E0; clear E0 hb0) | ((with_reducible refine kn_box_int (o := ⟨some 4, _, _, _, _, _⟩) E.out rfl rfl rfl ?_); clear E; intro g4 u E0 hb0; have E := Lib.hid E0; clear E0 hb0) | ((with_reducible refine kn_box_slice (o := ⟨some 4, _, _, _, _, _⟩) E.out rfl rfl rfl ?_); clear E; intro g4 u E0 hb0; have E := Lib.hid E0; clear E0 hb0) | ((with_reducible refine kn_box_bool (o := ⟨some 4, _, _, _, _, _⟩) E.out rfl rfl rfl ?_); clear E; intro g4 u E0 hb0; have E := Lib.hid E0; clear E0 hb0) | ((with_reducible refine kn_box_func (o := ⟨some 4, _, _, _, _, _⟩) E.out rfl rfl rfl ?_); clear E; intro g4 u E0 hb0; have E := Lib.hid E0; clear E0 hb0))
  go_loopw [12] (fun ci wr => ∃ k : Nat, k ≤ 2 ∧ ci = .int .i64 k ∧ Hid (Kn w [.row g4 51 (i64s (ZK k)), .row g2 51 (i64s [0, 0, 0, 0, 0, 0, 0, 0]), .row g1 48 (blk true f Z)] [] wr)) (fun ci _ => 2 - (intOf ci).toNat)
  case atStart => exact ⟨0, by omega, rfl, by rw [hz0.out]; exact E⟩
  case round =>
    clear E
    obtain ⟨k, hk, rfl, E⟩ := hrel
    have hl := hzl.out k
    by_cases hlt : k < 2
    · have hk3 : (k : Int) < 2 := by omega
      have hS := Lib.hid (hzs.out k hlt)
      clear hzl hzs h0 hbl hbs hbe hse hoa hob hA2 hIX hz0
      generalize ZK k = Zk at *
      go_wp2_with (first
        | ((with_reducible refine kn_storei (g := g4) (i := k * 4 + 3) E.out rfl rfl rfl rfl rfl ?hi ?_); (case hi => omega); clear E; intro u E0; have E := Lib.hid E0; clear E0)
        | ((with_reducible refine kn_load E.out rfl rfl rfl rfl ?_)) | ((with_reducible refine kn_load_if E.out rfl rfl rfl rfl ?_)) | ((with_reducible refine kn_loads E.out rfl rfl rfl ?_ ?_); (focus (first | rfl | (simp only [i64s_length, u8s_length]; first | rfl | assumption | omega)))) | ((with_reducible refine kn_loads_if E.out rfl rfl rfl ?_ ?_); (focus (first | rfl | (simp only [i64s_length, u8s_length]; first | rfl | assumption | omega)))) | ((with_reducible refine kn_stores E.out rfl rfl rfl rfl rfl ?_ ?_ ?_); (focus (first | exact ⟨rfl, rfl⟩ | (simp only [i64s_length, u8s_length]; refine ⟨?_, ?_⟩ <;> first | rfl | assumption | omega))); (focus (first | exact i64s_one _ | exact u8s_one _ | simp [Value.oneCell'])); clear E; intro u E0; have E := Lib.hid E0; clear E0))
      go_roundw
      case rel => exact ⟨k + 1, by omega, by go_num, by rw [← hS.out]; exact E⟩
      case measure => simp [intOf]; try omega
    · have hk3 : ¬ ((k : Int) < 2) := by omega
      have ek : k = 2 := by omega
      rw [ek, h0.out] at E
      clear hzl hzs h0 hlt hk ek hl hz0
      go_wp2_with (first
        | (go_at_call 49; refine (hW.out _).mono ?_; clear hW; rintro e w1 ⟨rfl, rfl⟩)
        | ((with_reducible refine kn_bd (g := g1) E.out rfl rfl rfl ?_))
        | ((with_reducible refine kn_bp (g := g1) (i := 0) E.out rfl rfl rfl ?h1 ?h2 ?_); (case h1 => rfl); (case h2 => omega); rw [HAE.out])
        | ((with_reducible refine kn_load E.out rfl rfl rfl rfl ?_)) | ((with_reducible refine kn_load_if E.out rfl rfl rfl rfl ?_)) | ((with_reducible refine kn_loads E.out rfl rfl rfl ?_ ?_); (focus (first | rfl | (simp only [i64s_length, u8s_length]; first | rfl | assumption | omega)))) | ((with_reducible refine kn_loads_if E.out rfl rfl rfl ?_ ?_); (focus (first | rfl | (simp only [i64s_length, u8s_length]; first | rfl | assumption | omega)))) | ((with_reducible refine kn_stores E.out rfl rfl rfl rfl rfl ?_ ?_ ?_); (focus (first | exact ⟨rfl, rfl⟩ | (simp only [i64s_length, u8s_length]; refine ⟨?_, ?_⟩ <;> first | rfl | assumption | omega))); (focus (first | exact i64s_one _ | exact u8s_one _ | simp [Value.oneCell'])); clear E; intro u E0; have E := Lib.hid E0; clear E0))
      go_loopw [27, 8] (fun ci ff wr => ∃ k : Nat, k ≤ 3 ∧ ci = .int .i64 k ∧ ff = .int .i64 ((FP k : Nat) : Int) ∧ Hid (Kn w [.row g4 51 (i64s (BS (sU k))), .row g2 51 (i64s [0, 0, 0, 0, 0, 0, 0, 0]), .row g1 48 (blk true f Z)] [] wr)) (fun ci _ _ => 3 - (intOf ci).toNat)
      case atStart => exact ⟨0, by omega, rfl, by rw [hf0.out]; rfl, E⟩
      case round =>
        clear E
        obtain ⟨k, hk, rfl, rfl, E⟩ := hrel
        have hl := hbl.out k
        by_cases hlt : k < 3
        · have hk3 : (k : Int) < 3 := by omega
          have hix := hIX.out k hlt
          rw [hA2.out k hlt] at hix
          have ha := hoa.out k hlt
          have hb := hob.out k hlt
          have hs := Lib.hid (hbs.out k hlt)
          have hsv := hse.out k
          obtain ⟨va, hva⟩ : ∃ v, Z.getD k 0 = v := ⟨_, rfl⟩
          obtain ⟨vb, hvb⟩ : ∃ v, Z.getD (3 + k) 0 = v := ⟨_, rfl⟩
          rw [hva] at ha hix hs
          rw [hvb] at hb
          rw [hva, hvb] at hsv
          have HVB := Lib.hid hvb
          have hWa := Lib.hid (fun u => wide_any va 5 u)
          have hmo := Lib.hid (wideV_mod va 5)
          have hLa := Lib.hid (fun u => lowest_any va 5 5 rfl u (by omega))
          have hma := low_is (n := va) (m := 5) (by have e : ((2 ^ 5 : Nat) : Int) = 32 := rfl; rw [e]; omega)
          rw [hma] at hLa
          have hLs := Lib.hid (fun u => lowest_any (SE k) 5 5 rfl u (by omega))
          have hWs := Lib.hid (fun u => show Calls Tryd.prog 53 #[.int .i64 (SE k % ((2 ^ 5 : Nat) : Int)), .int .i64 5] u (fun e w' => e = .returned (.int .i64 (wideV (SE k) 5)) ∧ u = w') from by
            have q := wide_any (SE k % ((2 ^ 5 : Nat) : Int)) 5 u
            rw [show wideV (SE k % ((2 ^ 5 : Nat) : Int)) 5 = wideV (SE k) 5 from wideV_mod (SE k) 5] at q
            exact q)
          obtain ⟨sm, hsm⟩ : ∃ v, SE k % ((2 ^ 5 : Nat) : Int) = v := ⟨_, rfl⟩
          rw [hsm] at hLs hWs
          clear hbl hbs hbe hse hoa hob hA2 hIX hsm hma hmo hva hvb HAE hba
          replace hs := Lib.hid (hs.out _ _ rfl rfl)
          generalize wideV va 5 = x1 at *
          generalize wideV (SE k) 5 = x2 at *
          generalize BS (sU k) = B0 at *
          have hFb := hfl.out k (by omega)
          have hfk := Lib.hid (hfs.out k)
          have hok := hoo.out k
          obtain ⟨sv, hsve⟩ : ∃ v, SE k = v := ⟨_, rfl⟩
          rw [hsve] at hsv hLs hok
          clear hfs hfl hoo hsve
          have hsvb : -4 ≤ sv ∧ sv < 36 := by omega
          have hadd : vb + va = sv := hsv.symm
          replace hadd := Lib.hid hadd
          clear hsv
          by_cases h3 : FP k = 3
          · have hF3 := Lib.hid (show ((FP k : Nat) : Int) = 3 from by omega)
            by_cases hin : 0 ≤ sv ∧ sv < 32
            · have hwi := Lib.hid (fun u => show Calls Tryd.prog 52 #[.int .i64 sv, .int .i64 0, .int .i64 5] u (fun e w' => e = .returned (.bool true) ∧ u = w') from by
                have t := within_any sv 0 5 5 rfl u (by omega) (by omega) (by omega)
                rw [show decide (0 ≤ sv ∧ sv < 0 + ((2 ^ 5 : Nat) : Int)) = true from by exact decide_eq_true (by simpa using hin)] at t
                exact t)
              have ho := hok true (decide_eq_true hin)
              have hfn := Lib.hid (show FP (k + 1) = 3 from by rw [hfk.out, ho]; rw [if_neg (by simp)]; exact h3)
              clear hok ho hfk hin
              rw [hF3.out]
              go_wp2_with (first
                | (go_at_call 52; rw [hadd.out]; (with_reducible refine (hwi.out _).mono ?_); rintro e w1 ⟨rfl, rfl⟩)
                | (go_at_call 54; (with_reducible refine (hLa.out _).mono ?_); rintro e w1 ⟨rfl, rfl⟩)
                | (go_at_call 54; (try rw [hadd.out]); (with_reducible refine (hLs.out _).mono ?_); rintro e w1 ⟨rfl, rfl⟩)
                | (go_at_call 53; (with_reducible refine (hWa.out _).mono ?_); rintro e w1 ⟨rfl, rfl⟩)
                | (go_at_call 53; (with_reducible refine (hWs.out _).mono ?_); rintro e w1 ⟨rfl, rfl⟩)
                | ((with_reducible refine kn_bd (g := g1) E.out rfl rfl rfl ?_))
                | (((with_reducible refine kn_bz (i := 3 + k) (g := g1) E.out rfl rfl rfl ?h1 ?h2 ?_); (case h1 => omega); (case h2 => omega); rw [HVB.out]))
                | ((with_reducible refine kn_storei (g := g4) (i := k) E.out rfl rfl rfl rfl rfl ?hi ?_); (case hi => omega); clear E; intro u E0; have E := Lib.hid E0; clear E0)
                | ((with_reducible refine kn_storei (g := g4) (i := 4 + k) E.out rfl rfl rfl rfl rfl ?hi ?_); (case hi => (try simp only [List.length_set]); omega); clear E; intro u E0; have E := Lib.hid E0; clear E0)
                | ((with_reducible refine kn_load E.out rfl rfl rfl rfl ?_)) | ((with_reducible refine kn_load_if E.out rfl rfl rfl rfl ?_)) | ((with_reducible refine kn_loads E.out rfl rfl rfl ?_ ?_); (focus (first | rfl | (simp only [i64s_length, u8s_length]; first | rfl | assumption | omega)))) | ((with_reducible refine kn_loads_if E.out rfl rfl rfl ?_ ?_); (focus (first | rfl | (simp only [i64s_length, u8s_length]; first | rfl | assumption | omega)))) | ((with_reducible refine kn_stores E.out rfl rfl rfl rfl rfl ?_ ?_ ?_); (focus (first | exact ⟨rfl, rfl⟩ | (simp only [i64s_length, u8s_length]; refine ⟨?_, ?_⟩ <;> first | rfl | assumption | omega))); (focus (first | exact i64s_one _ | exact u8s_one _ | simp [Value.oneCell'])); clear E; intro u E0; have E := Lib.hid E0; clear E0))
              go_roundw
              case rel => exact ⟨k + 1, by omega, by go_num, by rw [hfn.out]; rfl, by rw [← hs.out]; exact E⟩
              case measure => simp [intOf]; try omega
            · have hwi := Lib.hid (fun u => show Calls Tryd.prog 52 #[.int .i64 sv, .int .i64 0, .int .i64 5] u (fun e w' => e = .returned (.bool false) ∧ u = w') from by
                have t := within_any sv 0 5 5 rfl u (by omega) (by omega) (by omega)
                rw [show decide (0 ≤ sv ∧ sv < 0 + ((2 ^ 5 : Nat) : Int)) = false from by exact decide_eq_false (by simpa using hin)] at t
                exact t)
              have ho := hok false (decide_eq_false hin)
              have hfn := Lib.hid (show FP (k + 1) = k from by rw [hfk.out, ho]; rw [if_pos ⟨h3, rfl⟩])
              clear hok ho hfk hin
              rw [hF3.out]
              go_wp2_with (first
                | (go_at_call 52; rw [hadd.out]; (with_reducible refine (hwi.out _).mono ?_); rintro e w1 ⟨rfl, rfl⟩)
                | (go_at_call 54; (with_reducible refine (hLa.out _).mono ?_); rintro e w1 ⟨rfl, rfl⟩)
                | (go_at_call 54; (try rw [hadd.out]); (with_reducible refine (hLs.out _).mono ?_); rintro e w1 ⟨rfl, rfl⟩)
                | (go_at_call 53; (with_reducible refine (hWa.out _).mono ?_); rintro e w1 ⟨rfl, rfl⟩)
                | (go_at_call 53; (with_reducible refine (hWs.out _).mono ?_); rintro e w1 ⟨rfl, rfl⟩)
                | ((with_reducible refine kn_bd (g := g1) E.out rfl rfl rfl ?_))
                | (((with_reducible refine kn_bz (i := 3 + k) (g := g1) E.out rfl rfl rfl ?h1 ?h2 ?_); (case h1 => omega); (case h2 => omega); rw [HVB.out]))
                | ((with_reducible refine kn_storei (g := g4) (i := k) E.out rfl rfl rfl rfl rfl ?hi ?_); (case hi => omega); clear E; intro u E0; have E := Lib.hid E0; clear E0)
                | ((with_reducible refine kn_storei (g := g4) (i := 4 + k) E.out rfl rfl rfl rfl rfl ?hi ?_); (case hi => (try simp only [List.length_set]); omega); clear E; intro u E0; have E := Lib.hid E0; clear E0)
                | ((with_reducible refine kn_load E.out rfl rfl rfl rfl ?_)) | ((with_reducible refine kn_load_if E.out rfl rfl rfl rfl ?_)) | ((with_reducible refine kn_loads E.out rfl rfl rfl ?_ ?_); (focus (first | rfl | (simp only [i64s_length, u8s_length]; first | rfl | assumption | omega)))) | ((with_reducible refine kn_loads_if E.out rfl rfl rfl ?_ ?_); (focus (first | rfl | (simp only [i64s_length, u8s_length]; first | rfl | assumption | omega)))) | ((with_reducible refine kn_stores E.out rfl rfl rfl rfl rfl ?_ ?_ ?_); (focus (first | exact ⟨rfl, rfl⟩ | (simp only [i64s_length, u8s_length]; refine ⟨?_, ?_⟩ <;> first | rfl | assumption | omega))); (focus (first | exact i64s_one _ | exact u8s_one _ | simp [Value.oneCell'])); clear E; intro u E0; have E := Lib.hid E0; clear E0))
              go_roundw
              case rel => exact ⟨k + 1, by omega, by go_num, by rw [hfn.out], by rw [← hs.out]; exact E⟩
              case measure => simp [intOf]; try omega
          · have hF3 := Lib.hid (show ¬ ((FP k : Nat) : Int) = 3 from by omega)
            have hfn := Lib.hid (show FP (k + 1) = FP k from by rw [hfk.out, if_neg (fun t => h3 t.1)])
            have hF4 := hF3.out
            clear hok hfk
            go_wp2_with (first
              | (go_at_call 54; (with_reducible refine (hLa.out _).mono ?_); rintro e w1 ⟨rfl, rfl⟩)
              | (go_at_call 54; (try rw [hadd.out]); (with_reducible refine (hLs.out _).mono ?_); rintro e w1 ⟨rfl, rfl⟩)
              | (go_at_call 53; (with_reducible refine (hWa.out _).mono ?_); rintro e w1 ⟨rfl, rfl⟩)
              | (go_at_call 53; (with_reducible refine (hWs.out _).mono ?_); rintro e w1 ⟨rfl, rfl⟩)
              | ((with_reducible refine kn_bd (g := g1) E.out rfl rfl rfl ?_))
              | (((with_reducible refine kn_bz (i := 3 + k) (g := g1) E.out rfl rfl rfl ?h1 ?h2 ?_); (case h1 => omega); (case h2 => omega); rw [HVB.out]))
              | ((with_reducible refine kn_storei (g := g4) (i := k) E.out rfl rfl rfl rfl rfl ?hi ?_); (case hi => omega); clear E; intro u E0; have E := Lib.hid E0; clear E0)
              | ((with_reducible refine kn_storei (g := g4) (i := 4 + k) E.out rfl rfl rfl rfl rfl ?hi ?_); (case hi => (try simp only [List.length_set]); omega); clear E; intro u E0; have E := Lib.hid E0; clear E0)
              | ((with_reducible refine kn_load E.out rfl rfl rfl rfl ?_)) | ((with_reducible refine kn_load_if E.out rfl rfl rfl rfl ?_)) | ((with_reducible refine kn_loads E.out rfl rfl rfl ?_ ?_); (focus (first | rfl | (simp only [i64s_length, u8s_length]; first | rfl | assumption | omega)))) | ((with_reducible refine kn_loads_if E.out rfl rfl rfl ?_ ?_); (focus (first | rfl | (simp only [i64s_length, u8s_length]; first | rfl | assumption | omega)))) | ((with_reducible refine kn_stores E.out rfl rfl rfl rfl rfl ?_ ?_ ?_); (focus (first | exact ⟨rfl, rfl⟩ | (simp only [i64s_length, u8s_length]; refine ⟨?_, ?_⟩ <;> first | rfl | assumption | omega))); (focus (first | exact i64s_one _ | exact u8s_one _ | simp [Value.oneCell'])); clear E; intro u E0; have E := Lib.hid E0; clear E0))
            go_roundw
            case rel => exact ⟨k + 1, by omega, by go_num, by rw [hfn.out], by rw [← hs.out]; exact E⟩
            case measure => simp [intOf]; try omega

        · have hk3 : ¬ ((k : Int) < 3) := by omega
          have ek : k = 3 := by omega
          rw [ek, hbe.out] at E
          have ef : FP k = FP 3 := by rw [ek]
          rw [ef]
          have hbl' := hba.out
          clear hbl hbs hbe hse hoa hob hA2 hIX HAE hlt hk ek hl hba hoo hfs hfl ef
          go_wp2_with (first
            | ((with_reducible refine kn_loads (g := g4) E.out rfl rfl rfl ?hl ?_); (case hl => rw [i64s_length]; exact hbl'))
            | ((with_reducible refine kn_stores (g := g2) (vs := i64s BA) E.out rfl rfl rfl rfl rfl ?hl ?h1 ?_); (case hl => exact ⟨rfl, by rw [i64s_length]; exact hbl'⟩); (case h1 => exact i64s_one _); clear E; intro u E0; have E := Lib.hid E0; clear E0)
            | ((with_reducible refine kn_load E.out rfl rfl rfl rfl ?_)) | ((with_reducible refine kn_load_if E.out rfl rfl rfl rfl ?_)) | ((with_reducible refine kn_loads E.out rfl rfl rfl ?_ ?_); (focus (first | rfl | (simp only [i64s_length, u8s_length]; first | rfl | assumption | omega)))) | ((with_reducible refine kn_loads_if E.out rfl rfl rfl ?_ ?_); (focus (first | rfl | (simp only [i64s_length, u8s_length]; first | rfl | assumption | omega)))) | ((with_reducible refine kn_stores E.out rfl rfl rfl rfl rfl ?_ ?_ ?_); (focus (first | exact ⟨rfl, rfl⟩ | (simp only [i64s_length, u8s_length]; refine ⟨?_, ?_⟩ <;> first | rfl | assumption | omega))); (focus (first | exact i64s_one _ | exact u8s_one _ | simp [Value.oneCell'])); clear E; intro u E0; have E := Lib.hid E0; clear E0))
          refine bodyPost_ret (results_kn2 E.out rfl _ rfl (by rw [i64s_length]; exact hbl')) rfl ?_
          exact ⟨rfl, E.out.bel⟩

set_option maxHeartbeats 8000000 in
set_option maxRecDepth 100000 in
theorem bases_false (f : Bool) (Z : List Int) (w : World) (hZ : Z.length = 24) (h : okP false Z) :
    Calls Tryd.prog 22 #[.agg (blk false f Z).toArray] w fun e w' => e = .returned (.tuple #[arr (baV false Z), .int .i64 ((farP false Z 3 : Nat) : Int)]) ∧ Below w.heap.size w w' := by
  have E := Lib.hid (Kn.start w)
  have hW := Lib.hid (fun u => show Calls Tryd.prog 49 #[.bool false] u (fun e w' => e = .returned (.tuple #[.int .i64 4, .int .i64 4]) ∧ u = w') from widths_any false u)
  have hzl := Lib.hid zk_length
  have hz0 := Lib.hid (show zk 0 = [0, 0, 0, 0, 0, 0, 0, 0] from rfl)
  have hzs := Lib.hid zk_set
  have h0 := Lib.hid (show zk 2 = bS false Z (sU 0) from (bS_none false Z _ fun j hj => by simp [sU]).symm)
  have hbl := Lib.hid (fun k => bS_length false Z (sU k))
  have hbs := Lib.hid (fun c (hc : c < 3) (a b : Int) (ha : a = wideV (Z.getD c 0) 4) (hb : b = wideV (seV false Z c) 4) => show ((bS false Z (sU c)).set c a).set (4 + c) b = bS false Z (sU (c + 1)) from
    bS_set false Z hc a b ha hb fun j hj => by simp only [sU]; rw [Bool.eq_iff_iff]; simp only [Bool.or_eq_true, decide_eq_true_eq]; omega)
  have hbe := Lib.hid (show bS false Z (sU 3) = baV false Z from bS_full false Z _ fun j hj => by simpa [sU] using hj)
  have hba := Lib.hid (baV_length false Z)
  have hse := Lib.hid (fun c => show seV false Z c = Z.getD (3 + c) 0 from rfl)
  have hoa := Lib.hid (fun c (hc : c < 3) => show 0 ≤ Z.getD c 0 ∧ Z.getD c 0 < 16 from ok_a h hc)
  have hob := Lib.hid (fun c (hc : c < 3) => (ok_b h hc).2 rfl)
  rw [farP_no Z 3]
  
  
  
  have hA3 : ((Z.drop 0).take 3).length = 3 := by rw [List.length_take, List.length_drop]; omega
  have hA2 := Lib.hid (fun c (hc : c < 3) => show ((Z.drop 0).take 3).getD c 0 = Z.getD c 0 from by
    rw [List.getD_eq_getElem?_getD, List.getElem?_take, if_pos hc, List.getElem?_drop, ← List.getD_eq_getElem?_getD, Nat.zero_add])
  have hIX := Lib.hid (fun (j : Nat) (hj : j < 3) (u : World) => run_index_i64 (P := Tryd.prog) 34 3 3 Tryd.underlying34 Tryd.underlying3 (by kernel_rfl) ((Z.drop 0).take 3) j hj hA3 u)
  obtain ⟨A3, hAe⟩ : ∃ A3, (Z.drop 0).take 3 = A3 := ⟨_, rfl⟩
  rw [hAe] at hA2 hIX
  have HAE := Lib.hid hAe
  clear h hAe hA3
  
  
  generalize seV false Z = SE at *
  generalize bS false Z = BS at *
  generalize baV false Z = BA at *
  generalize zk = ZK at *
  go_enter Tryd.func22, Tryd.ntmps22
  go_wp2_with (first | ((with_reducible refine kn_load E.out rfl rfl rfl rfl ?_)) | ((with_reducible refine kn_load_if E.out rfl rfl rfl rfl ?_)) | ((with_reducible refine kn_loads E.out rfl rfl rfl ?_ ?_); (focus (first | rfl | (simp only [i64s_length, u8s_length]; first | rfl | assumption | omega)))) | ((with_reducible refine kn_loads_if E.out rfl rfl rfl ?_ ?_); (focus (first | rfl | (simp only [i64s_length, u8s_length]; first | rfl | assumption | omega)))) | ((with_reducible refine kn_stores E.out rfl rfl rfl rfl rfl ?_ ?_ ?_); (focus (first | exact ⟨rfl, rfl⟩ | (simp only [i64s_length, u8s_length]; refine ⟨?_, ?_⟩ <;> first | rfl | assumption | omega))); (focus (first | exact i64s_one _ | exact u8s_one _ | simp [Value.oneCell'])); clear E; intro u E0; have E := Lib.hid E0; clear E0) | ((with_reducible refine kn_alloc (o := ⟨some 1, _, _, _, _, _⟩) E.out rfl rfl ?_); clear E; intro g1 u E0 hb0; have E := Lib.hid E0; clear E0 hb0) | ((with_reducible refine kn_box (o := ⟨some 1, _, _, _, _, _⟩) E.out rfl rfl rfl ?_); clear E; intro g1 u E0 hb0; have E := Lib.hid E0; clear E0 hb0) | ((with_reducible refine kn_box_int (o := ⟨some 1, _, _, _, _, _⟩) E.out rfl rfl rfl ?_); clear E; intro g1 u E0 hb0; have E := Lib.hid E0; clear E0 hb0) | ((with_reducible refine kn_box_slice (o := ⟨some 1, _, _, _, _, _⟩) E.out rfl rfl rfl ?_); clear E; intro g1 u E0 hb0; have E := Lib.hid E0; clear E0 hb0) | ((with_reducible refine kn_box_bool (o := ⟨some 1, _, _, _, _, _⟩) E.out rfl rfl rfl ?_); clear E; intro g1 u E0 hb0; have E := Lib.hid E0; clear E0 hb0) | ((with_reducible refine kn_box_func (o := ⟨some 1, _, _, _, _, _⟩) E.out rfl rfl rfl ?_); clear E; intro g1 u E0 hb0; have E := Lib.hid E0; clear E0 hb0) | ((with_reducible refine kn_alloc (o := ⟨some 2, _, _, _, _, _⟩) E.out rfl rfl ?_); clear E; intro g2 u E0 hb0; have E := Lib.hid E0; clear E0 hb0) | ((with_reducible refine kn_box (o := ⟨some 2, _, _, _, _, _⟩) E.out rfl rfl rfl ?_); clear E; intro g2 u E0 hb0; have E := Lib.hid E0; clear E0 hb0) | ((with_reducible refine kn_box_int (o := ⟨some 2, _, _, _, _, _⟩) E.out rfl rfl rfl ?_); clear E; intro g2 u E0 hb0; have E := Lib.hid E0; clear E0 hb0) | ((with_reducible refine kn_box_slice (o := ⟨some 2, _, _, _, _, _⟩) E.out rfl rfl rfl ?_); clear E; intro g2 u E0 hb0; have E := Lib.hid E0; clear E0 hb0) | ((with_reducible refine kn_box_bool (o := ⟨some 2, _, _, _, _, _⟩) E.out rfl rfl rfl ?_); clear E; intro g2 u E0 hb0; have E := Lib.hid E0; clear E0 hb0) | ((with_reducible refine kn_box_func (o := ⟨some 2, _, _, _, _, _⟩) E.out rfl rfl rfl ?_); clear E; intro g2 u E0 hb0; have E := Lib.hid E0; clear E0 hb0) | ((with_reducible refine kn_alloc (o := ⟨some 4, _, _, _, _, _⟩) E.out rfl rfl ?_); clear E; intro g4 u E0 hb0; have E := Lib.hid E0; clear E0 hb0) | ((with_reducible refine kn_box (o := ⟨some 4, _, _, _, _, _⟩) E.out rfl rfl rfl ?_); clear E; intro g4 u E0 hb0; have E := Lib.hid E0; clear E0 hb0) | ((with_reducible refine kn_box_int (o := ⟨some 4, _, _, _, _, _⟩) E.out rfl rfl rfl ?_); clear E; intro g4 u E0 hb0; have E := Lib.hid E0; clear E0 hb0) | ((with_reducible refine kn_box_slice (o := ⟨some 4, _, _, _, _, _⟩) E.out rfl rfl rfl ?_); clear E; intro g4 u E0 hb0; have E := Lib.hid E0; clear E0 hb0) | ((with_reducible refine kn_box_bool (o := ⟨some 4, _, _, _, _, _⟩) E.out rfl rfl rfl ?_); clear E; intro g4 u E0 hb0; have E := Lib.hid E0; clear E0 hb0) | ((with_reducible refine kn_box_func (o := ⟨some 4, _, _, _, _, _⟩) E.out rfl rfl rfl ?_); clear E; intro g4 u E0 hb0; have E := Lib.hid E0; clear E0 hb0))
  go_loopw [12] (fun ci wr => ∃ k : Nat, k ≤ 2 ∧ ci = .int .i64 k ∧ Hid (Kn w [.row g4 51 (i64s (ZK k)), .row g2 51 (i64s [0, 0, 0, 0, 0, 0, 0, 0]), .row g1 48 (blk false f Z)] [] wr)) (fun ci _ => 2 - (intOf ci).toNat)
  case atStart => exact ⟨0, by omega, rfl, by rw [hz0.out]; exact E⟩
  case round =>
    clear E
    obtain ⟨k, hk, rfl, E⟩ := hrel
    have hl := hzl.out k
    by_cases hlt : k < 2
    · have hk3 : (k : Int) < 2 := by omega
      have hS := Lib.hid (hzs.out k hlt)
      clear hzl hzs h0 hbl hbs hbe hse hoa hob hA2 hIX hz0
      generalize ZK k = Zk at *
      go_wp2_with (first
        | ((with_reducible refine kn_storei (g := g4) (i := k * 4 + 3) E.out rfl rfl rfl rfl rfl ?hi ?_); (case hi => omega); clear E; intro u E0; have E := Lib.hid E0; clear E0)
        | ((with_reducible refine kn_load E.out rfl rfl rfl rfl ?_)) | ((with_reducible refine kn_load_if E.out rfl rfl rfl rfl ?_)) | ((with_reducible refine kn_loads E.out rfl rfl rfl ?_ ?_); (focus (first | rfl | (simp only [i64s_length, u8s_length]; first | rfl | assumption | omega)))) | ((with_reducible refine kn_loads_if E.out rfl rfl rfl ?_ ?_); (focus (first | rfl | (simp only [i64s_length, u8s_length]; first | rfl | assumption | omega)))) | ((with_reducible refine kn_stores E.out rfl rfl rfl rfl rfl ?_ ?_ ?_); (focus (first | exact ⟨rfl, rfl⟩ | (simp only [i64s_length, u8s_length]; refine ⟨?_, ?_⟩ <;> first | rfl | assumption | omega))); (focus (first | exact i64s_one _ | exact u8s_one _ | simp [Value.oneCell'])); clear E; intro u E0; have E := Lib.hid E0; clear E0))
      go_roundw
      case rel => exact ⟨k + 1, by omega, by go_num, by rw [← hS.out]; exact E⟩
      case measure => simp [intOf]; try omega
    · have hk3 : ¬ ((k : Int) < 2) := by omega
      have ek : k = 2 := by omega
      rw [ek, h0.out] at E
      clear hzl hzs h0 hlt hk ek hl hz0
      go_wp2_with (first
        | (go_at_call 49; refine (hW.out _).mono ?_; clear hW; rintro e w1 ⟨rfl, rfl⟩)
        | ((with_reducible refine kn_bd (g := g1) E.out rfl rfl rfl ?_))
        | ((with_reducible refine kn_bp (g := g1) (i := 0) E.out rfl rfl rfl ?h1 ?h2 ?_); (case h1 => rfl); (case h2 => omega); rw [HAE.out])
        | ((with_reducible refine kn_load E.out rfl rfl rfl rfl ?_)) | ((with_reducible refine kn_load_if E.out rfl rfl rfl rfl ?_)) | ((with_reducible refine kn_loads E.out rfl rfl rfl ?_ ?_); (focus (first | rfl | (simp only [i64s_length, u8s_length]; first | rfl | assumption | omega)))) | ((with_reducible refine kn_loads_if E.out rfl rfl rfl ?_ ?_); (focus (first | rfl | (simp only [i64s_length, u8s_length]; first | rfl | assumption | omega)))) | ((with_reducible refine kn_stores E.out rfl rfl rfl rfl rfl ?_ ?_ ?_); (focus (first | exact ⟨rfl, rfl⟩ | (simp only [i64s_length, u8s_length]; refine ⟨?_, ?_⟩ <;> first | rfl | assumption | omega))); (focus (first | exact i64s_one _ | exact u8s_one _ | simp [Value.oneCell'])); clear E; intro u E0; have E := Lib.hid E0; clear E0))
      go_loopw [27, 8] (fun ci ff wr => ∃ k : Nat, k ≤ 3 ∧ ci = .int .i64 k ∧ ff = .int .i64 3 ∧ Hid (Kn w [.row g4 51 (i64s (BS (sU k))), .row g2 51 (i64s [0, 0, 0, 0, 0, 0, 0, 0]), .row g1 48 (blk false f Z)] [] wr)) (fun ci _ _ => 3 - (intOf ci).toNat)
      case atStart => exact ⟨0, by omega, rfl, rfl, E⟩
      case round =>
        clear E
        obtain ⟨k, hk, rfl, rfl, E⟩ := hrel
        have hl := hbl.out k
        by_cases hlt : k < 3
        · have hk3 : (k : Int) < 3 := by omega
          have hix := hIX.out k hlt
          rw [hA2.out k hlt] at hix
          have ha := hoa.out k hlt
          have hb := hob.out k hlt
          have hs := Lib.hid (hbs.out k hlt)
          have hsv := hse.out k
          obtain ⟨va, hva⟩ : ∃ v, Z.getD k 0 = v := ⟨_, rfl⟩
          obtain ⟨vb, hvb⟩ : ∃ v, Z.getD (3 + k) 0 = v := ⟨_, rfl⟩
          rw [hva] at ha hix hs
          rw [hvb] at hb
          rw [hvb] at hsv
          have HVB := Lib.hid hvb
          have hWa := Lib.hid (fun u => wide_any va 4 u)
          have hmo := Lib.hid (wideV_mod va 4)
          have hLa := Lib.hid (fun u => lowest_any va 4 4 rfl u (by omega))
          have hma := low_is (n := va) (m := 4) (by have e : ((2 ^ 4 : Nat) : Int) = 16 := rfl; rw [e]; omega)
          rw [hma] at hLa
          have hLs := Lib.hid (fun u => lowest_any (SE k) 4 4 rfl u (by omega))
          have hWs := Lib.hid (fun u => show Calls Tryd.prog 53 #[.int .i64 (SE k % ((2 ^ 4 : Nat) : Int)), .int .i64 4] u (fun e w' => e = .returned (.int .i64 (wideV (SE k) 4)) ∧ u = w') from by
            have q := wide_any (SE k % ((2 ^ 4 : Nat) : Int)) 4 u
            rw [show wideV (SE k % ((2 ^ 4 : Nat) : Int)) 4 = wideV (SE k) 4 from wideV_mod (SE k) 4] at q
            exact q)
          obtain ⟨sm, hsm⟩ : ∃ v, SE k % ((2 ^ 4 : Nat) : Int) = v := ⟨_, rfl⟩
          rw [hsm] at hLs hWs
          clear hbl hbs hbe hse hoa hob hA2 hIX hsm hma hmo hva hvb HAE hba
          replace hs := Lib.hid (hs.out _ _ rfl rfl)
          generalize wideV va 4 = x1 at *
          generalize wideV (SE k) 4 = x2 at *
          generalize BS (sU k) = B0 at *
          rw [hsv] at hLs
          go_wp2_with (first
            | (go_at_call 54; (with_reducible refine (hLa.out _).mono ?_); rintro e w1 ⟨rfl, rfl⟩)
            | (go_at_call 54; (with_reducible refine (hLs.out _).mono ?_); rintro e w1 ⟨rfl, rfl⟩)
            | (go_at_call 53; (with_reducible refine (hWa.out _).mono ?_); rintro e w1 ⟨rfl, rfl⟩)
            | (go_at_call 53; (with_reducible refine (hWs.out _).mono ?_); rintro e w1 ⟨rfl, rfl⟩)
            | ((with_reducible refine kn_bd (g := g1) E.out rfl rfl rfl ?_))
            | (((with_reducible refine kn_bz (i := 3 + k) (g := g1) E.out rfl rfl rfl ?h1 ?h2 ?_); (case h1 => omega); (case h2 => omega); rw [HVB.out]))
            | ((with_reducible refine kn_storei (g := g4) (i := k) E.out rfl rfl rfl rfl rfl ?hi ?_); (case hi => omega); clear E; intro u E0; have E := Lib.hid E0; clear E0)
            | ((with_reducible refine kn_storei (g := g4) (i := 4 + k) E.out rfl rfl rfl rfl rfl ?hi ?_); (case hi => (try simp only [List.length_set]); omega); clear E; intro u E0; have E := Lib.hid E0; clear E0)
            | ((with_reducible refine kn_load E.out rfl rfl rfl rfl ?_)) | ((with_reducible refine kn_load_if E.out rfl rfl rfl rfl ?_)) | ((with_reducible refine kn_loads E.out rfl rfl rfl ?_ ?_); (focus (first | rfl | (simp only [i64s_length, u8s_length]; first | rfl | assumption | omega)))) | ((with_reducible refine kn_loads_if E.out rfl rfl rfl ?_ ?_); (focus (first | rfl | (simp only [i64s_length, u8s_length]; first | rfl | assumption | omega)))) | ((with_reducible refine kn_stores E.out rfl rfl rfl rfl rfl ?_ ?_ ?_); (focus (first | exact ⟨rfl, rfl⟩ | (simp only [i64s_length, u8s_length]; refine ⟨?_, ?_⟩ <;> first | rfl | assumption | omega))); (focus (first | exact i64s_one _ | exact u8s_one _ | simp [Value.oneCell'])); clear E; intro u E0; have E := Lib.hid E0; clear E0))
          go_roundw
          case rel => exact ⟨k + 1, by omega, by go_num, rfl, by rw [← hs.out]; exact E⟩
          case measure => simp [intOf]; try omega

        · have hk3 : ¬ ((k : Int) < 3) := by omega
          have ek : k = 3 := by omega
          rw [ek, hbe.out] at E
          
          
          have hbl' := hba.out
          clear hbl hbs hbe hse hoa hob hA2 hIX HAE hlt hk ek hl hba 
          go_wp2_with (first
            | ((with_reducible refine kn_loads (g := g4) E.out rfl rfl rfl ?hl ?_); (case hl => rw [i64s_length]; exact hbl'))
            | ((with_reducible refine kn_stores (g := g2) (vs := i64s BA) E.out rfl rfl rfl rfl rfl ?hl ?h1 ?_); (case hl => exact ⟨rfl, by rw [i64s_length]; exact hbl'⟩); (case h1 => exact i64s_one _); clear E; intro u E0; have E := Lib.hid E0; clear E0)
            | ((with_reducible refine kn_load E.out rfl rfl rfl rfl ?_)) | ((with_reducible refine kn_load_if E.out rfl rfl rfl rfl ?_)) | ((with_reducible refine kn_loads E.out rfl rfl rfl ?_ ?_); (focus (first | rfl | (simp only [i64s_length, u8s_length]; first | rfl | assumption | omega)))) | ((with_reducible refine kn_loads_if E.out rfl rfl rfl ?_ ?_); (focus (first | rfl | (simp only [i64s_length, u8s_length]; first | rfl | assumption | omega)))) | ((with_reducible refine kn_stores E.out rfl rfl rfl rfl rfl ?_ ?_ ?_); (focus (first | exact ⟨rfl, rfl⟩ | (simp only [i64s_length, u8s_length]; refine ⟨?_, ?_⟩ <;> first | rfl | assumption | omega))); (focus (first | exact i64s_one _ | exact u8s_one _ | simp [Value.oneCell'])); clear E; intro u E0; have E := Lib.hid E0; clear E0))
          refine bodyPost_ret (results_kn2 E.out rfl _ rfl (by rw [i64s_length]; exact hbl')) rfl ?_
          exact ⟨rfl, E.out.bel⟩
theorem bases_any (d f : Bool) (Z : List Int) (w : World) (hZ : Z.length = 24) (h : okP d Z) :
    Calls Tryd.prog 22 #[.agg (blk d f Z).toArray] w fun e w' => e = .returned (.tuple #[arr (baV d Z), .int .i64 ((farP d Z 3 : Nat) : Int)]) ∧ Below w.heap.size w w' := by
  cases d
  · exact bases_false f Z w hZ h
  · exact bases_true f Z w hZ h
end Go.Proofs.YtgcijioiicmjiaaDoor
