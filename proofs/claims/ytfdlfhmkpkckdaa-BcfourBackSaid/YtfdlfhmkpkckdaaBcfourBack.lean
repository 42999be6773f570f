/- BcfourBack: the block of a block's parts is that block, and so is that of its four-bit numbers, taken back from their levels; where there are not eight bytes both tell so; no condition. -/
import Derived.Test.YtfdlfhmkpkckdaaRows
import Derived.Test.YtfdlfhmkpkckdaaBfAwake
import Derived.Test.YtfdlfhmkpkckdaaKnB
import Derived.Test.YtfdlfhmkpkckdaaSame
import Derived.Test.YtfdlfhmkpkckdaaOpen
import Derived.OpenShut
import Derived.ShutString
import Derived.ChangeOld
import Derived.Below
namespace Go.Proofs.Ytfdlfhmkpkckdaa.bcfourBack
open Go.ChangeShapes Go.WideShapes Go.ChangeAt Go.RowKit
open Bi Lv Bc Bf

theorem get_bit (xs : List Nat) (p m k : Nat) (h : k < m) : (getN xs false p m).testBit k = bt xs false (p + k) := by
  rw [rd_low, rd, nm_bit]
  simp [h]
theorem lows_bit (xs : List Nat) (p m j k : Nat) (hj : j < 16) (hk : k < m) : ((lowsL xs p m 16).getD j 0).toNat.testBit k = bt xs false (p + j * m + k) := by
  have e : (lowsL xs p m 16).getD j 0 = ((getN xs false (p + j * m) m : Nat) : Int) := by simp [lowsL, hj]
  rw [e, Int.toNat_natCast, get_bit _ _ _ _ hk]
theorem pk_bit (xs : List Nat) (p m i : Nat) (hm : 0 < m) (h : i < 16 * m) : pk (lowsL xs p m 16) m i = bt xs false (p + i) := by
  have h1 : i / m < 16 := Nat.div_lt_of_lt_mul (by rw [Nat.mul_comm]; exact h)
  have h2 : i / m * m + i % m = i := Nat.div_add_mod' i m
  unfold pk
  rw [lows_bit xs p m _ _ h1 (Nat.mod_lt _ hm), Nat.add_assoc, h2]
theorem byte_bit {xs : List Nat} (hx : ∀ x ∈ xs, x < 256) (q k : Nat) (hk : k < 8) : (((xs.getD q 0 : Nat) : Int)).toNat.testBit k = bt xs false (q * 8 + k) := by
  unfold bt pl
  simp only [Bool.false_eq_true, if_false, Int.toNat_natCast]
  rw [show (q * 8 + k) / 8 = q by omega, show (q * 8 + k) % 8 = k by omega]
theorem back_ok {xs : List Nat} (hx : ∀ x ∈ xs, x < 256) : jOk7 (pA xs) (pB xs) (pW xs) := by
  have h0 := byte_bd hx 0
  have h1 := byte_bd hx 1
  unfold jOk7 pA pB
  exact ⟨by omega, by omega, fun i _ => pW_bd xs i⟩
theorem back_all (xs : List Nat) (hl : xs.length = 8) (hx : ∀ x ∈ xs, x < 256) : jV7 (pA xs) (pB xs) (pW xs) = xs := by
  rw [jV7_ok (back_ok hx)]
  refine ext_bits false (by rw [lay_length, hl]; rfl) (lay_lt _ _ _ _ _) hx fun i hi => ?_
  have hi' : i < 64 := by rw [lay_length] at hi; exact hi
  rw [lay_bit _ _ _ _ _ _ (by show i < 8 * 8; omega), if_pos (by omega), Nat.sub_zero]
  unfold jb7
  by_cases h1 : i < 8
  · rw [if_pos h1]
    unfold pA
    rw [byte_bit hx 0 i h1, Nat.zero_mul, Nat.zero_add]
  · rw [if_neg h1]
    by_cases h2 : i < 16
    · rw [if_pos h2]
      unfold pB
      rw [byte_bit hx 1 (i - 8) (by omega), show 1 * 8 + (i - 8) = i by omega]
    · rw [if_neg h2]
      unfold pW
      rw [pk_bit xs 16 3 (i - 16) (by omega) (by omega), show 16 + (i - 16) = i by omega]
theorem fours_back_ok (xs : List Nat) : okW (pF xs) 4 := fun i _ => pF_bd xs i
theorem fours_back (xs : List Nat) (hl : xs.length = 8) (hx : ∀ x ∈ xs, x < 256) : fV (pF xs) = xs := by
  rw [fV_ok (fours_back_ok xs)]
  refine ext_bits false (by rw [lay_length, hl]; rfl) (lay_lt _ _ _ _ _) hx fun i hi => ?_
  have hi' : i < 64 := by rw [lay_length] at hi; exact hi
  rw [lay_bit _ _ _ _ _ _ (by show i < 8 * 8; omega), if_pos (by omega), Nat.sub_zero]
  unfold pF
  rw [pk_bit xs 0 4 i (by omega) (by omega), Nat.zero_add]
theorem near_wide : ∀ n : Nat, n < 16 → nearV (wideV (n : Int) 4) 4 = (n : Int) ∧ 0 ≤ wideV (n : Int) 4 ∧ wideV (n : Int) 4 < 256 := by decide +kernel
theorem near_wide' {n : Int} (h : 0 ≤ n ∧ n < 16) : nearV (wideV n 4) 4 = n ∧ 0 ≤ wideV n 4 ∧ wideV n 4 < 256 := by
  obtain ⟨m, rfl⟩ := Int.eq_ofNat_of_zero_le h.1
  exact near_wide m (by omega)
theorem foV_get (xs : List Nat) (j : Nat) (h : j < 16) : (foV xs).getD j 0 = wideV ((pF xs).getD j 0) 4 := seP_get z16 _ _ rfl j h
theorem foV_sm (xs : List Nat) (j : Nat) (h : j < 16) : sm ((foV xs).getD j 0) := by
  have k := near_wide' (pF_bd xs j)
  rw [foV_get xs j h]
  unfold sm
  omega
theorem ext_getD {x y : List Int} (hl : x.length = y.length) (h : ∀ j, j < y.length → x.getD j 0 = y.getD j 0) : x = y := by
  apply List.ext_getElem hl
  intro j h1 h2
  have k := h j h2
  rw [List.getD_eq_getElem?_getD, List.getElem?_eq_getElem h1, List.getD_eq_getElem?_getD, List.getElem?_eq_getElem h2] at k
  exact k
theorem near_all (xs : List Nat) : seP (foV xs) (fun n => nearV n 4) (foV xs) 16 = pF xs := by
  refine ext_getD (by rw [seP_length, foV_length, pF_length]) fun j h2 => ?_
  rw [pF_length] at h2
  have e := seP_get (foV xs) (fun n => nearV n 4) (foV xs) (foV_length xs) j h2
  rw [foV_get xs j h2] at e
  exact e.trans (near_wide' (pF_bd xs j)).1

set_option maxHeartbeats 8000000 in
set_option maxRecDepth 100000 in
theorem walk (A : Option Addr) (n c : Nat) (xs : List Nat) (w : World) (h : Bs w w.heap.size A n xs) (hn : n ≤ 9223372036854775807) :
    Calls Try.prog 4 #[.slice A n c] w fun e w' => e = .returned (.bool true) ∧ Below w.heap.size w w' := by
  have hA := Lib.hid awake_yes
  by_cases h8 : n = 8
  · subst h8
    have E := Lib.hid ((Kn.start w).arg_bs h)
    have hP := Lib.hid (fun u hu => parts_ok A c xs u hu)
    have hF := Lib.hid (fun u hu => fours_ok A c xs u hu)
    have hJ := Lib.hid (fun u => show Calls Try.prog 13 #[.int .i64 (pA xs), .int .i64 (pB xs), arr (pW xs)] u (Laid u xs 0) from by
      have k := bjoin_any (pA xs) (pB xs) (pW xs) u (pW_length xs)
      rw [back_all xs h.1 h.2.1, jE7_ok (back_ok h.2.1)] at k
      exact k)
    have hK := Lib.hid (fun u => show Calls Try.prog 15 #[arr (pF xs)] u (Laid u xs 0) from by
      have k := joinfours_any (pF xs) u (pF_length xs)
      rw [fours_back xs h.1 h.2.1, fE_ok (fours_back_ok xs)] at k
      exact k)
    have hS := Lib.hid (fun (A1 : Option Addr) (c1 : Nat) (u : World) (h1 : Bs u u.heap.size A 8 xs) (h2 : Bs u u.heap.size A1 8 xs) => show Calls Try.prog 17 #[.slice A 8 c, .slice A1 8 c1] u (Told true u) from by
      have k := same_any A A1 8 8 c c1 xs xs _ _ u h1 h2 (by omega)
      rw [decide_eq_true rfl] at k
      exact k)
    have hW := pW_length xs
    have hQ := pF_length xs
    have hX := h.1
    have HS := Lib.hid (fun (k : Nat) => show seP (foV xs) (fun n => nearV n 4) (foV xs) (k + 1) = (seP (foV xs) (fun n => nearV n 4) (foV xs) k).set k (nearV ((foV xs).getD k 0) 4) from rfl)
    have HL := Lib.hid (fun k => show (seP (foV xs) (fun n => nearV n 4) (foV xs) k).length = 16 from (seP_length _ _ _ k).trans (foV_length xs))
    have HG := Lib.hid (fun k (hk : k < 16) => show (seP (foV xs) (fun n => nearV n 4) (foV xs) k).getD k 0 = (foV xs).getD k 0 from by rw [seP_getD _ _ _ _ _ (by rw [foV_length]; omega), if_neg (by omega)])
    have H0 := Lib.hid (show seP (foV xs) (fun n => nearV n 4) (foV xs) 0 = foV xs from rfl)
    have HE := Lib.hid (near_all xs)
    have HN := Lib.hid (fun k (hk : k < 16) u => near_any ((foV xs).getD k 0) 4 u (foV_sm xs k hk))
    have hO := foV_length xs
    clear h
    generalize seP (foV xs) (fun n => nearV n 4) (foV xs) = dp at *
    generalize foV xs = fo at *
    generalize pA xs = pa at *
    generalize pB xs = pb at *
    generalize pW xs = zw at *
    generalize pF xs = zf at *
    go_enter Try.func4, Try.ntmps4
    go_wp2_with (first
      | (go_at_call 6; refine (hA.out _).mono ?_; clear hA; rintro e w1 ⟨rfl, hb⟩; have E1 := Lib.hid (E.out.later hb); clear hb E; have E := E1; clear E1)
      | (go_at_call 7; refine (hP.out _ (E.out.bs (by simp))).mono ?_; clear hP; rintro e w2 ⟨rfl, hb⟩; have E1 := Lib.hid (E.out.later hb); clear hb E; have E := E1; clear E1)
      | (go_at_call 11; refine (hF.out _ (E.out.bs (by simp))).mono ?_; clear hF; rintro e w2 ⟨rfl, hb⟩; have E1 := Lib.hid (E.out.later hb); clear hb E; have E := E1; clear E1)
      | (go_at_call 13; refine (hJ.out _).mono ?_; clear hJ; rintro e w3 ⟨A1, n1, c1, rfl, hB1, hn1, hc1, hb⟩; obtain rfl : n1 = 8 := hB1.1.symm.trans hX; have E1 := Lib.hid (E.out.later hb); clear hb E; have E := E1; clear E1; have E1 := Lib.hid (E.out.new_bsi hB1); clear E hB1; have E := E1; clear E1)
      | ((with_reducible refine kn_load E.out rfl rfl rfl rfl ?_)) | ((with_reducible refine kn_load_if E.out rfl rfl rfl rfl ?_)) | ((with_reducible refine kn_loads E.out rfl rfl rfl ?_ ?_); (focus (first | rfl | (simp only [i64s_length, u8s_length]; first | rfl | assumption | omega)))) | ((with_reducible refine kn_loads_if E.out rfl rfl rfl ?_ ?_); (focus (first | rfl | (simp only [i64s_length, u8s_length]; first | rfl | assumption | omega)))) | ((with_reducible refine kn_store1_int E.out rfl rfl rfl rfl rfl ?_); clear E; intro u E0; have E := Lib.hid E0; clear E0) | ((with_reducible refine kn_store1_slice E.out rfl rfl rfl rfl rfl ?_); clear E; intro u E0; have E := Lib.hid E0; clear E0) | ((with_reducible refine kn_store1_bool E.out rfl rfl rfl rfl rfl ?_); clear E; intro u E0; have E := Lib.hid E0; clear E0) | ((with_reducible refine kn_stores E.out rfl rfl rfl rfl rfl ?_ ?_ ?_); (focus (first | exact ⟨rfl, rfl⟩ | (simp only [i64s_length, u8s_length]; refine ⟨?_, ?_⟩ <;> first | rfl | assumption | omega))); (focus (first | exact i64s_one _ | exact u8s_one _ | simp [Value.oneCell'])); clear E; intro u E0; have E := Lib.hid E0; clear E0) | ((with_reducible refine kn_alloc (o := ⟨some 6, _, _, _, _, _⟩) E.out rfl rfl ?_); clear E; intro g6 u E0 hb0; have E := Lib.hid E0; clear E0 hb0) | ((with_reducible refine kn_box (o := ⟨some 6, _, _, _, _, _⟩) E.out rfl rfl rfl ?_); clear E; intro g6 u E0 hb0; have E := Lib.hid E0; clear E0 hb0) | ((with_reducible refine kn_box_int (o := ⟨some 6, _, _, _, _, _⟩) E.out rfl rfl rfl ?_); clear E; intro g6 u E0 hb0; have E := Lib.hid E0; clear E0 hb0) | ((with_reducible refine kn_box_slice (o := ⟨some 6, _, _, _, _, _⟩) E.out rfl rfl rfl ?_); clear E; intro g6 u E0 hb0; have E := Lib.hid E0; clear E0 hb0) | ((with_reducible refine kn_box_bool (o := ⟨some 6, _, _, _, _, _⟩) E.out rfl rfl rfl ?_); clear E; intro g6 u E0 hb0; have E := Lib.hid E0; clear E0 hb0) | ((with_reducible refine kn_box_func (o := ⟨some 6, _, _, _, _, _⟩) E.out rfl rfl rfl ?_); clear E; intro g6 u E0 hb0; have E := Lib.hid E0; clear E0 hb0) | ((with_reducible refine kn_alloc (o := ⟨some 8, _, _, _, _, _⟩) E.out rfl rfl ?_); clear E; intro g8 u E0 hb0; have E := Lib.hid E0; clear E0 hb0) | ((with_reducible refine kn_box (o := ⟨some 8, _, _, _, _, _⟩) E.out rfl rfl rfl ?_); clear E; intro g8 u E0 hb0; have E := Lib.hid E0; clear E0 hb0) | ((with_reducible refine kn_box_int (o := ⟨some 8, _, _, _, _, _⟩) E.out rfl rfl rfl ?_); clear E; intro g8 u E0 hb0; have E := Lib.hid E0; clear E0 hb0) | ((with_reducible refine kn_box_slice (o := ⟨some 8, _, _, _, _, _⟩) E.out rfl rfl rfl ?_); clear E; intro g8 u E0 hb0; have E := Lib.hid E0; clear E0 hb0) | ((with_reducible refine kn_box_bool (o := ⟨some 8, _, _, _, _, _⟩) E.out rfl rfl rfl ?_); clear E; intro g8 u E0 hb0; have E := Lib.hid E0; clear E0 hb0) | ((with_reducible refine kn_box_func (o := ⟨some 8, _, _, _, _, _⟩) E.out rfl rfl rfl ?_); clear E; intro g8 u E0 hb0; have E := Lib.hid E0; clear E0 hb0) | ((with_reducible refine kn_alloc E.out rfl rfl ?_); clear E; intro g u E0 hb0; have E := Lib.hid E0; clear E0 hb0) | ((with_reducible refine kn_box E.out rfl rfl rfl ?_); clear E; intro g u E0 hb0; have E := Lib.hid E0; clear E0 hb0) | ((with_reducible refine kn_box_int E.out rfl rfl rfl ?_); clear E; intro g u E0 hb0; have E := Lib.hid E0; clear E0 hb0) | ((with_reducible refine kn_box_slice E.out rfl rfl rfl ?_); clear E; intro g u E0 hb0; have E := Lib.hid E0; clear E0 hb0) | ((with_reducible refine kn_box_bool E.out rfl rfl rfl ?_); clear E; intro g u E0 hb0; have E := Lib.hid E0; clear E0 hb0) | ((with_reducible refine kn_box_func E.out rfl rfl rfl ?_); clear E; intro g u E0 hb0; have E := Lib.hid E0; clear E0 hb0))
    go_loopw [12] (fun i wr => ∃ k : Nat, k ≤ 16 ∧ i = .int .i64 k ∧ Hid (Kn w [.row g8 25 (i64s (dp k)), .row g6 25 (i64s zw)] [bsF A1 8 xs, bsF A 8 xs] wr)) (fun i _ => 16 - (intOf i).toNat)
    case atStart => exact ⟨0, by omega, rfl, by rw [H0.out]; exact E⟩
    case round =>
      clear E
      obtain ⟨k, hk, rfl, E⟩ := hrel
      have hl := HL.out k
      by_cases hlt : k < 16
      · have hS1 := Lib.hid (HS.out k)
        have HV := Lib.hid (HG.out k hlt)
        have hN := Lib.hid (HN.out k hlt)
        clear HS HL H0 HG HN HE hK hS
        generalize nearV (fo.getD k 0) 4 = wv at *
        generalize fo.getD k 0 = v at *
        go_wp2_with (first
          | ((with_reducible refine kn_loadi (g := g8) E.out rfl rfl rfl ?hi ?_); (case hi => omega); rw [HV.out])
          | (go_at_call 20; refine (hN.out _).mono ?_; clear hN; rintro e w1 ⟨rfl, hb⟩; have E1 := Lib.hid (E.out.later hb); clear hb E; have E := E1; clear E1)
          | ((with_reducible refine kn_storei (g := g8) E.out rfl rfl rfl rfl rfl ?hi ?_); (case hi => omega); clear E; intro u E0; have E := Lib.hid E0; clear E0)
          | ((with_reducible refine kn_load E.out rfl rfl rfl rfl ?_)) | ((with_reducible refine kn_load_if E.out rfl rfl rfl rfl ?_)) | ((with_reducible refine kn_loads E.out rfl rfl rfl ?_ ?_); (focus (first | rfl | (simp only [i64s_length, u8s_length]; first | rfl | assumption | omega)))) | ((with_reducible refine kn_loads_if E.out rfl rfl rfl ?_ ?_); (focus (first | rfl | (simp only [i64s_length, u8s_length]; first | rfl | assumption | omega)))) | ((with_reducible refine kn_store1_int E.out rfl rfl rfl rfl rfl ?_); clear E; intro u E0; have E := Lib.hid E0; clear E0) | ((with_reducible refine kn_store1_slice E.out rfl rfl rfl rfl rfl ?_); clear E; intro u E0; have E := Lib.hid E0; clear E0) | ((with_reducible refine kn_store1_bool E.out rfl rfl rfl rfl rfl ?_); clear E; intro u E0; have E := Lib.hid E0; clear E0) | ((with_reducible refine kn_stores E.out rfl rfl rfl rfl rfl ?_ ?_ ?_); (focus (first | exact ⟨rfl, rfl⟩ | (simp only [i64s_length, u8s_length]; refine ⟨?_, ?_⟩ <;> first | rfl | assumption | omega))); (focus (first | exact i64s_one _ | exact u8s_one _ | simp [Value.oneCell'])); clear E; intro u E0; have E := Lib.hid E0; clear E0) | ((with_reducible refine kn_alloc E.out rfl rfl ?_); clear E; intro g u E0 hb0; have E := Lib.hid E0; clear E0 hb0) | ((with_reducible refine kn_box E.out rfl rfl rfl ?_); clear E; intro g u E0 hb0; have E := Lib.hid E0; clear E0 hb0) | ((with_reducible refine kn_box_int E.out rfl rfl rfl ?_); clear E; intro g u E0 hb0; have E := Lib.hid E0; clear E0 hb0) | ((with_reducible refine kn_box_slice E.out rfl rfl rfl ?_); clear E; intro g u E0 hb0; have E := Lib.hid E0; clear E0 hb0) | ((with_reducible refine kn_box_bool E.out rfl rfl rfl ?_); clear E; intro g u E0 hb0; have E := Lib.hid E0; clear E0 hb0) | ((with_reducible refine kn_box_func E.out rfl rfl rfl ?_); clear E; intro g u E0 hb0; have E := Lib.hid E0; clear E0 hb0))
        go_roundw
        case rel => exact ⟨k + 1, by omega, by go_num, by rw [hS1.out]; exact E⟩
        case measure => simp [intOf]; omega
      · obtain rfl : k = 16 := by omega
        rw [HE.out] at E
        clear HS HL H0 HG HN HE hl
        go_wp2_with (first
          | (go_at_call 15; refine (hK.out _).mono ?_; clear hK; rintro e w3 ⟨A2, n2, c2, rfl, hB1, hn2, hc2, hb⟩; obtain rfl : n2 = 8 := hB1.1.symm.trans hX; have E1 := Lib.hid (E.out.later hb); clear hb E; have E := E1; clear E1; have E1 := Lib.hid (E.out.new_bsi hB1); clear E hB1; have E := E1; clear E1)
          | (go_at_call 17; refine (hS.out _ _ _ (E.out.bs (by simp)) (E.out.bs (by simp))).mono ?_; rintro e w4 h4; have hb := h4.below; obtain ⟨rfl, -⟩ := h4; have E1 := Lib.hid (E.out.later hb); clear hb E; have E := E1; clear E1)
          | ((with_reducible refine kn_load E.out rfl rfl rfl rfl ?_)) | ((with_reducible refine kn_load_if E.out rfl rfl rfl rfl ?_)) | ((with_reducible refine kn_loads E.out rfl rfl rfl ?_ ?_); (focus (first | rfl | (simp only [i64s_length, u8s_length]; first | rfl | assumption | omega)))) | ((with_reducible refine kn_loads_if E.out rfl rfl rfl ?_ ?_); (focus (first | rfl | (simp only [i64s_length, u8s_length]; first | rfl | assumption | omega)))) | ((with_reducible refine kn_store1_int E.out rfl rfl rfl rfl rfl ?_); clear E; intro u E0; have E := Lib.hid E0; clear E0) | ((with_reducible refine kn_store1_slice E.out rfl rfl rfl rfl rfl ?_); clear E; intro u E0; have E := Lib.hid E0; clear E0) | ((with_reducible refine kn_store1_bool E.out rfl rfl rfl rfl rfl ?_); clear E; intro u E0; have E := Lib.hid E0; clear E0) | ((with_reducible refine kn_stores E.out rfl rfl rfl rfl rfl ?_ ?_ ?_); (focus (first | exact ⟨rfl, rfl⟩ | (simp only [i64s_length, u8s_length]; refine ⟨?_, ?_⟩ <;> first | rfl | assumption | omega))); (focus (first | exact i64s_one _ | exact u8s_one _ | simp [Value.oneCell'])); clear E; intro u E0; have E := Lib.hid E0; clear E0) | ((with_reducible refine kn_alloc E.out rfl rfl ?_); clear E; intro g u E0 hb0; have E := Lib.hid E0; clear E0 hb0) | ((with_reducible refine kn_box E.out rfl rfl rfl ?_); clear E; intro g u E0 hb0; have E := Lib.hid E0; clear E0 hb0) | ((with_reducible refine kn_box_int E.out rfl rfl rfl ?_); clear E; intro g u E0 hb0; have E := Lib.hid E0; clear E0 hb0) | ((with_reducible refine kn_box_slice E.out rfl rfl rfl ?_); clear E; intro g u E0 hb0; have E := Lib.hid E0; clear E0 hb0) | ((with_reducible refine kn_box_bool E.out rfl rfl rfl ?_); clear E; intro g u E0 hb0; have E := Lib.hid E0; clear E0 hb0) | ((with_reducible refine kn_box_func E.out rfl rfl rfl ?_); clear E; intro g u E0 hb0; have E := Lib.hid E0; clear E0 hb0))
        go_ret
        exact ⟨rfl, E.out.bel⟩
  · have E := Lib.hid (Kn.start w)
    have hP := Lib.hid (fun u => parts_no A n c u h8 hn)
    have hF := Lib.hid (fun u => fours_no A n c u h8 hn)
    have h8' : ¬ (n : Int) = 8 := by omega
    clear h
    go_enter Try.func4, Try.ntmps4
    go_wp2_with (first
      | (go_at_call 6; refine (hA.out _).mono ?_; clear hA; rintro e w1 ⟨rfl, hb⟩; have E1 := Lib.hid (E.out.later hb); clear hb E; have E := E1; clear E1)
      | (go_at_call 7; refine (hP.out _).mono ?_; clear hP; rintro e w2 ⟨rfl, hb⟩; have E1 := Lib.hid (E.out.later hb); clear hb E; have E := E1; clear E1)
      | (go_at_call 11; refine (hF.out _).mono ?_; clear hF; rintro e w2 ⟨rfl, hb⟩; have E1 := Lib.hid (E.out.later hb); clear hb E; have E := E1; clear E1)
      | ((with_reducible refine kn_load E.out rfl rfl rfl rfl ?_)) | ((with_reducible refine kn_load_if E.out rfl rfl rfl rfl ?_)) | ((with_reducible refine kn_loads E.out rfl rfl rfl ?_ ?_); (focus (first | rfl | (simp only [i64s_length, u8s_length]; first | rfl | assumption | omega)))) | ((with_reducible refine kn_loads_if E.out rfl rfl rfl ?_ ?_); (focus (first | rfl | (simp only [i64s_length, u8s_length]; first | rfl | assumption | omega)))) | ((with_reducible refine kn_store1_int E.out rfl rfl rfl rfl rfl ?_); clear E; intro u E0; have E := Lib.hid E0; clear E0) | ((with_reducible refine kn_store1_slice E.out rfl rfl rfl rfl rfl ?_); clear E; intro u E0; have E := Lib.hid E0; clear E0) | ((with_reducible refine kn_store1_bool E.out rfl rfl rfl rfl rfl ?_); clear E; intro u E0; have E := Lib.hid E0; clear E0) | ((with_reducible refine kn_stores E.out rfl rfl rfl rfl rfl ?_ ?_ ?_); (focus (first | exact ⟨rfl, rfl⟩ | (simp only [i64s_length, u8s_length]; refine ⟨?_, ?_⟩ <;> first | rfl | assumption | omega))); (focus (first | exact i64s_one _ | exact u8s_one _ | simp [Value.oneCell'])); clear E; intro u E0; have E := Lib.hid E0; clear E0) | ((with_reducible refine kn_alloc (o := ⟨some 6, _, _, _, _, _⟩) E.out rfl rfl ?_); clear E; intro g6 u E0 hb0; have E := Lib.hid E0; clear E0 hb0) | ((with_reducible refine kn_box (o := ⟨some 6, _, _, _, _, _⟩) E.out rfl rfl rfl ?_); clear E; intro g6 u E0 hb0; have E := Lib.hid E0; clear E0 hb0) | ((with_reducible refine kn_box_int (o := ⟨some 6, _, _, _, _, _⟩) E.out rfl rfl rfl ?_); clear E; intro g6 u E0 hb0; have E := Lib.hid E0; clear E0 hb0) | ((with_reducible refine kn_box_slice (o := ⟨some 6, _, _, _, _, _⟩) E.out rfl rfl rfl ?_); clear E; intro g6 u E0 hb0; have E := Lib.hid E0; clear E0 hb0) | ((with_reducible refine kn_box_bool (o := ⟨some 6, _, _, _, _, _⟩) E.out rfl rfl rfl ?_); clear E; intro g6 u E0 hb0; have E := Lib.hid E0; clear E0 hb0) | ((with_reducible refine kn_box_func (o := ⟨some 6, _, _, _, _, _⟩) E.out rfl rfl rfl ?_); clear E; intro g6 u E0 hb0; have E := Lib.hid E0; clear E0 hb0) | ((with_reducible refine kn_alloc (o := ⟨some 8, _, _, _, _, _⟩) E.out rfl rfl ?_); clear E; intro g8 u E0 hb0; have E := Lib.hid E0; clear E0 hb0) | ((with_reducible refine kn_box (o := ⟨some 8, _, _, _, _, _⟩) E.out rfl rfl rfl ?_); clear E; intro g8 u E0 hb0; have E := Lib.hid E0; clear E0 hb0) | ((with_reducible refine kn_box_int (o := ⟨some 8, _, _, _, _, _⟩) E.out rfl rfl rfl ?_); clear E; intro g8 u E0 hb0; have E := Lib.hid E0; clear E0 hb0) | ((with_reducible refine kn_box_slice (o := ⟨some 8, _, _, _, _, _⟩) E.out rfl rfl rfl ?_); clear E; intro g8 u E0 hb0; have E := Lib.hid E0; clear E0 hb0) | ((with_reducible refine kn_box_bool (o := ⟨some 8, _, _, _, _, _⟩) E.out rfl rfl rfl ?_); clear E; intro g8 u E0 hb0; have E := Lib.hid E0; clear E0 hb0) | ((with_reducible refine kn_box_func (o := ⟨some 8, _, _, _, _, _⟩) E.out rfl rfl rfl ?_); clear E; intro g8 u E0 hb0; have E := Lib.hid E0; clear E0 hb0) | ((with_reducible refine kn_alloc E.out rfl rfl ?_); clear E; intro g u E0 hb0; have E := Lib.hid E0; clear E0 hb0) | ((with_reducible refine kn_box E.out rfl rfl rfl ?_); clear E; intro g u E0 hb0; have E := Lib.hid E0; clear E0 hb0) | ((with_reducible refine kn_box_int E.out rfl rfl rfl ?_); clear E; intro g u E0 hb0; have E := Lib.hid E0; clear E0 hb0) | ((with_reducible refine kn_box_slice E.out rfl rfl rfl ?_); clear E; intro g u E0 hb0; have E := Lib.hid E0; clear E0 hb0) | ((with_reducible refine kn_box_bool E.out rfl rfl rfl ?_); clear E; intro g u E0 hb0; have E := Lib.hid E0; clear E0 hb0) | ((with_reducible refine kn_box_func E.out rfl rfl rfl ?_); clear E; intro g u E0 hb0; have E := Lib.hid E0; clear E0 hb0))
    go_ret
    exact ⟨rfl, E.out.bel⟩

theorem own : ownKnob Try.prog.godebug = none := by kernel_rfl
theorem laidOut : laidOutB Try.prog = true := by kernel_rfl

set_option maxRecDepth 100000 in
theorem lifted (os : Os) (started : os.Started) (H : Type) (enc : TypeId × Value → H) :
    ReturnsInHanded {} Try.checked os 4 .any (Rows.bcfourBackSpec.pre6 enc Try.prog Try.f4 Rows.bcfourBackRow.domain false) (Rows.bcfourBackSpec.post enc Try.prog Try.f4 false true false false) := by
  refine returnsInHanded_of_change (C := Try.checked) own started (by kernel_rfl) Try.func4
    (ChangeSpec.witness6 (enc := enc) (C := Try.checked) false ⟨#[], #[.slice none 0 0], []⟩ 8 (by kernel_rfl) (by kernel_rfl) (by kernel_rfl) (by kernel_rfl)) ?_
  intro W base args ds gs before hval0 hW hcnd _
  have hval : ∀ (j : Nat) t v, Try.f4.params[j]? = some t → args[j]? = some v → Value.okWide Try.prog W .any base t v := hval0
  have hW' := hW
  obtain ⟨p, q, hA0, hV, rfl, hfz, hnd⟩ := hW
  have hA : DataW.TrodAll enc Try.prog W 0 (fun _ => true) true Try.f4.params.toList args.toList ds p := hA0
  rw [Try.params4] at hA hval
  obtain ⟨v0, vs0, d0, ds0, p0, q0, hargs, rfl, rfl, h0, r0⟩ := trodAll_cons hA
  obtain ⟨rfl, rfl, rfl⟩ := trodAll_nil r0
  obtain rfl : args = #[v0] := by cases args; simp_all
  have lt0 : ∀ x ∈ p0, x.block < W.heap.size := by obtain ⟨m, hm⟩ := h0; exact DataW.trod_lt m _ _ _ hm
  obtain ⟨rfl, rfl⟩ := trodVars_none hV
  obtain ⟨A0, n0, c0, xs0, rfl, hB0, hc0, hcm0⟩ := open_bytes Try.underlying22 Try.underlying5 (by kernel_rfl) (hval 0 22 v0 rfl rfl) h0
  clear hA0 hval0
  refine (walk A0 n0 c0 xs0 W hB0 (by have := hcm0; unfold maxLen at this; omega)).mono fun e W' ⟨he, bel⟩ => ?_
  subst he
  exact ⟨_, rfl, _, _, _, [], _, [], hW', trodAll_mk1 (shut_bool Try.underlying4 _), (trodAll_cons_mk (Below.trod laidOut (by kernel_rfl) (of_decide_eq_true (by kernel_rfl)) h0 bel lt0) trodAll_mk0), rfl, bel.frame _, fun h => by cases h⟩

theorem over : Rows.bcfourBackRow.holds Try.pinned (OpenSpec.ofChange Rows.bcfourBackSpec) :=
  OpenClaim.holds_of_wide 4 Try.f4 rfl rfl rfl rfl rfl rfl rfl ⟨rfl, rfl, rfl, rfl, rfl⟩ rfl rfl rfl rfl rfl (by kernel_rfl) Try.func4 (by kernel_rfl)
    (of_decide_eq_true (by kernel_rfl)) (by unfold Func.isWrapper; first | (rw [if_pos (by decide +kernel)]; kernel_rfl) | (rw [if_neg (by decide +kernel)]; exact ⟨rfl, rfl⟩))
    (fun os started H enc _ => lifted os started H enc)
end Go.Proofs.Ytfdlfhmkpkckdaa.bcfourBack

namespace Go.Proofs.Ytfdlfhmkpkckdaa
theorem bcfourBack_holds : Rows.BcfourBackSaid := bcfourBack.over
#print axioms bcfourBack_holds
end Go.Proofs.Ytfdlfhmkpkckdaa
