/- The document's Six. -/
import Derived.Test.YtnoailihkjccbaaDoorB7Ref6
import Derived.Test.YtnoailihkjccbaaDoorBitRset
set_option linter.all false
namespace Go.Proofs.YtnoailihkjccbaaDoor
open Go.RowKit
open Bi Lv Bt B7

namespace B7
theorem siV_ok {X M W : List Int} (h : okS X M W) : siV X M W = lay zz false 0 128 (sb X M W) ∧ siE X M W = 0 := ⟨if_pos h, if_pos h⟩
theorem siV_no {X M W : List Int} (h : ¬ okS X M W) : siV X M W = [] ∧ siE X M W = 1 := ⟨if_neg h, if_neg h⟩
theorem zz64 (X M W : List Int) : zz.set 0 64 = lay zz false 0 7 (sb X M W) := by
  have h := Bc.st_lay zz (sb X M W) 0 7 64 zz_lt (fun k hk => sb_0 X M W k hk)
  rw [lay_zero zz false 0 _ zz_lt, Nat.zero_add] at h
  rw [← h]
  decide +kernel
end B7
theorem rset16 (A : Option Addr) (c p m v : Nat) (P M : Int) (hP : P = (p : Int)) (hM : M = (m : Int)) (xs : List Nat) (u : World) (hu : Bs u u.heap.size A 16 xs) (hm : m ≤ 16) (hp : p + m ≤ 128) (hv : v < 2 ^ m) :
    Calls Tryd.prog 35 #[.slice A 16 c, .int .i64 P, .int .i64 M, .bool false, .int .u64 (v : Int)] u (Laid u (st xs false p m v) 0) := by
  subst hP hM
  have h1 : 2 ^ m ≤ 2 ^ 16 := Nat.pow_le_pow_right (by omega) hm
  exact rset_low A 16 c p m v xs u hu (by omega) (by omega) (by omega) hv (by omega)

set_option maxHeartbeats 16000000 in
set_option maxRecDepth 100000 in
theorem rsix_any (X M W : List Int) (w : World) (hX : X.length = 8) (hM : M.length = 2) (hW : W.length = 16) :
    Calls Tryd.prog 14 #[arr X, arr M, arr W] w (Laid w (siV X M W) (siE X M W)) := by
  have E := Lib.hid (Kn.start w)
  have HOK := Lib.hid (fun (h : goW X M W 16) => siV_ok (show okS X M W from h))
  have HNX := Lib.hid (fun t (ht : t < 8) (h : ¬ fitsI (X.getD (fx t) 0) 7) => siV_no (X := X) (M := M) (W := W) fun k => h (k.1.1 t ht))
  have HNM := Lib.hid (fun t (ht : t < 2) (h : ¬ fitsI (M.getD t 0) 1) => siV_no (X := X) (M := M) (W := W) fun k => h (k.1.2 t ht))
  have HNW := Lib.hid (fun t (ht : t < 16) (h : ¬ fitsI (W.getD t 0) (wb t)) => siV_no (X := X) (M := M) (W := W) fun k => h (k.2 t ht))
  have HSX := Lib.hid (fun c i (hc : c < 4) (hi : i < 2) => show st (lay zz false 0 (7 + 14 * c + 7 * i) (sb X M W)) false (7 + 14 * c + 7 * i) 7 (X.getD (i * 4 + c) 0).toNat = lay zz false 0 (7 + 14 * c + 7 * (i + 1)) (sb X M W) from by
    have h := Bc.st_lay zz (sb X M W) (7 + 14 * c + 7 * i) 7 (X.getD (i * 4 + c) 0).toNat zz_lt (fun k hk => by
      have := sb_X X M W (2 * c + i) (by omega) k hk
      rw [show fx (2 * c + i) = i * 4 + c by unfold fx; omega, show 7 + 7 * (2 * c + i) + k = 7 + 14 * c + 7 * i + k by omega] at this
      exact this)
    rw [h, show 7 + 14 * c + 7 * i + 7 = 7 + 14 * c + 7 * (i + 1) by omega])
  have HSM := Lib.hid (fun i (hi : i < 2) => show st (lay zz false 0 (63 + i) (sb X M W)) false (63 + i) 1 (M.getD i 0).toNat = lay zz false 0 (63 + (i + 1)) (sb X M W) from
    Bc.st_lay zz (sb X M W) (63 + i) 1 _ zz_lt (fun k hk => sb_M X M W i hi k hk))
  have HSW := Lib.hid (fun j (hj : j < 16) => show st (lay zz false 0 (wq j) (sb X M W)) false (wq j) (wb j) (W.getD j 0).toNat = lay zz false 0 (wq (j + 1)) (sb X M W) from by
    rw [← wq_succ j]
    exact Bc.st_lay zz (sb X M W) (wq j) (wb j) _ zz_lt (fun k hk => sb_W X M W j hj k hk))
  have HLL : ∀ p, (lay zz false 0 p (sb X M W)).length = 16 := fun p => lay_length _ _ _ _ _
  have HLT : ∀ p, ∀ x ∈ lay zz false 0 p (sb X M W), x < 256 := fun p => lay_lt _ _ _ _ _
  have H7 := zz64 X M W
  obtain ⟨LL, hLL⟩ : ∃ LL : Nat → List Nat, LL = fun p => lay zz false 0 p (sb X M W) := ⟨_, rfl⟩
  have hL (p : Nat) : lay zz false 0 p (sb X M W) = LL p := by rw [hLL]
  simp only [hL] at HOK HSX HSM HSW HLL HLT H7
  clear hL hLL
  replace HLL := Lib.hid HLL
  replace HLT := Lib.hid HLT
  replace H7 := Lib.hid H7
  generalize siV X M W = sv at *
  generalize siE X M W = se at *
  have hzl : Hid (zz.length = 16) := zz_length
  go_enter Tryd.func14, Tryd.ntmps14
  go_wp2_with (first
    | ((with_reducible refine kn_make16 E.out rfl rfl rfl rfl ?_); clear E; intro gg u E0 hB; clear hB; have E := Lib.hid E0; clear E0)
    | ((refine kn_storeb (g := gg) (i := 0) (z := 64) (zs := zz) E.out rfl rfl rfl rfl rfl (by rw [hzl.out]; omega) ?_); clear E; intro u E0; rw [H7.out] at E0; have hB := E0.row_bs (g := gg) (HLT.out 7) 16 (HLL.out 7); have E := Lib.hid ((((((E0.rest gg).rest g5).rest g4).rest g3)).new_bs hB); clear E0 hB)
    | ((with_reducible refine kn_load E.out rfl rfl rfl rfl ?_)) | ((with_reducible refine kn_load_if E.out rfl rfl rfl rfl ?_)) | ((with_reducible refine kn_loads E.out rfl rfl rfl ?_ ?_); (focus (first | rfl | (simp only [i64s_length, u8s_length]; first | rfl | assumption | omega)))) | ((with_reducible refine kn_loads_if E.out rfl rfl rfl ?_ ?_); (focus (first | rfl | (simp only [i64s_length, u8s_length]; first | rfl | assumption | omega)))) | ((with_reducible refine kn_store1_int E.out rfl rfl rfl rfl rfl ?_); clear E; intro u E0; have E := Lib.hid E0; clear E0) | ((with_reducible refine kn_store1_slice E.out rfl rfl rfl rfl rfl ?_); clear E; intro u E0; have E := Lib.hid E0; clear E0) | ((with_reducible refine kn_store1_bool E.out rfl rfl rfl rfl rfl ?_); clear E; intro u E0; have E := Lib.hid E0; clear E0) | ((with_reducible refine kn_stores E.out rfl rfl rfl rfl rfl ?_ ?_ ?_); (focus (first | exact ⟨rfl, rfl⟩ | (simp only [i64s_length, u8s_length]; refine ⟨?_, ?_⟩ <;> first | rfl | assumption | omega))); (focus (first | exact i64s_one _ | exact u8s_one _ | simp [Value.oneCell'])); clear E; intro u E0; have E := Lib.hid E0; clear E0) | ((with_reducible refine kn_alloc (o := ⟨some 3, _, _, _, _, _⟩) E.out rfl rfl ?_); clear E; intro g3 u E0 hb0; have E := Lib.hid E0; clear E0 hb0) | ((with_reducible refine kn_box (o := ⟨some 3, _, _, _, _, _⟩) E.out rfl rfl rfl ?_); clear E; intro g3 u E0 hb0; have E := Lib.hid E0; clear E0 hb0) | ((with_reducible refine kn_box_int (o := ⟨some 3, _, _, _, _, _⟩) E.out rfl rfl rfl ?_); clear E; intro g3 u E0 hb0; have E := Lib.hid E0; clear E0 hb0) | ((with_reducible refine kn_box_slice (o := ⟨some 3, _, _, _, _, _⟩) E.out rfl rfl rfl ?_); clear E; intro g3 u E0 hb0; have E := Lib.hid E0; clear E0 hb0) | ((with_reducible refine kn_box_bool (o := ⟨some 3, _, _, _, _, _⟩) E.out rfl rfl rfl ?_); clear E; intro g3 u E0 hb0; have E := Lib.hid E0; clear E0 hb0) | ((with_reducible refine kn_box_func (o := ⟨some 3, _, _, _, _, _⟩) E.out rfl rfl rfl ?_); clear E; intro g3 u E0 hb0; have E := Lib.hid E0; clear E0 hb0) | ((with_reducible refine kn_alloc (o := ⟨some 4, _, _, _, _, _⟩) E.out rfl rfl ?_); clear E; intro g4 u E0 hb0; have E := Lib.hid E0; clear E0 hb0) | ((with_reducible refine kn_box (o := ⟨some 4, _, _, _, _, _⟩) E.out rfl rfl rfl ?_); clear E; intro g4 u E0 hb0; have E := Lib.hid E0; clear E0 hb0) | ((with_reducible refine kn_box_int (o := ⟨some 4, _, _, _, _, _⟩) E.out rfl rfl rfl ?_); clear E; intro g4 u E0 hb0; have E := Lib.hid E0; clear E0 hb0) | ((with_reducible refine kn_box_slice (o := ⟨some 4, _, _, _, _, _⟩) E.out rfl rfl rfl ?_); clear E; intro g4 u E0 hb0; have E := Lib.hid E0; clear E0 hb0) | ((with_reducible refine kn_box_bool (o := ⟨some 4, _, _, _, _, _⟩) E.out rfl rfl rfl ?_); clear E; intro g4 u E0 hb0; have E := Lib.hid E0; clear E0 hb0) | ((with_reducible refine kn_box_func (o := ⟨some 4, _, _, _, _, _⟩) E.out rfl rfl rfl ?_); clear E; intro g4 u E0 hb0; have E := Lib.hid E0; clear E0 hb0) | ((with_reducible refine kn_alloc (o := ⟨some 5, _, _, _, _, _⟩) E.out rfl rfl ?_); clear E; intro g5 u E0 hb0; have E := Lib.hid E0; clear E0 hb0) | ((with_reducible refine kn_box (o := ⟨some 5, _, _, _, _, _⟩) E.out rfl rfl rfl ?_); clear E; intro g5 u E0 hb0; have E := Lib.hid E0; clear E0 hb0) | ((with_reducible refine kn_box_int (o := ⟨some 5, _, _, _, _, _⟩) E.out rfl rfl rfl ?_); clear E; intro g5 u E0 hb0; have E := Lib.hid E0; clear E0 hb0) | ((with_reducible refine kn_box_slice (o := ⟨some 5, _, _, _, _, _⟩) E.out rfl rfl rfl ?_); clear E; intro g5 u E0 hb0; have E := Lib.hid E0; clear E0 hb0) | ((with_reducible refine kn_box_bool (o := ⟨some 5, _, _, _, _, _⟩) E.out rfl rfl rfl ?_); clear E; intro g5 u E0 hb0; have E := Lib.hid E0; clear E0 hb0) | ((with_reducible refine kn_box_func (o := ⟨some 5, _, _, _, _, _⟩) E.out rfl rfl rfl ?_); clear E; intro g5 u E0 hb0; have E := Lib.hid E0; clear E0 hb0) | ((with_reducible refine kn_alloc E.out rfl rfl ?_); clear E; intro g u E0 hb0; have E := Lib.hid E0; clear E0 hb0) | ((with_reducible refine kn_box E.out rfl rfl rfl ?_); clear E; intro g u E0 hb0; have E := Lib.hid E0; clear E0 hb0) | ((with_reducible refine kn_box_int E.out rfl rfl rfl ?_); clear E; intro g u E0 hb0; have E := Lib.hid E0; clear E0 hb0) | ((with_reducible refine kn_box_slice E.out rfl rfl rfl ?_); clear E; intro g u E0 hb0; have E := Lib.hid E0; clear E0 hb0) | ((with_reducible refine kn_box_bool E.out rfl rfl rfl ?_); clear E; intro g u E0 hb0; have E := Lib.hid E0; clear E0 hb0) | ((with_reducible refine kn_box_func E.out rfl rfl rfl ?_); clear E; intro g u E0 hb0; have E := Lib.hid E0; clear E0 hb0))
  go_loopw [10, 8, 9] (fun ci s p wr => ∃ (c : Nat) (A : Option Addr) (c3 : Nat), c ≤ 4 ∧ ci = .int .i64 c ∧ s = .slice A 16 c3 ∧ p = .int .i64 ((7 + 14 * c : Nat) : Int) ∧ (16 ≤ c3 ∧ c3 ≤ 9223372036854775807) ∧ Hid (goX X (2 * c)) ∧ Hid (Kn w [] [bsF A 16 (LL (7 + 14 * c)), rowF g5 35 (i64s W), rowF g4 34 (i64s M), rowF g3 33 (i64s X)] wr)) (fun ci _ _ _ => 4 - (intOf ci).toNat)
  case atStart => exact ⟨0, _, _, by omega, rfl, rfl, rfl, ⟨by omega, by omega⟩, (goX_zero X).2 trivial, E.out.part _ _ (List.Sublist.refl _) (by simp)⟩
  case round =>
    clear E H7
    obtain ⟨c, A, c3, hc, rfl, rfl, rfl, hc3, hgo, E⟩ := hrel
    by_cases hlt : c < 4
    · have hc4 : (c : Int) < 4 := by omega
      go_wp2_with (first | ((with_reducible refine kn_load E.out rfl rfl rfl rfl ?_)) | ((with_reducible refine kn_load_if E.out rfl rfl rfl rfl ?_)) | ((with_reducible refine kn_loads E.out rfl rfl rfl ?_ ?_); (focus (first | rfl | (simp only [i64s_length, u8s_length]; first | rfl | assumption | omega)))) | ((with_reducible refine kn_loads_if E.out rfl rfl rfl ?_ ?_); (focus (first | rfl | (simp only [i64s_length, u8s_length]; first | rfl | assumption | omega)))) | ((with_reducible refine kn_store1_int E.out rfl rfl rfl rfl rfl ?_); clear E; intro u E0; have E := Lib.hid E0; clear E0) | ((with_reducible refine kn_store1_slice E.out rfl rfl rfl rfl rfl ?_); clear E; intro u E0; have E := Lib.hid E0; clear E0) | ((with_reducible refine kn_store1_bool E.out rfl rfl rfl rfl rfl ?_); clear E; intro u E0; have E := Lib.hid E0; clear E0) | ((with_reducible refine kn_stores E.out rfl rfl rfl rfl rfl ?_ ?_ ?_); (focus (first | exact ⟨rfl, rfl⟩ | (simp only [i64s_length, u8s_length]; refine ⟨?_, ?_⟩ <;> first | rfl | assumption | omega))); (focus (first | exact i64s_one _ | exact u8s_one _ | simp [Value.oneCell'])); clear E; intro u E0; have E := Lib.hid E0; clear E0) | ((with_reducible refine kn_alloc E.out rfl rfl ?_); clear E; intro g u E0 hb0; have E := Lib.hid E0; clear E0 hb0) | ((with_reducible refine kn_box E.out rfl rfl rfl ?_); clear E; intro g u E0 hb0; have E := Lib.hid E0; clear E0 hb0) | ((with_reducible refine kn_box_int E.out rfl rfl rfl ?_); clear E; intro g u E0 hb0; have E := Lib.hid E0; clear E0 hb0) | ((with_reducible refine kn_box_slice E.out rfl rfl rfl ?_); clear E; intro g u E0 hb0; have E := Lib.hid E0; clear E0 hb0) | ((with_reducible refine kn_box_bool E.out rfl rfl rfl ?_); clear E; intro g u E0 hb0; have E := Lib.hid E0; clear E0 hb0) | ((with_reducible refine kn_box_func E.out rfl rfl rfl ?_); clear E; intro g u E0 hb0; have E := Lib.hid E0; clear E0 hb0))
      go_loopw [11, 8, 9] (fun ii s p wr => ∃ (i : Nat) (A : Option Addr) (c3 : Nat), i ≤ 2 ∧ ii = .int .i64 i ∧ s = .slice A 16 c3 ∧ p = .int .i64 ((7 + 14 * c + 7 * i : Nat) : Int) ∧ (16 ≤ c3 ∧ c3 ≤ 9223372036854775807) ∧ Hid (goX X (2 * c + i)) ∧ Hid (Kn w [] [bsF A 16 (LL (7 + 14 * c + 7 * i)), rowF g5 35 (i64s W), rowF g4 34 (i64s M), rowF g3 33 (i64s X)] wr)) (fun ii _ _ _ => 2 - (intOf ii).toNat)
      case atStart => exact ⟨0, A, c3, by omega, rfl, rfl, rfl, hc3, hgo, E⟩
      case round =>
        clear E hgo hc3
        obtain ⟨i, A, c3, hi, rfl, rfl, rfl, hc3, hgo, E⟩ := hrel
        by_cases hlt2 : i < 2
        · have hi2 : (i : Int) < 2 := by omega
          have hsx := HSX.out c i hlt hlt2
          have hnx := HNX.out (2 * c + i) (by omega)
          have hgs := goX_succ X (2 * c + i)
          rw [show fx (2 * c + i) = i * 4 + c by unfold fx; omega] at hnx hgs
          have hll := HLL.out (7 + 14 * c + 7 * (i + 1))
          have hxl : i * 4 + c < X.length := by omega
          obtain ⟨x, hx⟩ : ∃ z, X.getD (i * 4 + c) 0 = z := ⟨_, rfl⟩
          rw [hx] at hsx hnx hgs
          have hXg := Lib.hid hx
          clear HSX HNX HNM HNW HSM HSW HLL HLT HOK hx
          obtain ⟨p0, hp0⟩ : ∃ z, 7 + 14 * c + 7 * i = z := ⟨_, rfl⟩
          obtain ⟨p1, hp1⟩ : ∃ z, 7 + 14 * c + 7 * (i + 1) = z := ⟨_, rfl⟩
          have hp7 := Lib.hid (show ((p1 : Nat) : Int) = (p0 : Int) + 7 from by omega)
          have hp128 : p0 + 7 ≤ 128 := by omega
          rw [hp0] at hsx E ⊢
          rw [hp1] at hsx hll
          have HP1 := Lib.hid hp1
          clear hp0 hp1
          by_cases hfit : fitsI x 7
          · have hgo' := Lib.hid (hgs.2 ⟨hgo.out, hfit⟩)
            obtain ⟨v, hv⟩ := Int.eq_ofNat_of_zero_le hfit.1
            subst hv
            have hv128 : v < 128 := by have := hfit.2; omega
            rw [Int.toNat_natCast] at hsx
            have hS := Lib.hid (fun (u : World) (hu : Bs u u.heap.size A 16 (LL p0)) => show Calls Tryd.prog 35 #[.slice A 16 c3, .int .i64 (p0 : Int), .int .i64 7, .bool false, .int .u64 (v : Int)] u (Laid u (LL p1) 0) from by
              rw [← hsx]
              exact rset16 A c3 p0 7 v _ _ rfl rfl _ u hu (by omega) hp128 hv128)
            clear hsx hnx hgs hfit hgo
            go_wp2_with (first
              | ((with_reducible refine kn_loadi (g := g3) (i := i * 4 + c) E.out rfl rfl rfl ?hi ?_); (case hi => exact hxl); rw [hXg.out])
              | ((with_reducible refine kn_loadi_if (g := g3) (i := i * 4 + c) E.out rfl rfl rfl ?hi ?_); (case hi => exact hxl); rw [hXg.out])
              | (go_at_call 35; refine (hS.out _ (E.out.bs (by simp))).mono ?_; rintro e w1 ⟨A4, n4, c4, rfl, hB1, hn4, hc4, hb⟩; obtain rfl : n4 = 16 := hB1.1.symm.trans hll; have E1 := Lib.hid (E.out.later hb); clear hb E; have E := E1; clear E1; have E1 := Lib.hid (E.out.new_bs hB1); clear E hB1; have E := E1; clear E1)
              | ((with_reducible refine kn_load E.out rfl rfl rfl rfl ?_)) | ((with_reducible refine kn_load_if E.out rfl rfl rfl rfl ?_)) | ((with_reducible refine kn_loads E.out rfl rfl rfl ?_ ?_); (focus (first | rfl | (simp only [i64s_length, u8s_length]; first | rfl | assumption | omega)))) | ((with_reducible refine kn_loads_if E.out rfl rfl rfl ?_ ?_); (focus (first | rfl | (simp only [i64s_length, u8s_length]; first | rfl | assumption | omega)))) | ((with_reducible refine kn_store1_int E.out rfl rfl rfl rfl rfl ?_); clear E; intro u E0; have E := Lib.hid E0; clear E0) | ((with_reducible refine kn_store1_slice E.out rfl rfl rfl rfl rfl ?_); clear E; intro u E0; have E := Lib.hid E0; clear E0) | ((with_reducible refine kn_store1_bool E.out rfl rfl rfl rfl rfl ?_); clear E; intro u E0; have E := Lib.hid E0; clear E0) | ((with_reducible refine kn_stores E.out rfl rfl rfl rfl rfl ?_ ?_ ?_); (focus (first | exact ⟨rfl, rfl⟩ | (simp only [i64s_length, u8s_length]; refine ⟨?_, ?_⟩ <;> first | rfl | assumption | omega))); (focus (first | exact i64s_one _ | exact u8s_one _ | simp [Value.oneCell'])); clear E; intro u E0; have E := Lib.hid E0; clear E0) | ((with_reducible refine kn_alloc E.out rfl rfl ?_); clear E; intro g u E0 hb0; have E := Lib.hid E0; clear E0 hb0) | ((with_reducible refine kn_box E.out rfl rfl rfl ?_); clear E; intro g u E0 hb0; have E := Lib.hid E0; clear E0 hb0) | ((with_reducible refine kn_box_int E.out rfl rfl rfl ?_); clear E; intro g u E0 hb0; have E := Lib.hid E0; clear E0 hb0) | ((with_reducible refine kn_box_slice E.out rfl rfl rfl ?_); clear E; intro g u E0 hb0; have E := Lib.hid E0; clear E0 hb0) | ((with_reducible refine kn_box_bool E.out rfl rfl rfl ?_); clear E; intro g u E0 hb0; have E := Lib.hid E0; clear E0 hb0) | ((with_reducible refine kn_box_func E.out rfl rfl rfl ?_); clear E; intro g u E0 hb0; have E := Lib.hid E0; clear E0 hb0))
            go_roundw
            case rel => exact ⟨i + 1, A4, c4, by omega, by go_num, rfl, by rw [HP1.out, hp7.out], ⟨hn4, hc4⟩, hgo', by rw [HP1.out]; exact E.out.part _ _ (List.Sublist.refl _) (by simp)⟩
            case measure => simp [intOf]; try omega
          · have hno := Lib.hid (hnx hfit)
            have hxx : x < 0 ∨ 127 < x := by unfold fitsI at hfit; omega
            clear hsx hnx hgs hfit hgo
            rcases hxx with hneg | hbig
            · go_wp2_with (first
                | ((with_reducible refine kn_loadi (g := g3) (i := i * 4 + c) E.out rfl rfl rfl ?hi ?_); (case hi => exact hxl); rw [hXg.out])
                | ((with_reducible refine kn_loadi_if (g := g3) (i := i * 4 + c) E.out rfl rfl rfl ?hi ?_); (case hi => exact hxl); rw [hXg.out])
                | ((with_reducible refine kn_load E.out rfl rfl rfl rfl ?_)) | ((with_reducible refine kn_load_if E.out rfl rfl rfl rfl ?_)) | ((with_reducible refine kn_loads E.out rfl rfl rfl ?_ ?_); (focus (first | rfl | (simp only [i64s_length, u8s_length]; first | rfl | assumption | omega)))) | ((with_reducible refine kn_loads_if E.out rfl rfl rfl ?_ ?_); (focus (first | rfl | (simp only [i64s_length, u8s_length]; first | rfl | assumption | omega)))) | ((with_reducible refine kn_store1_int E.out rfl rfl rfl rfl rfl ?_); clear E; intro u E0; have E := Lib.hid E0; clear E0) | ((with_reducible refine kn_store1_slice E.out rfl rfl rfl rfl rfl ?_); clear E; intro u E0; have E := Lib.hid E0; clear E0) | ((with_reducible refine kn_store1_bool E.out rfl rfl rfl rfl rfl ?_); clear E; intro u E0; have E := Lib.hid E0; clear E0) | ((with_reducible refine kn_stores E.out rfl rfl rfl rfl rfl ?_ ?_ ?_); (focus (first | exact ⟨rfl, rfl⟩ | (simp only [i64s_length, u8s_length]; refine ⟨?_, ?_⟩ <;> first | rfl | assumption | omega))); (focus (first | exact i64s_one _ | exact u8s_one _ | simp [Value.oneCell'])); clear E; intro u E0; have E := Lib.hid E0; clear E0) | ((with_reducible refine kn_alloc E.out rfl rfl ?_); clear E; intro g u E0 hb0; have E := Lib.hid E0; clear E0 hb0) | ((with_reducible refine kn_box E.out rfl rfl rfl ?_); clear E; intro g u E0 hb0; have E := Lib.hid E0; clear E0 hb0) | ((with_reducible refine kn_box_int E.out rfl rfl rfl ?_); clear E; intro g u E0 hb0; have E := Lib.hid E0; clear E0 hb0) | ((with_reducible refine kn_box_slice E.out rfl rfl rfl ?_); clear E; intro g u E0 hb0; have E := Lib.hid E0; clear E0 hb0) | ((with_reducible refine kn_box_bool E.out rfl rfl rfl ?_); clear E; intro g u E0 hb0; have E := Lib.hid E0; clear E0 hb0) | ((with_reducible refine kn_box_func E.out rfl rfl rfl ?_); clear E; intro g u E0 hb0; have E := Lib.hid E0; clear E0 hb0))
              go_ret2
              rw [hno.out.1, hno.out.2]
              exact ⟨none, 0, 0, rfl, ⟨rfl, by simp, fun h => absurd h (by omega)⟩, by omega, by omega, E.out.bel⟩
            · have hneg : ¬ x < 0 := by omega
              go_wp2_with (first
                | ((with_reducible refine kn_loadi (g := g3) (i := i * 4 + c) E.out rfl rfl rfl ?hi ?_); (case hi => exact hxl); rw [hXg.out])
                | ((with_reducible refine kn_loadi_if (g := g3) (i := i * 4 + c) E.out rfl rfl rfl ?hi ?_); (case hi => exact hxl); rw [hXg.out])
                | ((with_reducible refine kn_load E.out rfl rfl rfl rfl ?_)) | ((with_reducible refine kn_load_if E.out rfl rfl rfl rfl ?_)) | ((with_reducible refine kn_loads E.out rfl rfl rfl ?_ ?_); (focus (first | rfl | (simp only [i64s_length, u8s_length]; first | rfl | assumption | omega)))) | ((with_reducible refine kn_loads_if E.out rfl rfl rfl ?_ ?_); (focus (first | rfl | (simp only [i64s_length, u8s_length]; first | rfl | assumption | omega)))) | ((with_reducible refine kn_store1_int E.out rfl rfl rfl rfl rfl ?_); clear E; intro u E0; have E := Lib.hid E0; clear E0) | ((with_reducible refine kn_store1_slice E.out rfl rfl rfl rfl rfl ?_); clear E; intro u E0; have E := Lib.hid E0; clear E0) | ((with_reducible refine kn_store1_bool E.out rfl rfl rfl rfl rfl ?_); clear E; intro u E0; have E := Lib.hid E0; clear E0) | ((with_reducible refine kn_stores E.out rfl rfl rfl rfl rfl ?_ ?_ ?_); (focus (first | exact ⟨rfl, rfl⟩ | (simp only [i64s_length, u8s_length]; refine ⟨?_, ?_⟩ <;> first | rfl | assumption | omega))); (focus (first | exact i64s_one _ | exact u8s_one _ | simp [Value.oneCell'])); clear E; intro u E0; have E := Lib.hid E0; clear E0) | ((with_reducible refine kn_alloc E.out rfl rfl ?_); clear E; intro g u E0 hb0; have E := Lib.hid E0; clear E0 hb0) | ((with_reducible refine kn_box E.out rfl rfl rfl ?_); clear E; intro g u E0 hb0; have E := Lib.hid E0; clear E0 hb0) | ((with_reducible refine kn_box_int E.out rfl rfl rfl ?_); clear E; intro g u E0 hb0; have E := Lib.hid E0; clear E0 hb0) | ((with_reducible refine kn_box_slice E.out rfl rfl rfl ?_); clear E; intro g u E0 hb0; have E := Lib.hid E0; clear E0 hb0) | ((with_reducible refine kn_box_bool E.out rfl rfl rfl ?_); clear E; intro g u E0 hb0; have E := Lib.hid E0; clear E0 hb0) | ((with_reducible refine kn_box_func E.out rfl rfl rfl ?_); clear E; intro g u E0 hb0; have E := Lib.hid E0; clear E0 hb0))
              go_ret2
              rw [hno.out.1, hno.out.2]
              exact ⟨none, 0, 0, rfl, ⟨rfl, by simp, fun h => absurd h (by omega)⟩, by omega, by omega, E.out.bel⟩
        · obtain rfl : i = 2 := by omega
          have hgo' := Lib.hid (show goX X (2 * (c + 1)) from hgo.out)
          clear HSX HNX HNM HNW HSM HSW HLL HLT HOK hlt2 hgo
          have hpe : 7 + 14 * c + 7 * 2 = 7 + 14 * (c + 1) := by omega
          rw [hpe] at E ⊢
          replace hpe := Lib.hid hpe
          go_wp2_with (first | ((with_reducible refine kn_load E.out rfl rfl rfl rfl ?_)) | ((with_reducible refine kn_load_if E.out rfl rfl rfl rfl ?_)) | ((with_reducible refine kn_loads E.out rfl rfl rfl ?_ ?_); (focus (first | rfl | (simp only [i64s_length, u8s_length]; first | rfl | assumption | omega)))) | ((with_reducible refine kn_loads_if E.out rfl rfl rfl ?_ ?_); (focus (first | rfl | (simp only [i64s_length, u8s_length]; first | rfl | assumption | omega)))) | ((with_reducible refine kn_store1_int E.out rfl rfl rfl rfl rfl ?_); clear E; intro u E0; have E := Lib.hid E0; clear E0) | ((with_reducible refine kn_store1_slice E.out rfl rfl rfl rfl rfl ?_); clear E; intro u E0; have E := Lib.hid E0; clear E0) | ((with_reducible refine kn_store1_bool E.out rfl rfl rfl rfl rfl ?_); clear E; intro u E0; have E := Lib.hid E0; clear E0) | ((with_reducible refine kn_stores E.out rfl rfl rfl rfl rfl ?_ ?_ ?_); (focus (first | exact ⟨rfl, rfl⟩ | (simp only [i64s_length, u8s_length]; refine ⟨?_, ?_⟩ <;> first | rfl | assumption | omega))); (focus (first | exact i64s_one _ | exact u8s_one _ | simp [Value.oneCell'])); clear E; intro u E0; have E := Lib.hid E0; clear E0) | ((with_reducible refine kn_alloc E.out rfl rfl ?_); clear E; intro g u E0 hb0; have E := Lib.hid E0; clear E0 hb0) | ((with_reducible refine kn_box E.out rfl rfl rfl ?_); clear E; intro g u E0 hb0; have E := Lib.hid E0; clear E0 hb0) | ((with_reducible refine kn_box_int E.out rfl rfl rfl ?_); clear E; intro g u E0 hb0; have E := Lib.hid E0; clear E0 hb0) | ((with_reducible refine kn_box_slice E.out rfl rfl rfl ?_); clear E; intro g u E0 hb0; have E := Lib.hid E0; clear E0 hb0) | ((with_reducible refine kn_box_bool E.out rfl rfl rfl ?_); clear E; intro g u E0 hb0; have E := Lib.hid E0; clear E0 hb0) | ((with_reducible refine kn_box_func E.out rfl rfl rfl ?_); clear E; intro g u E0 hb0; have E := Lib.hid E0; clear E0 hb0))
          go_roundw
          case rel => exact ⟨c + 1, A, c3, by omega, by go_num, rfl, rfl, hc3, hgo', E⟩
          case measure => simp [intOf]; try omega
    · have hce : c = 4 := by omega
      have hcn : ¬ ((c : Int) < 4) := by omega
      have hgo' := Lib.hid ((goM_zero X M).2 (show goX X 8 from by have := hgo.out; rw [hce] at this; exact this))
      have hpe : 7 + 14 * c = 63 + 0 := by omega
      clear HSX HNX hlt hgo hce
      rw [hpe] at E ⊢
      clear hpe
      go_wp2_with (first | ((with_reducible refine kn_load E.out rfl rfl rfl rfl ?_)) | ((with_reducible refine kn_load_if E.out rfl rfl rfl rfl ?_)) | ((with_reducible refine kn_loads E.out rfl rfl rfl ?_ ?_); (focus (first | rfl | (simp only [i64s_length, u8s_length]; first | rfl | assumption | omega)))) | ((with_reducible refine kn_loads_if E.out rfl rfl rfl ?_ ?_); (focus (first | rfl | (simp only [i64s_length, u8s_length]; first | rfl | assumption | omega)))) | ((with_reducible refine kn_store1_int E.out rfl rfl rfl rfl rfl ?_); clear E; intro u E0; have E := Lib.hid E0; clear E0) | ((with_reducible refine kn_store1_slice E.out rfl rfl rfl rfl rfl ?_); clear E; intro u E0; have E := Lib.hid E0; clear E0) | ((with_reducible refine kn_store1_bool E.out rfl rfl rfl rfl rfl ?_); clear E; intro u E0; have E := Lib.hid E0; clear E0) | ((with_reducible refine kn_stores E.out rfl rfl rfl rfl rfl ?_ ?_ ?_); (focus (first | exact ⟨rfl, rfl⟩ | (simp only [i64s_length, u8s_length]; refine ⟨?_, ?_⟩ <;> first | rfl | assumption | omega))); (focus (first | exact i64s_one _ | exact u8s_one _ | simp [Value.oneCell'])); clear E; intro u E0; have E := Lib.hid E0; clear E0) | ((with_reducible refine kn_alloc E.out rfl rfl ?_); clear E; intro g u E0 hb0; have E := Lib.hid E0; clear E0 hb0) | ((with_reducible refine kn_box E.out rfl rfl rfl ?_); clear E; intro g u E0 hb0; have E := Lib.hid E0; clear E0 hb0) | ((with_reducible refine kn_box_int E.out rfl rfl rfl ?_); clear E; intro g u E0 hb0; have E := Lib.hid E0; clear E0 hb0) | ((with_reducible refine kn_box_slice E.out rfl rfl rfl ?_); clear E; intro g u E0 hb0; have E := Lib.hid E0; clear E0 hb0) | ((with_reducible refine kn_box_bool E.out rfl rfl rfl ?_); clear E; intro g u E0 hb0; have E := Lib.hid E0; clear E0 hb0) | ((with_reducible refine kn_box_func E.out rfl rfl rfl ?_); clear E; intro g u E0 hb0; have E := Lib.hid E0; clear E0 hb0))
      go_loopw [12, 8, 9] (fun ii s p wr => ∃ (i : Nat) (A : Option Addr) (c3 : Nat), i ≤ 2 ∧ ii = .int .i64 i ∧ s = .slice A 16 c3 ∧ p = .int .i64 ((63 + i : Nat) : Int) ∧ (16 ≤ c3 ∧ c3 ≤ 9223372036854775807) ∧ Hid (goM X M i) ∧ Hid (Kn w [] [bsF A 16 (LL (63 + i)), rowF g5 35 (i64s W), rowF g4 34 (i64s M), rowF g3 33 (i64s X)] wr)) (fun ii _ _ _ => 2 - (intOf ii).toNat)
      case atStart => exact ⟨0, A, c3, by omega, rfl, rfl, rfl, hc3, hgo', E⟩
      case round =>
        clear E hgo' hc3
        obtain ⟨i, A, c3, hi, rfl, rfl, rfl, hc3, hgo, E⟩ := hrel
        by_cases hlt2 : i < 2
        · have hi2 : (i : Int) < 2 := by omega
          have hsx := HSM.out i hlt2
          have hnx := HNM.out i hlt2
          have hgs := goM_succ X M i
          have hll := HLL.out (63 + (i + 1))
          have hxl : i < M.length := by omega
          obtain ⟨x, hx⟩ : ∃ z, M.getD i 0 = z := ⟨_, rfl⟩
          rw [hx] at hsx hnx hgs
          have hXg := Lib.hid hx
          clear HNM HNW HSM HSW HLL HLT HOK hx
          obtain ⟨p0, hp0⟩ : ∃ z, 63 + i = z := ⟨_, rfl⟩
          obtain ⟨p1, hp1⟩ : ∃ z, 63 + (i + 1) = z := ⟨_, rfl⟩
          have hp7 := Lib.hid (show ((p1 : Nat) : Int) = (p0 : Int) + 1 from by omega)
          have hp128 : p0 + 1 ≤ 128 := by omega
          rw [hp0] at hsx E ⊢
          rw [hp1] at hsx hll
          have HP1 := Lib.hid hp1
          clear hp0 hp1
          by_cases hfit : fitsI x 1
          · have hgo' := Lib.hid (hgs.2 ⟨hgo.out, hfit⟩)
            obtain ⟨v, hv⟩ := Int.eq_ofNat_of_zero_le hfit.1
            subst hv
            have hv128 : v < 2 := by have := hfit.2; omega
            rw [Int.toNat_natCast] at hsx
            have hS := Lib.hid (fun (u : World) (hu : Bs u u.heap.size A 16 (LL p0)) => show Calls Tryd.prog 35 #[.slice A 16 c3, .int .i64 (p0 : Int), .int .i64 1, .bool false, .int .u64 (v : Int)] u (Laid u (LL p1) 0) from by
              rw [← hsx]
              exact rset16 A c3 p0 1 v _ _ rfl rfl _ u hu (by omega) hp128 hv128)
            clear hsx hnx hgs hfit hgo
            go_wp2_with (first
              | ((with_reducible refine kn_loadi (g := g4) (i := i) E.out rfl rfl rfl ?hi ?_); (case hi => exact hxl); rw [hXg.out])
                        | ((with_reducible refine kn_loadi_if (g := g4) (i := i) E.out rfl rfl rfl ?hi ?_); (case hi => exact hxl); rw [hXg.out])
              | (go_at_call 35; refine (hS.out _ (E.out.bs (by simp))).mono ?_; rintro e w1 ⟨A4, n4, c4, rfl, hB1, hn4, hc4, hb⟩; obtain rfl : n4 = 16 := hB1.1.symm.trans hll; have E1 := Lib.hid (E.out.later hb); clear hb E; have E := E1; clear E1; have E1 := Lib.hid (E.out.new_bs hB1); clear E hB1; have E := E1; clear E1)
              | ((with_reducible refine kn_load E.out rfl rfl rfl rfl ?_)) | ((with_reducible refine kn_load_if E.out rfl rfl rfl rfl ?_)) | ((with_reducible refine kn_loads E.out rfl rfl rfl ?_ ?_); (focus (first | rfl | (simp only [i64s_length, u8s_length]; first | rfl | assumption | omega)))) | ((with_reducible refine kn_loads_if E.out rfl rfl rfl ?_ ?_); (focus (first | rfl | (simp only [i64s_length, u8s_length]; first | rfl | assumption | omega)))) | ((with_reducible refine kn_store1_int E.out rfl rfl rfl rfl rfl ?_); clear E; intro u E0; have E := Lib.hid E0; clear E0) | ((with_reducible refine kn_store1_slice E.out rfl rfl rfl rfl rfl ?_); clear E; intro u E0; have E := Lib.hid E0; clear E0) | ((with_reducible refine kn_store1_bool E.out rfl rfl rfl rfl rfl ?_); clear E; intro u E0; have E := Lib.hid E0; clear E0) | ((with_reducible refine kn_stores E.out rfl rfl rfl rfl rfl ?_ ?_ ?_); (focus (first | exact ⟨rfl, rfl⟩ | (simp only [i64s_length, u8s_length]; refine ⟨?_, ?_⟩ <;> first | rfl | assumption | omega))); (focus (first | exact i64s_one _ | exact u8s_one _ | simp [Value.oneCell'])); clear E; intro u E0; have E := Lib.hid E0; clear E0) | ((with_reducible refine kn_alloc E.out rfl rfl ?_); clear E; intro g u E0 hb0; have E := Lib.hid E0; clear E0 hb0) | ((with_reducible refine kn_box E.out rfl rfl rfl ?_); clear E; intro g u E0 hb0; have E := Lib.hid E0; clear E0 hb0) | ((with_reducible refine kn_box_int E.out rfl rfl rfl ?_); clear E; intro g u E0 hb0; have E := Lib.hid E0; clear E0 hb0) | ((with_reducible refine kn_box_slice E.out rfl rfl rfl ?_); clear E; intro g u E0 hb0; have E := Lib.hid E0; clear E0 hb0) | ((with_reducible refine kn_box_bool E.out rfl rfl rfl ?_); clear E; intro g u E0 hb0; have E := Lib.hid E0; clear E0 hb0) | ((with_reducible refine kn_box_func E.out rfl rfl rfl ?_); clear E; intro g u E0 hb0; have E := Lib.hid E0; clear E0 hb0))
            go_roundw
            case rel => exact ⟨i + 1, A4, c4, by omega, by go_num, rfl, by rw [HP1.out, hp7.out], ⟨hn4, hc4⟩, hgo', by rw [HP1.out]; exact E.out.part _ _ (List.Sublist.refl _) (by simp)⟩
            case measure => simp [intOf]; try omega
          · have hno := Lib.hid (hnx hfit)
            have hxx : x < 0 ∨ 1 < x := by unfold fitsI at hfit; omega
            clear hsx hnx hgs hfit hgo
            rcases hxx with hneg | hbig
            · go_wp2_with (first
                | ((with_reducible refine kn_loadi (g := g4) (i := i) E.out rfl rfl rfl ?hi ?_); (case hi => exact hxl); rw [hXg.out])
                        | ((with_reducible refine kn_loadi_if (g := g4) (i := i) E.out rfl rfl rfl ?hi ?_); (case hi => exact hxl); rw [hXg.out])
                | ((with_reducible refine kn_load E.out rfl rfl rfl rfl ?_)) | ((with_reducible refine kn_load_if E.out rfl rfl rfl rfl ?_)) | ((with_reducible refine kn_loads E.out rfl rfl rfl ?_ ?_); (focus (first | rfl | (simp only [i64s_length, u8s_length]; first | rfl | assumption | omega)))) | ((with_reducible refine kn_loads_if E.out rfl rfl rfl ?_ ?_); (focus (first | rfl | (simp only [i64s_length, u8s_length]; first | rfl | assumption | omega)))) | ((with_reducible refine kn_store1_int E.out rfl rfl rfl rfl rfl ?_); clear E; intro u E0; have E := Lib.hid E0; clear E0) | ((with_reducible refine kn_store1_slice E.out rfl rfl rfl rfl rfl ?_); clear E; intro u E0; have E := Lib.hid E0; clear E0) | ((with_reducible refine kn_store1_bool E.out rfl rfl rfl rfl rfl ?_); clear E; intro u E0; have E := Lib.hid E0; clear E0) | ((with_reducible refine kn_stores E.out rfl rfl rfl rfl rfl ?_ ?_ ?_); (focus (first | exact ⟨rfl, rfl⟩ | (simp only [i64s_length, u8s_length]; refine ⟨?_, ?_⟩ <;> first | rfl | assumption | omega))); (focus (first | exact i64s_one _ | exact u8s_one _ | simp [Value.oneCell'])); clear E; intro u E0; have E := Lib.hid E0; clear E0) | ((with_reducible refine kn_alloc E.out rfl rfl ?_); clear E; intro g u E0 hb0; have E := Lib.hid E0; clear E0 hb0) | ((with_reducible refine kn_box E.out rfl rfl rfl ?_); clear E; intro g u E0 hb0; have E := Lib.hid E0; clear E0 hb0) | ((with_reducible refine kn_box_int E.out rfl rfl rfl ?_); clear E; intro g u E0 hb0; have E := Lib.hid E0; clear E0 hb0) | ((with_reducible refine kn_box_slice E.out rfl rfl rfl ?_); clear E; intro g u E0 hb0; have E := Lib.hid E0; clear E0 hb0) | ((with_reducible refine kn_box_bool E.out rfl rfl rfl ?_); clear E; intro g u E0 hb0; have E := Lib.hid E0; clear E0 hb0) | ((with_reducible refine kn_box_func E.out rfl rfl rfl ?_); clear E; intro g u E0 hb0; have E := Lib.hid E0; clear E0 hb0))
              go_ret2
              rw [hno.out.1, hno.out.2]
              exact ⟨none, 0, 0, rfl, ⟨rfl, by simp, fun h => absurd h (by omega)⟩, by omega, by omega, E.out.bel⟩
            · have hneg : ¬ x < 0 := by omega
              go_wp2_with (first
                | ((with_reducible refine kn_loadi (g := g4) (i := i) E.out rfl rfl rfl ?hi ?_); (case hi => exact hxl); rw [hXg.out])
                        | ((with_reducible refine kn_loadi_if (g := g4) (i := i) E.out rfl rfl rfl ?hi ?_); (case hi => exact hxl); rw [hXg.out])
                | ((with_reducible refine kn_load E.out rfl rfl rfl rfl ?_)) | ((with_reducible refine kn_load_if E.out rfl rfl rfl rfl ?_)) | ((with_reducible refine kn_loads E.out rfl rfl rfl ?_ ?_); (focus (first | rfl | (simp only [i64s_length, u8s_length]; first | rfl | assumption | omega)))) | ((with_reducible refine kn_loads_if E.out rfl rfl rfl ?_ ?_); (focus (first | rfl | (simp only [i64s_length, u8s_length]; first | rfl | assumption | omega)))) | ((with_reducible refine kn_store1_int E.out rfl rfl rfl rfl rfl ?_); clear E; intro u E0; have E := Lib.hid E0; clear E0) | ((with_reducible refine kn_store1_slice E.out rfl rfl rfl rfl rfl ?_); clear E; intro u E0; have E := Lib.hid E0; clear E0) | ((with_reducible refine kn_store1_bool E.out rfl rfl rfl rfl rfl ?_); clear E; intro u E0; have E := Lib.hid E0; clear E0) | ((with_reducible refine kn_stores E.out rfl rfl rfl rfl rfl ?_ ?_ ?_); (focus (first | exact ⟨rfl, rfl⟩ | (simp only [i64s_length, u8s_length]; refine ⟨?_, ?_⟩ <;> first | rfl | assumption | omega))); (focus (first | exact i64s_one _ | exact u8s_one _ | simp [Value.oneCell'])); clear E; intro u E0; have E := Lib.hid E0; clear E0) | ((with_reducible refine kn_alloc E.out rfl rfl ?_); clear E; intro g u E0 hb0; have E := Lib.hid E0; clear E0 hb0) | ((with_reducible refine kn_box E.out rfl rfl rfl ?_); clear E; intro g u E0 hb0; have E := Lib.hid E0; clear E0 hb0) | ((with_reducible refine kn_box_int E.out rfl rfl rfl ?_); clear E; intro g u E0 hb0; have E := Lib.hid E0; clear E0 hb0) | ((with_reducible refine kn_box_slice E.out rfl rfl rfl ?_); clear E; intro g u E0 hb0; have E := Lib.hid E0; clear E0 hb0) | ((with_reducible refine kn_box_bool E.out rfl rfl rfl ?_); clear E; intro g u E0 hb0; have E := Lib.hid E0; clear E0 hb0) | ((with_reducible refine kn_box_func E.out rfl rfl rfl ?_); clear E; intro g u E0 hb0; have E := Lib.hid E0; clear E0 hb0))
              go_ret2
              rw [hno.out.1, hno.out.2]
              exact ⟨none, 0, 0, rfl, ⟨rfl, by simp, fun h => absurd h (by omega)⟩, by omega, by omega, E.out.bel⟩
        · have hie : i = 2 := by omega
          have hin : ¬ ((i : Int) < 2) := by omega
          have hgo' := Lib.hid ((goW_zero X M W).2 (show goM X M 2 from by have := hgo.out; rw [hie] at this; exact this))
          have hpe : 63 + i = wq 0 := by rw [hie]; rfl
          clear HNM HSM hlt2 hgo hie
          rw [hpe] at E ⊢
          clear hpe
          go_wp2_with (first | ((with_reducible refine kn_load E.out rfl rfl rfl rfl ?_)) | ((with_reducible refine kn_load_if E.out rfl rfl rfl rfl ?_)) | ((with_reducible refine kn_loads E.out rfl rfl rfl ?_ ?_); (focus (first | rfl | (simp only [i64s_length, u8s_length]; first | rfl | assumption | omega)))) | ((with_reducible refine kn_loads_if E.out rfl rfl rfl ?_ ?_); (focus (first | rfl | (simp only [i64s_length, u8s_length]; first | rfl | assumption | omega)))) | ((with_reducible refine kn_store1_int E.out rfl rfl rfl rfl rfl ?_); clear E; intro u E0; have E := Lib.hid E0; clear E0) | ((with_reducible refine kn_store1_slice E.out rfl rfl rfl rfl rfl ?_); clear E; intro u E0; have E := Lib.hid E0; clear E0) | ((with_reducible refine kn_store1_bool E.out rfl rfl rfl rfl rfl ?_); clear E; intro u E0; have E := Lib.hid E0; clear E0) | ((with_reducible refine kn_stores E.out rfl rfl rfl rfl rfl ?_ ?_ ?_); (focus (first | exact ⟨rfl, rfl⟩ | (simp only [i64s_length, u8s_length]; refine ⟨?_, ?_⟩ <;> first | rfl | assumption | omega))); (focus (first | exact i64s_one _ | exact u8s_one _ | simp [Value.oneCell'])); clear E; intro u E0; have E := Lib.hid E0; clear E0) | ((with_reducible refine kn_alloc E.out rfl rfl ?_); clear E; intro g u E0 hb0; have E := Lib.hid E0; clear E0 hb0) | ((with_reducible refine kn_box E.out rfl rfl rfl ?_); clear E; intro g u E0 hb0; have E := Lib.hid E0; clear E0 hb0) | ((with_reducible refine kn_box_int E.out rfl rfl rfl ?_); clear E; intro g u E0 hb0; have E := Lib.hid E0; clear E0 hb0) | ((with_reducible refine kn_box_slice E.out rfl rfl rfl ?_); clear E; intro g u E0 hb0; have E := Lib.hid E0; clear E0 hb0) | ((with_reducible refine kn_box_bool E.out rfl rfl rfl ?_); clear E; intro g u E0 hb0; have E := Lib.hid E0; clear E0 hb0) | ((with_reducible refine kn_box_func E.out rfl rfl rfl ?_); clear E; intro g u E0 hb0; have E := Lib.hid E0; clear E0 hb0))
          go_loopw [13, 8, 9] (fun ii s p wr => ∃ (i : Nat) (A : Option Addr) (c3 : Nat), i ≤ 16 ∧ ii = .int .i64 i ∧ s = .slice A 16 c3 ∧ p = .int .i64 ((wq i : Nat) : Int) ∧ (16 ≤ c3 ∧ c3 ≤ 9223372036854775807) ∧ Hid (goW X M W i) ∧ Hid (Kn w [] [bsF A 16 (LL (wq i)), rowF g5 35 (i64s W), rowF g4 34 (i64s M), rowF g3 33 (i64s X)] wr)) (fun ii _ _ _ => 16 - (intOf ii).toNat)
          case atStart => exact ⟨0, A, c3, by omega, rfl, rfl, rfl, hc3, hgo', E⟩
          case round =>
            clear E hgo' hc3
            obtain ⟨i, A, c3, hi, rfl, rfl, rfl, hc3, hgo, E⟩ := hrel
            by_cases hlt3 : i < 16
            · have hi2 : (i : Int) < 16 := by omega
              have hsx := HSW.out i hlt3
              have hnx := HNW.out i hlt3
              have hgs := goW_succ X M W i
              have hll := HLL.out (wq (i + 1))
              have hxl : i < W.length := by omega
              have hws := wq_succ i
              have hwq0 : wq i + wb i ≤ 128 := by unfold wq wb; split <;> omega
              obtain ⟨x, hx⟩ : ∃ z, W.getD i 0 = z := ⟨_, rfl⟩
              rw [hx] at hsx hnx hgs
              have hXg := Lib.hid hx
              clear HNW HSW HLL HLT HOK hx
              obtain ⟨p0, hp0⟩ : ∃ z, wq i = z := ⟨_, rfl⟩
              obtain ⟨p1, hp1⟩ : ∃ z, wq (i + 1) = z := ⟨_, rfl⟩
              rw [hp0] at hsx E hws hwq0 ⊢
              rw [hp1] at hsx hll hws
              have HP1 := Lib.hid hp1
              clear hp0 hp1
              by_cases h0 : i = 0
              · have hwb : wb i = 3 := by rw [h0]; rfl
                have hq0 : ((i : Int) == 0) = true := by simp [h0]
                rw [hwb] at hsx hnx hgs hws hwq0
                have hp7 := Lib.hid (show ((p1 : Nat) : Int) = (p0 : Int) + 3 from by omega)
                have hp128 : p0 + 3 ≤ 128 := hwq0
                clear hwb hws hwq0 h0
                by_cases hfit : fitsI x 3
                · have hgo' := Lib.hid (hgs.2 ⟨hgo.out, hfit⟩)
                  obtain ⟨v, hv⟩ := Int.eq_ofNat_of_zero_le hfit.1
                  subst hv
                  have hv128 : v < 8 := by have := hfit.2; omega
                  rw [Int.toNat_natCast] at hsx
                  have hS := Lib.hid (fun (u : World) (hu : Bs u u.heap.size A 16 (LL p0)) => show Calls Tryd.prog 35 #[.slice A 16 c3, .int .i64 (p0 : Int), .int .i64 3, .bool false, .int .u64 (v : Int)] u (Laid u (LL p1) 0) from by
                    rw [← hsx]
                    exact rset16 A c3 p0 3 v _ _ rfl rfl _ u hu (by omega) hp128 hv128)
                  clear hsx hnx hgs hfit hgo
                  go_wp2_with (first
                    | ((with_reducible refine kn_loadi (g := g5) (i := i) E.out rfl rfl rfl ?hi ?_); (case hi => exact hxl); rw [hXg.out])
                              | ((with_reducible refine kn_loadi_if (g := g5) (i := i) E.out rfl rfl rfl ?hi ?_); (case hi => exact hxl); rw [hXg.out])
                    | (go_at_call 35; refine (hS.out _ (E.out.bs (by simp))).mono ?_; rintro e w1 ⟨A4, n4, c4, rfl, hB1, hn4, hc4, hb⟩; obtain rfl : n4 = 16 := hB1.1.symm.trans hll; have E1 := Lib.hid (E.out.later hb); clear hb E; have E := E1; clear E1; have E1 := Lib.hid (E.out.new_bs hB1); clear E hB1; have E := E1; clear E1)
                    | ((with_reducible refine kn_load E.out rfl rfl rfl rfl ?_)) | ((with_reducible refine kn_load_if E.out rfl rfl rfl rfl ?_)) | ((with_reducible refine kn_loads E.out rfl rfl rfl ?_ ?_); (focus (first | rfl | (simp only [i64s_length, u8s_length]; first | rfl | assumption | omega)))) | ((with_reducible refine kn_loads_if E.out rfl rfl rfl ?_ ?_); (focus (first | rfl | (simp only [i64s_length, u8s_length]; first | rfl | assumption | omega)))) | ((with_reducible refine kn_store1_int E.out rfl rfl rfl rfl rfl ?_); clear E; intro u E0; have E := Lib.hid E0; clear E0) | ((with_reducible refine kn_store1_slice E.out rfl rfl rfl rfl rfl ?_); clear E; intro u E0; have E := Lib.hid E0; clear E0) | ((with_reducible refine kn_store1_bool E.out rfl rfl rfl rfl rfl ?_); clear E; intro u E0; have E := Lib.hid E0; clear E0) | ((with_reducible refine kn_stores E.out rfl rfl rfl rfl rfl ?_ ?_ ?_); (focus (first | exact ⟨rfl, rfl⟩ | (simp only [i64s_length, u8s_length]; refine ⟨?_, ?_⟩ <;> first | rfl | assumption | omega))); (focus (first | exact i64s_one _ | exact u8s_one _ | simp [Value.oneCell'])); clear E; intro u E0; have E := Lib.hid E0; clear E0) | ((with_reducible refine kn_alloc E.out rfl rfl ?_); clear E; intro g u E0 hb0; have E := Lib.hid E0; clear E0 hb0) | ((with_reducible refine kn_box E.out rfl rfl rfl ?_); clear E; intro g u E0 hb0; have E := Lib.hid E0; clear E0 hb0) | ((with_reducible refine kn_box_int E.out rfl rfl rfl ?_); clear E; intro g u E0 hb0; have E := Lib.hid E0; clear E0 hb0) | ((with_reducible refine kn_box_slice E.out rfl rfl rfl ?_); clear E; intro g u E0 hb0; have E := Lib.hid E0; clear E0 hb0) | ((with_reducible refine kn_box_bool E.out rfl rfl rfl ?_); clear E; intro g u E0 hb0; have E := Lib.hid E0; clear E0 hb0) | ((with_reducible refine kn_box_func E.out rfl rfl rfl ?_); clear E; intro g u E0 hb0; have E := Lib.hid E0; clear E0 hb0))
                  go_roundw
                  case rel => exact ⟨i + 1, A4, c4, by omega, by go_num, rfl, by rw [HP1.out, hp7.out], ⟨hn4, hc4⟩, hgo', by rw [HP1.out]; exact E.out.part _ _ (List.Sublist.refl _) (by simp)⟩
                  case measure => simp [intOf]; try omega
                · have hno := Lib.hid (hnx hfit)
                  have hxx : x < 0 ∨ 7 < x := by unfold fitsI at hfit; omega
                  clear hsx hnx hgs hfit hgo
                  rcases hxx with hneg | hbig
                  · go_wp2_with (first
                      | ((with_reducible refine kn_loadi (g := g5) (i := i) E.out rfl rfl rfl ?hi ?_); (case hi => exact hxl); rw [hXg.out])
                              | ((with_reducible refine kn_loadi_if (g := g5) (i := i) E.out rfl rfl rfl ?hi ?_); (case hi => exact hxl); rw [hXg.out])
                      | ((with_reducible refine kn_load E.out rfl rfl rfl rfl ?_)) | ((with_reducible refine kn_load_if E.out rfl rfl rfl rfl ?_)) | ((with_reducible refine kn_loads E.out rfl rfl rfl ?_ ?_); (focus (first | rfl | (simp only [i64s_length, u8s_length]; first | rfl | assumption | omega)))) | ((with_reducible refine kn_loads_if E.out rfl rfl rfl ?_ ?_); (focus (first | rfl | (simp only [i64s_length, u8s_length]; first | rfl | assumption | omega)))) | ((with_reducible refine kn_store1_int E.out rfl rfl rfl rfl rfl ?_); clear E; intro u E0; have E := Lib.hid E0; clear E0) | ((with_reducible refine kn_store1_slice E.out rfl rfl rfl rfl rfl ?_); clear E; intro u E0; have E := Lib.hid E0; clear E0) | ((with_reducible refine kn_store1_bool E.out rfl rfl rfl rfl rfl ?_); clear E; intro u E0; have E := Lib.hid E0; clear E0) | ((with_reducible refine kn_stores E.out rfl rfl rfl rfl rfl ?_ ?_ ?_); (focus (first | exact ⟨rfl, rfl⟩ | (simp only [i64s_length, u8s_length]; refine ⟨?_, ?_⟩ <;> first | rfl | assumption | omega))); (focus (first | exact i64s_one _ | exact u8s_one _ | simp [Value.oneCell'])); clear E; intro u E0; have E := Lib.hid E0; clear E0) | ((with_reducible refine kn_alloc E.out rfl rfl ?_); clear E; intro g u E0 hb0; have E := Lib.hid E0; clear E0 hb0) | ((with_reducible refine kn_box E.out rfl rfl rfl ?_); clear E; intro g u E0 hb0; have E := Lib.hid E0; clear E0 hb0) | ((with_reducible refine kn_box_int E.out rfl rfl rfl ?_); clear E; intro g u E0 hb0; have E := Lib.hid E0; clear E0 hb0) | ((with_reducible refine kn_box_slice E.out rfl rfl rfl ?_); clear E; intro g u E0 hb0; have E := Lib.hid E0; clear E0 hb0) | ((with_reducible refine kn_box_bool E.out rfl rfl rfl ?_); clear E; intro g u E0 hb0; have E := Lib.hid E0; clear E0 hb0) | ((with_reducible refine kn_box_func E.out rfl rfl rfl ?_); clear E; intro g u E0 hb0; have E := Lib.hid E0; clear E0 hb0))
                    go_ret2
                    rw [hno.out.1, hno.out.2]
                    exact ⟨none, 0, 0, rfl, ⟨rfl, by simp, fun h => absurd h (by omega)⟩, by omega, by omega, E.out.bel⟩
                  · have hneg : ¬ x < 0 := by omega
                    go_wp2_with (first
                      | ((with_reducible refine kn_loadi (g := g5) (i := i) E.out rfl rfl rfl ?hi ?_); (case hi => exact hxl); rw [hXg.out])
                              | ((with_reducible refine kn_loadi_if (g := g5) (i := i) E.out rfl rfl rfl ?hi ?_); (case hi => exact hxl); rw [hXg.out])
                      | ((with_reducible refine kn_load E.out rfl rfl rfl rfl ?_)) | ((with_reducible refine kn_load_if E.out rfl rfl rfl rfl ?_)) | ((with_reducible refine kn_loads E.out rfl rfl rfl ?_ ?_); (focus (first | rfl | (simp only [i64s_length, u8s_length]; first | rfl | assumption | omega)))) | ((with_reducible refine kn_loads_if E.out rfl rfl rfl ?_ ?_); (focus (first | rfl | (simp only [i64s_length, u8s_length]; first | rfl | assumption | omega)))) | ((with_reducible refine kn_store1_int E.out rfl rfl rfl rfl rfl ?_); clear E; intro u E0; have E := Lib.hid E0; clear E0) | ((with_reducible refine kn_store1_slice E.out rfl rfl rfl rfl rfl ?_); clear E; intro u E0; have E := Lib.hid E0; clear E0) | ((with_reducible refine kn_store1_bool E.out rfl rfl rfl rfl rfl ?_); clear E; intro u E0; have E := Lib.hid E0; clear E0) | ((with_reducible refine kn_stores E.out rfl rfl rfl rfl rfl ?_ ?_ ?_); (focus (first | exact ⟨rfl, rfl⟩ | (simp only [i64s_length, u8s_length]; refine ⟨?_, ?_⟩ <;> first | rfl | assumption | omega))); (focus (first | exact i64s_one _ | exact u8s_one _ | simp [Value.oneCell'])); clear E; intro u E0; have E := Lib.hid E0; clear E0) | ((with_reducible refine kn_alloc E.out rfl rfl ?_); clear E; intro g u E0 hb0; have E := Lib.hid E0; clear E0 hb0) | ((with_reducible refine kn_box E.out rfl rfl rfl ?_); clear E; intro g u E0 hb0; have E := Lib.hid E0; clear E0 hb0) | ((with_reducible refine kn_box_int E.out rfl rfl rfl ?_); clear E; intro g u E0 hb0; have E := Lib.hid E0; clear E0 hb0) | ((with_reducible refine kn_box_slice E.out rfl rfl rfl ?_); clear E; intro g u E0 hb0; have E := Lib.hid E0; clear E0 hb0) | ((with_reducible refine kn_box_bool E.out rfl rfl rfl ?_); clear E; intro g u E0 hb0; have E := Lib.hid E0; clear E0 hb0) | ((with_reducible refine kn_box_func E.out rfl rfl rfl ?_); clear E; intro g u E0 hb0; have E := Lib.hid E0; clear E0 hb0))
                    go_ret2
                    rw [hno.out.1, hno.out.2]
                    exact ⟨none, 0, 0, rfl, ⟨rfl, by simp, fun h => absurd h (by omega)⟩, by omega, by omega, E.out.bel⟩
              · have hwb : wb i = 4 := if_neg h0
                rw [hwb] at hsx hnx hgs hws hwq0
                have hp7 := Lib.hid (show ((p1 : Nat) : Int) = (p0 : Int) + 4 from by omega)
                have hp128 : p0 + 4 ≤ 128 := hwq0
                have hq0 : ((i : Int) == 0) = false := by simp [h0]
                clear hwb hws hwq0 h0
                by_cases hfit : fitsI x 4
                · have hgo' := Lib.hid (hgs.2 ⟨hgo.out, hfit⟩)
                  obtain ⟨v, hv⟩ := Int.eq_ofNat_of_zero_le hfit.1
                  subst hv
                  have hv128 : v < 16 := by have := hfit.2; omega
                  rw [Int.toNat_natCast] at hsx
                  have hS := Lib.hid (fun (u : World) (hu : Bs u u.heap.size A 16 (LL p0)) => show Calls Tryd.prog 35 #[.slice A 16 c3, .int .i64 (p0 : Int), .int .i64 4, .bool false, .int .u64 (v : Int)] u (Laid u (LL p1) 0) from by
                    rw [← hsx]
                    exact rset16 A c3 p0 4 v _ _ rfl rfl _ u hu (by omega) hp128 hv128)
                  clear hsx hnx hgs hfit hgo
                  go_wp2_with (first
                    | ((with_reducible refine kn_loadi (g := g5) (i := i) E.out rfl rfl rfl ?hi ?_); (case hi => exact hxl); rw [hXg.out])
                              | ((with_reducible refine kn_loadi_if (g := g5) (i := i) E.out rfl rfl rfl ?hi ?_); (case hi => exact hxl); rw [hXg.out])
                    | (go_at_call 35; refine (hS.out _ (E.out.bs (by simp))).mono ?_; rintro e w1 ⟨A4, n4, c4, rfl, hB1, hn4, hc4, hb⟩; obtain rfl : n4 = 16 := hB1.1.symm.trans hll; have E1 := Lib.hid (E.out.later hb); clear hb E; have E := E1; clear E1; have E1 := Lib.hid (E.out.new_bs hB1); clear E hB1; have E := E1; clear E1)
                    | ((with_reducible refine kn_load E.out rfl rfl rfl rfl ?_)) | ((with_reducible refine kn_load_if E.out rfl rfl rfl rfl ?_)) | ((with_reducible refine kn_loads E.out rfl rfl rfl ?_ ?_); (focus (first | rfl | (simp only [i64s_length, u8s_length]; first | rfl | assumption | omega)))) | ((with_reducible refine kn_loads_if E.out rfl rfl rfl ?_ ?_); (focus (first | rfl | (simp only [i64s_length, u8s_length]; first | rfl | assumption | omega)))) | ((with_reducible refine kn_store1_int E.out rfl rfl rfl rfl rfl ?_); clear E; intro u E0; have E := Lib.hid E0; clear E0) | ((with_reducible refine kn_store1_slice E.out rfl rfl rfl rfl rfl ?_); clear E; intro u E0; have E := Lib.hid E0; clear E0) | ((with_reducible refine kn_store1_bool E.out rfl rfl rfl rfl rfl ?_); clear E; intro u E0; have E := Lib.hid E0; clear E0) | ((with_reducible refine kn_stores E.out rfl rfl rfl rfl rfl ?_ ?_ ?_); (focus (first | exact ⟨rfl, rfl⟩ | (simp only [i64s_length, u8s_length]; refine ⟨?_, ?_⟩ <;> first | rfl | assumption | omega))); (focus (first | exact i64s_one _ | exact u8s_one _ | simp [Value.oneCell'])); clear E; intro u E0; have E := Lib.hid E0; clear E0) | ((with_reducible refine kn_alloc E.out rfl rfl ?_); clear E; intro g u E0 hb0; have E := Lib.hid E0; clear E0 hb0) | ((with_reducible refine kn_box E.out rfl rfl rfl ?_); clear E; intro g u E0 hb0; have E := Lib.hid E0; clear E0 hb0) | ((with_reducible refine kn_box_int E.out rfl rfl rfl ?_); clear E; intro g u E0 hb0; have E := Lib.hid E0; clear E0 hb0) | ((with_reducible refine kn_box_slice E.out rfl rfl rfl ?_); clear E; intro g u E0 hb0; have E := Lib.hid E0; clear E0 hb0) | ((with_reducible refine kn_box_bool E.out rfl rfl rfl ?_); clear E; intro g u E0 hb0; have E := Lib.hid E0; clear E0 hb0) | ((with_reducible refine kn_box_func E.out rfl rfl rfl ?_); clear E; intro g u E0 hb0; have E := Lib.hid E0; clear E0 hb0))
                  go_roundw
                  case rel => exact ⟨i + 1, A4, c4, by omega, by go_num, rfl, by rw [HP1.out, hp7.out], ⟨hn4, hc4⟩, hgo', by rw [HP1.out]; exact E.out.part _ _ (List.Sublist.refl _) (by simp)⟩
                  case measure => simp [intOf]; try omega
                · have hno := Lib.hid (hnx hfit)
                  have hxx : x < 0 ∨ 15 < x := by unfold fitsI at hfit; omega
                  clear hsx hnx hgs hfit hgo
                  rcases hxx with hneg | hbig
                  · go_wp2_with (first
                      | ((with_reducible refine kn_loadi (g := g5) (i := i) E.out rfl rfl rfl ?hi ?_); (case hi => exact hxl); rw [hXg.out])
                              | ((with_reducible refine kn_loadi_if (g := g5) (i := i) E.out rfl rfl rfl ?hi ?_); (case hi => exact hxl); rw [hXg.out])
                      | ((with_reducible refine kn_load E.out rfl rfl rfl rfl ?_)) | ((with_reducible refine kn_load_if E.out rfl rfl rfl rfl ?_)) | ((with_reducible refine kn_loads E.out rfl rfl rfl ?_ ?_); (focus (first | rfl | (simp only [i64s_length, u8s_length]; first | rfl | assumption | omega)))) | ((with_reducible refine kn_loads_if E.out rfl rfl rfl ?_ ?_); (focus (first | rfl | (simp only [i64s_length, u8s_length]; first | rfl | assumption | omega)))) | ((with_reducible refine kn_store1_int E.out rfl rfl rfl rfl rfl ?_); clear E; intro u E0; have E := Lib.hid E0; clear E0) | ((with_reducible refine kn_store1_slice E.out rfl rfl rfl rfl rfl ?_); clear E; intro u E0; have E := Lib.hid E0; clear E0) | ((with_reducible refine kn_store1_bool E.out rfl rfl rfl rfl rfl ?_); clear E; intro u E0; have E := Lib.hid E0; clear E0) | ((with_reducible refine kn_stores E.out rfl rfl rfl rfl rfl ?_ ?_ ?_); (focus (first | exact ⟨rfl, rfl⟩ | (simp only [i64s_length, u8s_length]; refine ⟨?_, ?_⟩ <;> first | rfl | assumption | omega))); (focus (first | exact i64s_one _ | exact u8s_one _ | simp [Value.oneCell'])); clear E; intro u E0; have E := Lib.hid E0; clear E0) | ((with_reducible refine kn_alloc E.out rfl rfl ?_); clear E; intro g u E0 hb0; have E := Lib.hid E0; clear E0 hb0) | ((with_reducible refine kn_box E.out rfl rfl rfl ?_); clear E; intro g u E0 hb0; have E := Lib.hid E0; clear E0 hb0) | ((with_reducible refine kn_box_int E.out rfl rfl rfl ?_); clear E; intro g u E0 hb0; have E := Lib.hid E0; clear E0 hb0) | ((with_reducible refine kn_box_slice E.out rfl rfl rfl ?_); clear E; intro g u E0 hb0; have E := Lib.hid E0; clear E0 hb0) | ((with_reducible refine kn_box_bool E.out rfl rfl rfl ?_); clear E; intro g u E0 hb0; have E := Lib.hid E0; clear E0 hb0) | ((with_reducible refine kn_box_func E.out rfl rfl rfl ?_); clear E; intro g u E0 hb0; have E := Lib.hid E0; clear E0 hb0))
                    go_ret2
                    rw [hno.out.1, hno.out.2]
                    exact ⟨none, 0, 0, rfl, ⟨rfl, by simp, fun h => absurd h (by omega)⟩, by omega, by omega, E.out.bel⟩
                  · have hneg : ¬ x < 0 := by omega
                    go_wp2_with (first
                      | ((with_reducible refine kn_loadi (g := g5) (i := i) E.out rfl rfl rfl ?hi ?_); (case hi => exact hxl); rw [hXg.out])
                              | ((with_reducible refine kn_loadi_if (g := g5) (i := i) E.out rfl rfl rfl ?hi ?_); (case hi => exact hxl); rw [hXg.out])
                      | ((with_reducible refine kn_load E.out rfl rfl rfl rfl ?_)) | ((with_reducible refine kn_load_if E.out rfl rfl rfl rfl ?_)) | ((with_reducible refine kn_loads E.out rfl rfl rfl ?_ ?_); (focus (first | rfl | (simp only [i64s_length, u8s_length]; first | rfl | assumption | omega)))) | ((with_reducible refine kn_loads_if E.out rfl rfl rfl ?_ ?_); (focus (first | rfl | (simp only [i64s_length, u8s_length]; first | rfl | assumption | omega)))) | ((with_reducible refine kn_store1_int E.out rfl rfl rfl rfl rfl ?_); clear E; intro u E0; have E := Lib.hid E0; clear E0) | ((with_reducible refine kn_store1_slice E.out rfl rfl rfl rfl rfl ?_); clear E; intro u E0; have E := Lib.hid E0; clear E0) | ((with_reducible refine kn_store1_bool E.out rfl rfl rfl rfl rfl ?_); clear E; intro u E0; have E := Lib.hid E0; clear E0) | ((with_reducible refine kn_stores E.out rfl rfl rfl rfl rfl ?_ ?_ ?_); (focus (first | exact ⟨rfl, rfl⟩ | (simp only [i64s_length, u8s_length]; refine ⟨?_, ?_⟩ <;> first | rfl | assumption | omega))); (focus (first | exact i64s_one _ | exact u8s_one _ | simp [Value.oneCell'])); clear E; intro u E0; have E := Lib.hid E0; clear E0) | ((with_reducible refine kn_alloc E.out rfl rfl ?_); clear E; intro g u E0 hb0; have E := Lib.hid E0; clear E0 hb0) | ((with_reducible refine kn_box E.out rfl rfl rfl ?_); clear E; intro g u E0 hb0; have E := Lib.hid E0; clear E0 hb0) | ((with_reducible refine kn_box_int E.out rfl rfl rfl ?_); clear E; intro g u E0 hb0; have E := Lib.hid E0; clear E0 hb0) | ((with_reducible refine kn_box_slice E.out rfl rfl rfl ?_); clear E; intro g u E0 hb0; have E := Lib.hid E0; clear E0 hb0) | ((with_reducible refine kn_box_bool E.out rfl rfl rfl ?_); clear E; intro g u E0 hb0; have E := Lib.hid E0; clear E0 hb0) | ((with_reducible refine kn_box_func E.out rfl rfl rfl ?_); clear E; intro g u E0 hb0; have E := Lib.hid E0; clear E0 hb0))
                    go_ret2
                    rw [hno.out.1, hno.out.2]
                    exact ⟨none, 0, 0, rfl, ⟨rfl, by simp, fun h => absurd h (by omega)⟩, by omega, by omega, E.out.bel⟩
            · obtain rfl : i = 16 := by omega
              have hok := Lib.hid (HOK.out hgo.out)
              clear HNW HSW HLL HLT HOK hlt3 hgo
              have hpe : wq 16 = 128 := rfl
              rw [hpe] at E ⊢
              clear hpe
              go_wp2_with (first | ((with_reducible refine kn_load E.out rfl rfl rfl rfl ?_)) | ((with_reducible refine kn_load_if E.out rfl rfl rfl rfl ?_)) | ((with_reducible refine kn_loads E.out rfl rfl rfl ?_ ?_); (focus (first | rfl | (simp only [i64s_length, u8s_length]; first | rfl | assumption | omega)))) | ((with_reducible refine kn_loads_if E.out rfl rfl rfl ?_ ?_); (focus (first | rfl | (simp only [i64s_length, u8s_length]; first | rfl | assumption | omega)))) | ((with_reducible refine kn_store1_int E.out rfl rfl rfl rfl rfl ?_); clear E; intro u E0; have E := Lib.hid E0; clear E0) | ((with_reducible refine kn_store1_slice E.out rfl rfl rfl rfl rfl ?_); clear E; intro u E0; have E := Lib.hid E0; clear E0) | ((with_reducible refine kn_store1_bool E.out rfl rfl rfl rfl rfl ?_); clear E; intro u E0; have E := Lib.hid E0; clear E0) | ((with_reducible refine kn_stores E.out rfl rfl rfl rfl rfl ?_ ?_ ?_); (focus (first | exact ⟨rfl, rfl⟩ | (simp only [i64s_length, u8s_length]; refine ⟨?_, ?_⟩ <;> first | rfl | assumption | omega))); (focus (first | exact i64s_one _ | exact u8s_one _ | simp [Value.oneCell'])); clear E; intro u E0; have E := Lib.hid E0; clear E0) | ((with_reducible refine kn_alloc E.out rfl rfl ?_); clear E; intro g u E0 hb0; have E := Lib.hid E0; clear E0 hb0) | ((with_reducible refine kn_box E.out rfl rfl rfl ?_); clear E; intro g u E0 hb0; have E := Lib.hid E0; clear E0 hb0) | ((with_reducible refine kn_box_int E.out rfl rfl rfl ?_); clear E; intro g u E0 hb0; have E := Lib.hid E0; clear E0 hb0) | ((with_reducible refine kn_box_slice E.out rfl rfl rfl ?_); clear E; intro g u E0 hb0; have E := Lib.hid E0; clear E0 hb0) | ((with_reducible refine kn_box_bool E.out rfl rfl rfl ?_); clear E; intro g u E0 hb0; have E := Lib.hid E0; clear E0 hb0) | ((with_reducible refine kn_box_func E.out rfl rfl rfl ?_); clear E; intro g u E0 hb0; have E := Lib.hid E0; clear E0 hb0))
              go_ret2
              rw [hok.out.1, hok.out.2]
              exact ⟨A, 16, c3, rfl, E.out.bs (by simp), hc3.1, hc3.2, E.out.bel⟩
end Go.Proofs.YtnoailihkjccbaaDoor
