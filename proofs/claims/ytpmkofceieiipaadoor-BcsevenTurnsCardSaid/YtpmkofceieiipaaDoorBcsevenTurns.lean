/- BcsevenTurns: a block of mode 4 or 5 with another turn is the same texels, but that alpha has changed places with another part; the tables that the look reads are as the program's text lays them; no condition besides. -/
import Derived.Test.YtpmkofceieiipaaDoorRows
import Derived.Test.YtpmkofceieiipaaDoorCards
import Derived.Test.YtpmkofceieiipaaDoorTie
import Derived.Test.YtpmkofceieiipaaDoorB7TurT
import Derived.Test.YtpmkofceieiipaaDoorOpen
import Derived.Test.YtpmkofceieiipaaDoorBtCard
import Derived.OpenShut
import Derived.ShutString
import Derived.ChangeOld
import Derived.Below
set_option linter.all false
namespace Go.Proofs.YtpmkofceieiipaaDoor.bcsevenTurns
open Go.ChangeShapes Go.WideShapes Go.ChangeAt Go.RowKit
open Bi Lv Bt B7

theorem setlow16 (A : Option Addr) (c p N : Nat) (P V : Int) (hP : P = (p : Int)) (hV : V = (N : Int)) (xs : List Nat) (u : World) (hu : Bs u u.heap.size A 16 xs) (hp : p + 2 ≤ 128) (hN : N < 4) :
    Calls Tryd.prog 20 #[.slice A 16 c, .int .i64 P, .int .i64 2, .int .u64 V] u (Laid u (st xs false p 2 N) 0) := by
  subst hP hV
  have hS := setLow_any A 16 c (p : Int) 2 N xs u hu (by omega) (by omega) (by omega)
  have hE : setE 16 (p : Int) 2 N = 0 := by
    unfold setE
    rw [getE_zero (by omega) (by omega), if_pos rfl, if_pos (by show N < 2 ^ 2; omega)]
  have hV : setV xs false (p : Int) 2 N = st xs false p 2 N := setV_ok (p := p) (m := 2) hu.1 hE
  rw [hE, hV] at hS
  exact hS

set_option maxHeartbeats 4000000 in
set_option maxRecDepth 100000 in
theorem out_n (w : World) (hT : Tabs w) (A : Option Addr) (n c : Nat) (a : Int) (hn : n ≠ 16) (hm : n ≤ 9223372036854775807) :
    Calls Tryd.prog 6 #[.slice A n c, .int .i64 a] w fun e w' => e = .returned (.bool true) ∧ Below w.heap.size w w' := by
  have E := Lib.hid ((Kn.start w).arg_tabs hT)
  have hn' : ((n : Int) != 16) = true := by simp; omega
  go_enter Tryd.func6, Tryd.ntmps6
  go_wp2_with (first
    | (go_at_call 8; refine (awake7 _ (E.out.get (by simp))).mono ?_; rintro e w1 ⟨rfl, hb⟩; have E1 := Lib.hid (E.out.later hb); clear hb E; have E := E1; clear E1)
    | ((with_reducible refine kn_load E.out rfl rfl rfl rfl ?_)) | ((with_reducible refine kn_load_if E.out rfl rfl rfl rfl ?_)) | ((with_reducible refine kn_loads E.out rfl rfl rfl ?_ ?_); (focus (first | rfl | (simp only [i64s_length, u8s_length]; first | rfl | assumption | omega)))) | ((with_reducible refine kn_loads_if E.out rfl rfl rfl ?_ ?_); (focus (first | rfl | (simp only [i64s_length, u8s_length]; first | rfl | assumption | omega)))) | ((with_reducible refine kn_store1_int E.out rfl rfl rfl rfl rfl ?_); clear E; intro u E0; have E := Lib.hid E0; clear E0) | ((with_reducible refine kn_store1_slice E.out rfl rfl rfl rfl rfl ?_); clear E; intro u E0; have E := Lib.hid E0; clear E0) | ((with_reducible refine kn_store1_bool E.out rfl rfl rfl rfl rfl ?_); clear E; intro u E0; have E := Lib.hid E0; clear E0) | ((with_reducible refine kn_stores E.out rfl rfl rfl rfl rfl ?_ ?_ ?_); (focus (first | exact ⟨rfl, rfl⟩ | (simp only [i64s_length, u8s_length]; refine ⟨?_, ?_⟩ <;> first | rfl | assumption | omega))); (focus (first | exact i64s_one _ | exact u8s_one _ | simp [Value.oneCell'])); clear E; intro u E0; have E := Lib.hid E0; clear E0) | ((with_reducible refine kn_alloc E.out rfl rfl ?_); clear E; intro g u E0 hb0; have E := Lib.hid E0; clear E0 hb0) | ((with_reducible refine kn_box E.out rfl rfl rfl ?_); clear E; intro g u E0 hb0; have E := Lib.hid E0; clear E0 hb0) | ((with_reducible refine kn_box_int E.out rfl rfl rfl ?_); clear E; intro g u E0 hb0; have E := Lib.hid E0; clear E0 hb0) | ((with_reducible refine kn_box_slice E.out rfl rfl rfl ?_); clear E; intro g u E0 hb0; have E := Lib.hid E0; clear E0 hb0) | ((with_reducible refine kn_box_bool E.out rfl rfl rfl ?_); clear E; intro g u E0 hb0; have E := Lib.hid E0; clear E0 hb0) | ((with_reducible refine kn_box_func E.out rfl rfl rfl ?_); clear E; intro g u E0 hb0; have E := Lib.hid E0; clear E0 hb0))
  go_ret
  exact ⟨rfl, E.out.bel⟩

set_option maxHeartbeats 4000000 in
set_option maxRecDepth 100000 in
theorem out_low (w : World) (hT : Tabs w) (A : Option Addr) (c : Nat) (a : Int) (ha : a < 1) :
    Calls Tryd.prog 6 #[.slice A 16 c, .int .i64 a] w fun e w' => e = .returned (.bool true) ∧ Below w.heap.size w w' := by
  have E := Lib.hid ((Kn.start w).arg_tabs hT)
  go_enter Tryd.func6, Tryd.ntmps6
  go_wp2_with (first
    | (go_at_call 8; refine (awake7 _ (E.out.get (by simp))).mono ?_; rintro e w1 ⟨rfl, hb⟩; have E1 := Lib.hid (E.out.later hb); clear hb E; have E := E1; clear E1)
    | ((with_reducible refine kn_load E.out rfl rfl rfl rfl ?_)) | ((with_reducible refine kn_load_if E.out rfl rfl rfl rfl ?_)) | ((with_reducible refine kn_loads E.out rfl rfl rfl ?_ ?_); (focus (first | rfl | (simp only [i64s_length, u8s_length]; first | rfl | assumption | omega)))) | ((with_reducible refine kn_loads_if E.out rfl rfl rfl ?_ ?_); (focus (first | rfl | (simp only [i64s_length, u8s_length]; first | rfl | assumption | omega)))) | ((with_reducible refine kn_store1_int E.out rfl rfl rfl rfl rfl ?_); clear E; intro u E0; have E := Lib.hid E0; clear E0) | ((with_reducible refine kn_store1_slice E.out rfl rfl rfl rfl rfl ?_); clear E; intro u E0; have E := Lib.hid E0; clear E0) | ((with_reducible refine kn_store1_bool E.out rfl rfl rfl rfl rfl ?_); clear E; intro u E0; have E := Lib.hid E0; clear E0) | ((with_reducible refine kn_stores E.out rfl rfl rfl rfl rfl ?_ ?_ ?_); (focus (first | exact ⟨rfl, rfl⟩ | (simp only [i64s_length, u8s_length]; refine ⟨?_, ?_⟩ <;> first | rfl | assumption | omega))); (focus (first | exact i64s_one _ | exact u8s_one _ | simp [Value.oneCell'])); clear E; intro u E0; have E := Lib.hid E0; clear E0) | ((with_reducible refine kn_alloc E.out rfl rfl ?_); clear E; intro g u E0 hb0; have E := Lib.hid E0; clear E0 hb0) | ((with_reducible refine kn_box E.out rfl rfl rfl ?_); clear E; intro g u E0 hb0; have E := Lib.hid E0; clear E0 hb0) | ((with_reducible refine kn_box_int E.out rfl rfl rfl ?_); clear E; intro g u E0 hb0; have E := Lib.hid E0; clear E0 hb0) | ((with_reducible refine kn_box_slice E.out rfl rfl rfl ?_); clear E; intro g u E0 hb0; have E := Lib.hid E0; clear E0 hb0) | ((with_reducible refine kn_box_bool E.out rfl rfl rfl ?_); clear E; intro g u E0 hb0; have E := Lib.hid E0; clear E0 hb0) | ((with_reducible refine kn_box_func E.out rfl rfl rfl ?_); clear E; intro g u E0 hb0; have E := Lib.hid E0; clear E0 hb0))
  go_ret
  exact ⟨rfl, E.out.bel⟩

set_option maxHeartbeats 4000000 in
set_option maxRecDepth 100000 in
theorem out_high (w : World) (hT : Tabs w) (A : Option Addr) (c : Nat) (a : Int) (ha : 3 < a) :
    Calls Tryd.prog 6 #[.slice A 16 c, .int .i64 a] w fun e w' => e = .returned (.bool true) ∧ Below w.heap.size w w' := by
  have E := Lib.hid ((Kn.start w).arg_tabs hT)
  have ha1 : ¬ a < 1 := by omega
  go_enter Tryd.func6, Tryd.ntmps6
  go_wp2_with (first
    | (go_at_call 8; refine (awake7 _ (E.out.get (by simp))).mono ?_; rintro e w1 ⟨rfl, hb⟩; have E1 := Lib.hid (E.out.later hb); clear hb E; have E := E1; clear E1)
    | ((with_reducible refine kn_load E.out rfl rfl rfl rfl ?_)) | ((with_reducible refine kn_load_if E.out rfl rfl rfl rfl ?_)) | ((with_reducible refine kn_loads E.out rfl rfl rfl ?_ ?_); (focus (first | rfl | (simp only [i64s_length, u8s_length]; first | rfl | assumption | omega)))) | ((with_reducible refine kn_loads_if E.out rfl rfl rfl ?_ ?_); (focus (first | rfl | (simp only [i64s_length, u8s_length]; first | rfl | assumption | omega)))) | ((with_reducible refine kn_store1_int E.out rfl rfl rfl rfl rfl ?_); clear E; intro u E0; have E := Lib.hid E0; clear E0) | ((with_reducible refine kn_store1_slice E.out rfl rfl rfl rfl rfl ?_); clear E; intro u E0; have E := Lib.hid E0; clear E0) | ((with_reducible refine kn_store1_bool E.out rfl rfl rfl rfl rfl ?_); clear E; intro u E0; have E := Lib.hid E0; clear E0) | ((with_reducible refine kn_stores E.out rfl rfl rfl rfl rfl ?_ ?_ ?_); (focus (first | exact ⟨rfl, rfl⟩ | (simp only [i64s_length, u8s_length]; refine ⟨?_, ?_⟩ <;> first | rfl | assumption | omega))); (focus (first | exact i64s_one _ | exact u8s_one _ | simp [Value.oneCell'])); clear E; intro u E0; have E := Lib.hid E0; clear E0) | ((with_reducible refine kn_alloc E.out rfl rfl ?_); clear E; intro g u E0 hb0; have E := Lib.hid E0; clear E0 hb0) | ((with_reducible refine kn_box E.out rfl rfl rfl ?_); clear E; intro g u E0 hb0; have E := Lib.hid E0; clear E0 hb0) | ((with_reducible refine kn_box_int E.out rfl rfl rfl ?_); clear E; intro g u E0 hb0; have E := Lib.hid E0; clear E0 hb0) | ((with_reducible refine kn_box_slice E.out rfl rfl rfl ?_); clear E; intro g u E0 hb0; have E := Lib.hid E0; clear E0 hb0) | ((with_reducible refine kn_box_bool E.out rfl rfl rfl ?_); clear E; intro g u E0 hb0; have E := Lib.hid E0; clear E0 hb0) | ((with_reducible refine kn_box_func E.out rfl rfl rfl ?_); clear E; intro g u E0 hb0; have E := Lib.hid E0; clear E0 hb0))
  go_ret
  exact ⟨rfl, E.out.bel⟩

set_option maxHeartbeats 4000000 in
set_option maxRecDepth 100000 in
theorem out_mode (w : World) (hT : Tabs w) (A : Option Addr) (c : Nat) (xs : List Nat) (h : Bs w w.heap.size A 16 xs) (t1 : Nat) (ht : t1 < 3) (h4 : modeN (xs.getD 0 0) ≠ 4) (h5 : modeN (xs.getD 0 0) ≠ 5) :
    Calls Tryd.prog 6 #[.slice A 16 c, .int .i64 ((t1 : Int) + 1)] w fun e w' => e = .returned (.bool true) ∧ Below w.heap.size w w' := by
  have E := Lib.hid (((Kn.start w).arg_bs h).arg_tabs hT)
  have hMd := Lib.hid (fun u hu => mode_ok A c xs u hu)
  have ha1 : ¬ ((t1 : Int) + 1 < 1) := by omega
  have ha3 : ¬ (3 < (t1 : Int) + 1) := by omega
  generalize modeN (xs.getD 0 0) = k at *
  have hq4 : ((k : Int) != 4) = true := by simp; omega
  have hq5 : ((k : Int) != 5) = true := by simp; omega
  clear h hT h4 h5
  go_enter Tryd.func6, Tryd.ntmps6
  go_wp2_with (first
    | (go_at_call 8; refine (awake7 _ (E.out.get (by simp))).mono ?_; rintro e w1 ⟨rfl, hb⟩; have E1 := Lib.hid (E.out.later hb); clear hb E; have E := E1; clear E1)
    | (go_at_call 11; refine (hMd.out _ (E.out.bs (by simp))).mono ?_; clear hMd; rintro e w3 ⟨rfl, rfl⟩)
    | ((with_reducible refine kn_load E.out rfl rfl rfl rfl ?_)) | ((with_reducible refine kn_load_if E.out rfl rfl rfl rfl ?_)) | ((with_reducible refine kn_loads E.out rfl rfl rfl ?_ ?_); (focus (first | rfl | (simp only [i64s_length, u8s_length]; first | rfl | assumption | omega)))) | ((with_reducible refine kn_loads_if E.out rfl rfl rfl ?_ ?_); (focus (first | rfl | (simp only [i64s_length, u8s_length]; first | rfl | assumption | omega)))) | ((with_reducible refine kn_store1_int E.out rfl rfl rfl rfl rfl ?_); clear E; intro u E0; have E := Lib.hid E0; clear E0) | ((with_reducible refine kn_store1_slice E.out rfl rfl rfl rfl rfl ?_); clear E; intro u E0; have E := Lib.hid E0; clear E0) | ((with_reducible refine kn_store1_bool E.out rfl rfl rfl rfl rfl ?_); clear E; intro u E0; have E := Lib.hid E0; clear E0) | ((with_reducible refine kn_stores E.out rfl rfl rfl rfl rfl ?_ ?_ ?_); (focus (first | exact ⟨rfl, rfl⟩ | (simp only [i64s_length, u8s_length]; refine ⟨?_, ?_⟩ <;> first | rfl | assumption | omega))); (focus (first | exact i64s_one _ | exact u8s_one _ | simp [Value.oneCell'])); clear E; intro u E0; have E := Lib.hid E0; clear E0) | ((with_reducible refine kn_alloc E.out rfl rfl ?_); clear E; intro g u E0 hb0; have E := Lib.hid E0; clear E0 hb0) | ((with_reducible refine kn_box E.out rfl rfl rfl ?_); clear E; intro g u E0 hb0; have E := Lib.hid E0; clear E0 hb0) | ((with_reducible refine kn_box_int E.out rfl rfl rfl ?_); clear E; intro g u E0 hb0; have E := Lib.hid E0; clear E0 hb0) | ((with_reducible refine kn_box_slice E.out rfl rfl rfl ?_); clear E; intro g u E0 hb0; have E := Lib.hid E0; clear E0 hb0) | ((with_reducible refine kn_box_bool E.out rfl rfl rfl ?_); clear E; intro g u E0 hb0; have E := Lib.hid E0; clear E0 hb0) | ((with_reducible refine kn_box_func E.out rfl rfl rfl ?_); clear E; intro g u E0 hb0; have E := Lib.hid E0; clear E0 hb0))
  go_ret
  exact ⟨rfl, E.out.bel⟩

set_option maxHeartbeats 8000000 in
set_option maxRecDepth 100000 in
theorem main_4 (w : World) (hT : Tabs w) (A : Option Addr) (c : Nat) (xs : List Nat) (h : Bs w w.heap.size A 16 xs) (t1 : Nat) (ht : t1 < 3) (tv : Int) (htv : tv = (t1 : Int) + 1) (hm4 : modeN (xs.getD 0 0) = 4) :
    Calls Tryd.prog 6 #[.slice A 16 c,   .int .i64 tv] w fun e w' => e = .returned (.bool true) ∧ Below w.heap.size w w' := by
  have E := Lib.hid (((Kn.start w).arg_bs h).arg_tabs hT)
  have hMd := Lib.hid (fun u hu => mode_ok A c xs u hu)
  have ha1 : ¬ (tv < 1) := by omega
  have ha3 : ¬ (3 < tv) := by omega
  have htv1 : tv - 1 = (t1 : Int) := by omega
  have htvN := Lib.hid (show tv = ((t1 + 1 : Nat) : Int) from by omega)
  clear htv
  have hd0 := dec_st xs 4 0 (by omega) hm4 (by omega) h.1
  have hd1 := dec_st xs 4 (t1 + 1) (by omega) hm4 (by omega) h.1
  have hl0 : (st xs false (4 + 1) 2 0).length = 16 := by unfold st; rw [lay_length]; exact h.1
  have hl1 : (st xs false (4 + 1) 2 (t1 + 1)).length = 16 := by unfold st; rw [lay_length]; exact h.1
  have hS0 := Lib.hid (fun (P V : Int) (hP : P = ((4 + 1 : Nat) : Int)) (hV : V = ((0 : Nat) : Int)) u hu => setlow16 A c (4 + 1) 0 P V hP hV xs u hu (by omega) (by omega))
  have hS1 := Lib.hid (fun (P V : Int) (hP : P = ((4 + 1 : Nat) : Int)) (hV : V = ((t1 + 1 : Nat) : Int)) u hu => setlow16 A c (4 + 1) (t1 + 1) P V hP hV xs u hu (by omega) (by omega))
  have hD0 := Lib.hid (fun A c u hT hu => show Calls Tryd.prog 9 #[.slice A 16 c] u (fun e w' => e = .returned (.tuple #[arr (decV (st xs false (4 + 1) 2 0)), .int .i64 0]) ∧ Below u.heap.size u w') from decode7_any A 16 c _ u hT hu (by omega))
  have hD1 := Lib.hid (fun A c u hT hu => show Calls Tryd.prog 9 #[.slice A 16 c] u (fun e w' => e = .returned (.tuple #[arr (decV (st xs false (4 + 1) 2 (t1 + 1))), .int .i64 0]) ∧ Below u.heap.size u w') from decode7_any A 16 c _ u hT hu (by omega))
  have lT := decV_length (st xs false (4 + 1) 2 0)
  have lU := decV_length (st xs false (4 + 1) 2 (t1 + 1))
  have HST := Lib.hid (fun i (hi : i < 16) => show ((swP (decV (st xs false (4 + 1) 2 0)) (decV (st xs false (4 + 1) 2 (t1 + 1))) i).set (i * 4 + 3) ((decV (st xs false (4 + 1) 2 0)).getD (i * 4 + t1) 0)).set (i * 4 + t1) ((decV (st xs false (4 + 1) 2 0)).getD (i * 4 + 3) 0) = swP (decV (st xs false (4 + 1) 2 0)) (decV (st xs false (4 + 1) 2 (t1 + 1))) (i + 1) from by
    have g0 : ∀ c, c < 4 → (decV (st xs false (4 + 1) 2 0)).getD (i * 4 + c) 0 = (baV xs 4 i).getD c 0 := fun c hc => by
      rw [hd0, rows_get _ (fun i => by rw [tuV_length]; exact baV_length xs 4 i) i c hi hc]
      rfl
    have g1 : ∀ c, c < 4 → (decV (st xs false (4 + 1) 2 (t1 + 1))).getD (i * 4 + c) 0 = (tuV (baV xs 4 i) ((t1 : Int) + 1)).getD c 0 := fun c hc => by
      rw [hd1, rows_get _ (fun i => by rw [tuV_length]; exact baV_length xs 4 i) i c hi hc]
      rfl
    obtain ⟨k1, k2, k3⟩ := tuV_get (baV xs 4 i) t1 (baV_length xs 4 i) ht
    exact swP_step _ _ i t1 hi ht (by rw [g1 3 (by omega), g0 t1 (by omega), k1]) (by rw [g1 t1 (by omega), g0 3 (by omega), k2]) (fun c hc1 hc2 => by rw [g1 c (by omega), g0 c (by omega), k3 c hc1 hc2]))
  have H0 := Lib.hid (swP_zero (decV (st xs false (4 + 1) 2 0)) (decV (st xs false (4 + 1) 2 (t1 + 1))) lT)
  have H16 := Lib.hid (swP_all (decV (st xs false (4 + 1) 2 0)) (decV (st xs false (4 + 1) 2 (t1 + 1))) lU)
  have HL := Lib.hid (fun i => swP_length (decV (st xs false (4 + 1) 2 0)) (decV (st xs false (4 + 1) 2 (t1 + 1))) i)
  have HG := Lib.hid (fun i c (hi : i < 16) (hc : c < 4) => show (swP (decV (st xs false (4 + 1) 2 0)) (decV (st xs false (4 + 1) 2 (t1 + 1))) i).getD (i * 4 + c) 0 = (decV (st xs false (4 + 1) 2 0)).getD (i * 4 + c) 0 from by
    rw [swP_getD _ _ _ _ (by omega), if_neg (by omega)])
  generalize swP (decV (st xs false (4 + 1) 2 0)) (decV (st xs false (4 + 1) 2 (t1 + 1))) = SW at *
  clear hd0 hd1
  generalize decV (st xs false (4 + 1) 2 0) = T at *
  generalize decV (st xs false (4 + 1) 2 (t1 + 1)) = U at *
  generalize st xs false (4 + 1) 2 0 = y0 at *
  generalize st xs false (4 + 1) 2 (t1 + 1) = y1 at *
  have hq : ∀ u, (Op.equalIn 10000 27 (arr U) (arr U)).run Tryd.prog u = .ok true u := fun u => by
    have h := eq_tile U U lU lU u
    rw [beq_self_eq_true] at h
    exact h
  generalize modeN (xs.getD 0 0) = k at *
  have hk4 : k = 4 := hm4
  have hq4 : ((k : Int) != 4) = false := by simp [hk4]
  have hkP := Lib.hid (show (k : Int) + 1 = ((4 + 1 : Nat) : Int) from by omega)
  have hk8 : k ≤ 8 := by omega
  have hl0' := Lib.hid hl0
  have hl1' := Lib.hid hl1
  have lU' := Lib.hid lU
  clear h hT hm4 hk4 hl0 hl1
  go_enter Tryd.func6, Tryd.ntmps6
  go_wp2_with (first
    | (go_at_call 8; refine (awake7 _ (E.out.get (by simp))).mono ?_; rintro e w1 ⟨rfl, hb⟩; have E1 := Lib.hid (E.out.later hb); clear hb E; have E := E1; clear E1)
    | (go_at_call 11; refine (hMd.out _ (E.out.bs (by simp))).mono ?_; clear hMd; rintro e w3 ⟨rfl, rfl⟩)
    | (go_at_call 20; first
      | (refine (hS0.out _ _ hkP.out rfl _ (E.out.bs (by simp))).mono ?_; clear hS0; rintro e w4 ⟨A1, n1, c1, rfl, hB1, hn1, hc1, hb⟩; obtain rfl : n1 = 16 := hB1.1.symm.trans hl0'.out; have E1 := Lib.hid (E.out.later hb); clear hb E; have E := E1; clear E1; have E1 := Lib.hid (E.out.new_bsi hB1); clear E hB1; have E := E1; clear E1)
      | (refine (hS1.out _ _ hkP.out htvN.out _ (E.out.bs (by simp))).mono ?_; clear hS1; rintro e w5 ⟨A2, n2, c2, rfl, hB2, hn2, hc2, hb⟩; obtain rfl : n2 = 16 := hB2.1.symm.trans hl1'.out; have E1 := Lib.hid (E.out.later hb); clear hb E; have E := E1; clear E1; have E1 := Lib.hid (E.out.new_bsi hB2); clear E hB2; have E := E1; clear E1))
    | (go_at_call 9; first
      | (refine (hD0.out A1 c1 _ (E.out.get (by simp)) (E.out.bs (List.mem_cons_of_mem _ List.mem_cons_self))).mono ?_; clear hD0; rintro e w6 ⟨rfl, hb⟩; have E1 := Lib.hid (E.out.later hb); clear hb E; have E := E1; clear E1)
      | (refine (hD1.out A2 c2 _ (E.out.get (by simp)) (E.out.bs List.mem_cons_self)).mono ?_; clear hD1; rintro e w7 ⟨rfl, hb⟩; have E1 := Lib.hid (E.out.later hb); clear hb E; have E := E1; clear E1))
    | ((with_reducible refine kn_load E.out rfl rfl rfl rfl ?_)) | ((with_reducible refine kn_load_if E.out rfl rfl rfl rfl ?_)) | ((with_reducible refine kn_loads E.out rfl rfl rfl ?_ ?_); (focus (first | rfl | (simp only [i64s_length, u8s_length]; first | rfl | assumption | omega)))) | ((with_reducible refine kn_loads_if E.out rfl rfl rfl ?_ ?_); (focus (first | rfl | (simp only [i64s_length, u8s_length]; first | rfl | assumption | omega)))) | ((with_reducible refine kn_store1_int E.out rfl rfl rfl rfl rfl ?_); clear E; intro u E0; have E := Lib.hid E0; clear E0) | ((with_reducible refine kn_store1_slice E.out rfl rfl rfl rfl rfl ?_); clear E; intro u E0; have E := Lib.hid E0; clear E0) | ((with_reducible refine kn_store1_bool E.out rfl rfl rfl rfl rfl ?_); clear E; intro u E0; have E := Lib.hid E0; clear E0) | ((with_reducible refine kn_stores E.out rfl rfl rfl rfl rfl ?_ ?_ ?_); (focus (first | exact ⟨rfl, rfl⟩ | (simp only [i64s_length, u8s_length]; refine ⟨?_, ?_⟩ <;> first | rfl | assumption | omega))); (focus (first | exact i64s_one _ | exact u8s_one _ | simp [Value.oneCell'])); clear E; intro u E0; have E := Lib.hid E0; clear E0) | ((with_reducible refine kn_alloc (o := ⟨some 11, _, _, _, _, _⟩) E.out rfl rfl ?_); clear E; intro g11 u E0 hb0; have E := Lib.hid E0; clear E0 hb0) | ((with_reducible refine kn_box (o := ⟨some 11, _, _, _, _, _⟩) E.out rfl rfl rfl ?_); clear E; intro g11 u E0 hb0; have E := Lib.hid E0; clear E0 hb0) | ((with_reducible refine kn_box_int (o := ⟨some 11, _, _, _, _, _⟩) E.out rfl rfl rfl ?_); clear E; intro g11 u E0 hb0; have E := Lib.hid E0; clear E0 hb0) | ((with_reducible refine kn_box_slice (o := ⟨some 11, _, _, _, _, _⟩) E.out rfl rfl rfl ?_); clear E; intro g11 u E0 hb0; have E := Lib.hid E0; clear E0 hb0) | ((with_reducible refine kn_box_bool (o := ⟨some 11, _, _, _, _, _⟩) E.out rfl rfl rfl ?_); clear E; intro g11 u E0 hb0; have E := Lib.hid E0; clear E0 hb0) | ((with_reducible refine kn_box_func (o := ⟨some 11, _, _, _, _, _⟩) E.out rfl rfl rfl ?_); clear E; intro g11 u E0 hb0; have E := Lib.hid E0; clear E0 hb0) | ((with_reducible refine kn_alloc (o := ⟨some 13, _, _, _, _, _⟩) E.out rfl rfl ?_); clear E; intro g13 u E0 hb0; have E := Lib.hid E0; clear E0 hb0) | ((with_reducible refine kn_box (o := ⟨some 13, _, _, _, _, _⟩) E.out rfl rfl rfl ?_); clear E; intro g13 u E0 hb0; have E := Lib.hid E0; clear E0 hb0) | ((with_reducible refine kn_box_int (o := ⟨some 13, _, _, _, _, _⟩) E.out rfl rfl rfl ?_); clear E; intro g13 u E0 hb0; have E := Lib.hid E0; clear E0 hb0) | ((with_reducible refine kn_box_slice (o := ⟨some 13, _, _, _, _, _⟩) E.out rfl rfl rfl ?_); clear E; intro g13 u E0 hb0; have E := Lib.hid E0; clear E0 hb0) | ((with_reducible refine kn_box_bool (o := ⟨some 13, _, _, _, _, _⟩) E.out rfl rfl rfl ?_); clear E; intro g13 u E0 hb0; have E := Lib.hid E0; clear E0 hb0) | ((with_reducible refine kn_box_func (o := ⟨some 13, _, _, _, _, _⟩) E.out rfl rfl rfl ?_); clear E; intro g13 u E0 hb0; have E := Lib.hid E0; clear E0 hb0) | ((with_reducible refine kn_alloc E.out rfl rfl ?_); clear E; intro g u E0 hb0; have E := Lib.hid E0; clear E0 hb0) | ((with_reducible refine kn_box E.out rfl rfl rfl ?_); clear E; intro g u E0 hb0; have E := Lib.hid E0; clear E0 hb0) | ((with_reducible refine kn_box_int E.out rfl rfl rfl ?_); clear E; intro g u E0 hb0; have E := Lib.hid E0; clear E0 hb0) | ((with_reducible refine kn_box_slice E.out rfl rfl rfl ?_); clear E; intro g u E0 hb0; have E := Lib.hid E0; clear E0 hb0) | ((with_reducible refine kn_box_bool E.out rfl rfl rfl ?_); clear E; intro g u E0 hb0; have E := Lib.hid E0; clear E0 hb0) | ((with_reducible refine kn_box_func E.out rfl rfl rfl ?_); clear E; intro g u E0 hb0; have E := Lib.hid E0; clear E0 hb0))

  go_loopw [15] (fun ii wr => ∃ i : Nat, i ≤ 16 ∧ ii = .int .i64 i ∧ Hid (Kn w [.row g13 27 (i64s U), .row g11 27 (i64s (SW i))] [] wr)) (fun ii _ => 16 - (intOf ii).toNat)
  case atStart => exact ⟨0, by omega, rfl, by rw [H0.out]; exact E.out.part _ _ (List.Sublist.refl _) (by simp)⟩
  case round =>
    clear E
    obtain ⟨i, hi, rfl, E⟩ := hrel
    by_cases hlt : i < 16
    · have hi2 : (i : Int) < 16 := by omega
      have ht4 : (t1 : Int) < 4 := by omega
      have hst := HST.out i hlt
      have hl := HL.out i
      have hg3 := i64s_get (SW i) (i * 4 + 3) (by omega)
      have hg1 := i64s_get (SW i) (i * 4 + t1) (by omega)
      rw [HG.out i 3 hlt (by omega)] at hg3
      rw [HG.out i t1 hlt (by omega)] at hg1
      generalize T.getD (i * 4 + 3) 0 = x3 at *
      generalize T.getD (i * 4 + t1) 0 = x1 at *
      replace hst := Lib.hid hst
      replace hg3 := Lib.hid hg3
      replace hg1 := Lib.hid hg1
      have hl2 : ((SW i).set (i * 4 + 3) x1).length = 64 := by rw [List.length_set]; exact hl
      have hw1 := Lib.hid (show IntKind.i64.wrap (tv - 1) = (t1 : Int) from by rw [IntKind.wrap_i64]; omega)
      have hw2 := Lib.hid (show IntKind.i64.wrap (t1 : Int) = (t1 : Int) from by rw [IntKind.wrap_i64]; omega)
      clear HST HG HL H0 H16 hq
      go_wp2_with (first
        | ((with_reducible refine kn_load (g := g11) (i := i * 4 + 3) E.out rfl rfl ?hx hg3.out ?_); (case hx => rfl))
        | ((with_reducible refine kn_load E.out rfl rfl rfl rfl ?_)) | ((with_reducible refine kn_load_if E.out rfl rfl rfl rfl ?_)) | ((with_reducible refine kn_loads E.out rfl rfl rfl ?_ ?_); (focus (first | rfl | (simp only [i64s_length, u8s_length]; first | rfl | assumption | omega)))) | ((with_reducible refine kn_loads_if E.out rfl rfl rfl ?_ ?_); (focus (first | rfl | (simp only [i64s_length, u8s_length]; first | rfl | assumption | omega)))) | ((with_reducible refine kn_store1_int E.out rfl rfl rfl rfl rfl ?_); clear E; intro u E0; have E := Lib.hid E0; clear E0) | ((with_reducible refine kn_store1_slice E.out rfl rfl rfl rfl rfl ?_); clear E; intro u E0; have E := Lib.hid E0; clear E0) | ((with_reducible refine kn_store1_bool E.out rfl rfl rfl rfl rfl ?_); clear E; intro u E0; have E := Lib.hid E0; clear E0) | ((with_reducible refine kn_stores E.out rfl rfl rfl rfl rfl ?_ ?_ ?_); (focus (first | exact ⟨rfl, rfl⟩ | (simp only [i64s_length, u8s_length]; refine ⟨?_, ?_⟩ <;> first | rfl | assumption | omega))); (focus (first | exact i64s_one _ | exact u8s_one _ | simp [Value.oneCell'])); clear E; intro u E0; have E := Lib.hid E0; clear E0) | ((with_reducible refine kn_alloc E.out rfl rfl ?_); clear E; intro g u E0 hb0; have E := Lib.hid E0; clear E0 hb0) | ((with_reducible refine kn_box E.out rfl rfl rfl ?_); clear E; intro g u E0 hb0; have E := Lib.hid E0; clear E0 hb0) | ((with_reducible refine kn_box_int E.out rfl rfl rfl ?_); clear E; intro g u E0 hb0; have E := Lib.hid E0; clear E0 hb0) | ((with_reducible refine kn_box_slice E.out rfl rfl rfl ?_); clear E; intro g u E0 hb0; have E := Lib.hid E0; clear E0 hb0) | ((with_reducible refine kn_box_bool E.out rfl rfl rfl ?_); clear E; intro g u E0 hb0; have E := Lib.hid E0; clear E0 hb0) | ((with_reducible refine kn_box_func E.out rfl rfl rfl ?_); clear E; intro g u E0 hb0; have E := Lib.hid E0; clear E0 hb0))
      refine wp_region_held_drew (S := Kn w [.row g13 27 (i64s U)] []) (by kernel_rfl) (E.out.drew.part _ _ (by repeat (first | exact List.Sublist.refl _ | apply List.Sublist.cons_cons | apply List.Sublist.cons)) (by simp)) (fun kS => ?_)
      have E1 := Lib.hid E.out.drew
      generalize World.drew _ = u1 at kS E1 ⊢
      clear E
      have E := E1
      clear E1
      (refine takeL (i := 0) (v := _) rfl (by kernel_rfl) (by kernel_rfl) (by kernel_rfl) (fun _ _ _ h => h) (by first | exact Or.inl ⟨by rfl, (by intro u hSu; clear hSu; go_simp; try with_reducible rfl)⟩ | exact Or.inr ⟨by rfl, rfl⟩) kS ?_; (try simp only [Act.put, List.setIfInBounds_toArray, List.set_cons_zero, List.set_cons_succ])); (refine takeL (i := 1) (v := _) rfl (by kernel_rfl) (by kernel_rfl) (by kernel_rfl) (fun _ _ _ h => h) (by first | exact Or.inl ⟨by rfl, (by intro u hSu; clear hSu; go_simp; try with_reducible rfl)⟩ | exact Or.inr ⟨by rfl, rfl⟩) kS ?_; (try simp only [Act.put, List.setIfInBounds_toArray, List.set_cons_zero, List.set_cons_succ])); (refine takeL (i := 2) (v := _) rfl (by kernel_rfl) (by kernel_rfl) (by kernel_rfl) (fun _ _ _ h => h) (by first | exact Or.inl ⟨by rfl, (by intro u hSu; clear hSu; go_simp; try with_reducible rfl)⟩ | exact Or.inr ⟨by rfl, rfl⟩) kS ?_; (try simp only [Act.put, List.setIfInBounds_toArray, List.set_cons_zero, List.set_cons_succ])); (refine takeL (i := 3) (v := _) rfl (by kernel_rfl) (by kernel_rfl) (by kernel_rfl) (fun _ _ _ h => h) (by first | exact Or.inl ⟨by rfl, (by intro u hSu; clear hSu; go_simp; try with_reducible rfl)⟩ | exact Or.inr ⟨by rfl, rfl⟩) kS ?_; (try simp only [Act.put, List.setIfInBounds_toArray, List.set_cons_zero, List.set_cons_succ]))
      try (first | rw [hw1.out] | rw [hw2.out])
      (refine takeL (i := 4) (v := _) rfl (by kernel_rfl) (by kernel_rfl) (by kernel_rfl) (fun _ _ _ h => h) (by first | exact Or.inl ⟨by rfl, (by intro u hSu; clear hSu; go_simp; try with_reducible rfl)⟩ | exact Or.inr ⟨by rfl, rfl⟩) kS ?_; (try simp only [Act.put, List.setIfInBounds_toArray, List.set_cons_zero, List.set_cons_succ])); (refine takeL (i := 5) (v := _) rfl (by kernel_rfl) (by kernel_rfl) (by kernel_rfl) (fun _ _ _ h => h) (by first | exact Or.inl ⟨by rfl, (by intro u hSu; clear hSu; go_simp; try with_reducible rfl)⟩ | exact Or.inr ⟨by rfl, rfl⟩) kS ?_; (try simp only [Act.put, List.setIfInBounds_toArray, List.set_cons_zero, List.set_cons_succ])); (refine takeL (i := 7) (v := _) rfl (by kernel_rfl) (by kernel_rfl) (by kernel_rfl) (fun _ _ _ h => h) (by first | exact Or.inl ⟨by rfl, (by intro u hSu; clear hSu; go_simp; try with_reducible rfl)⟩ | exact Or.inr ⟨by rfl, rfl⟩) kS ?_; (try simp only [Act.put, List.setIfInBounds_toArray, List.set_cons_zero, List.set_cons_succ]))
      refine callL (i := 6) rfl (by kernel_rfl) (fun K hK => ?_)
      (rw [if_pos (by rfl)]; refine wp_kn_load (g := g11) (i := i * 4 + t1) E.out rfl rfl hg1.out ?_; (refine hK.out _ _ (E.out.part _ _ (by repeat (first | exact List.Sublist.refl _ | apply List.Sublist.cons_cons | apply List.Sublist.cons)) (by simp)) (fun kS => ?_); clear hK K; (try simp only [Act.put, List.setIfInBounds_toArray, List.set_cons_zero, List.set_cons_succ])))
      (refine takeL (i := 8) (v := _) rfl (by kernel_rfl) (by kernel_rfl) (by kernel_rfl) (fun _ _ _ h => h) (by first | exact Or.inl ⟨by rfl, (by intro u hSu; clear hSu; go_simp; try with_reducible rfl)⟩ | exact Or.inr ⟨by rfl, rfl⟩) kS ?_; (try simp only [Act.put, List.setIfInBounds_toArray, List.set_cons_zero, List.set_cons_succ]))
      refine callL (i := 9) rfl (by kernel_rfl) (fun K hK => ?_)
      (rw [if_pos (by rfl)]; refine wp_kn_storei (g := g11) (i := i * 4 + 3) (z := x1) E.out rfl rfl rfl rfl (by omega) ?_; clear E kS; intro u E0; have E := Lib.hid E0; clear E0; (refine hK.out _ _ (E.out.part _ _ (by repeat (first | exact List.Sublist.refl _ | apply List.Sublist.cons_cons | apply List.Sublist.cons)) (by simp)) (fun kS => ?_); clear hK K; (try simp only [Act.put, List.setIfInBounds_toArray, List.set_cons_zero, List.set_cons_succ])))
      refine wpAnyH_done (by kernel_rfl) ?_ _
      have hcl := E.out.cell g11 (i * 4 + t1) (i64s_get ((SW i).set (i * 4 + 3) x1) (i * 4 + t1) (by omega))
      have hfr : u.frozen? ⟨g11, i * 4 + t1, none⟩ = false := (E.out.row (g := g11)).frozen _
      have E3 := kn_set E.out (g := g11) (i := i * 4 + t1) (v := .int .i64 x3)
      rw [i64s_set, hst.out] at E3
      replace E3 := Lib.hid E3
      go_wp2_with fail
      go_roundw
      case rel => exact ⟨i + 1, by omega, by go_num, E3⟩
      case measure => simp [intOf]; try omega
    · have hie : i = 16 := by omega
      have hin : ¬ ((i : Int) < 16) := by omega
      have hU : SW i = U := by rw [hie]; exact H16.out
      rw [hU] at E
      clear HST HG HL H0 H16 hlt hie hU
      go_wp2_with (first
        | ((with_reducible refine kn_loads_if (g := g11) E.out rfl rfl rfl ?hl ?_); (case hl => rw [i64s_length]; exact lU'.out))
        | ((with_reducible refine kn_loads_if (g := g13) E.out rfl rfl rfl ?hl ?_); (case hl => rw [i64s_length]; exact lU'.out))
        | ((with_reducible refine kn_load E.out rfl rfl rfl rfl ?_)) | ((with_reducible refine kn_load_if E.out rfl rfl rfl rfl ?_)) | ((with_reducible refine kn_loads E.out rfl rfl rfl ?_ ?_); (focus (first | rfl | (simp only [i64s_length, u8s_length]; first | rfl | assumption | omega)))) | ((with_reducible refine kn_loads_if E.out rfl rfl rfl ?_ ?_); (focus (first | rfl | (simp only [i64s_length, u8s_length]; first | rfl | assumption | omega)))) | ((with_reducible refine kn_store1_int E.out rfl rfl rfl rfl rfl ?_); clear E; intro u E0; have E := Lib.hid E0; clear E0) | ((with_reducible refine kn_store1_slice E.out rfl rfl rfl rfl rfl ?_); clear E; intro u E0; have E := Lib.hid E0; clear E0) | ((with_reducible refine kn_store1_bool E.out rfl rfl rfl rfl rfl ?_); clear E; intro u E0; have E := Lib.hid E0; clear E0) | ((with_reducible refine kn_stores E.out rfl rfl rfl rfl rfl ?_ ?_ ?_); (focus (first | exact ⟨rfl, rfl⟩ | (simp only [i64s_length, u8s_length]; refine ⟨?_, ?_⟩ <;> first | rfl | assumption | omega))); (focus (first | exact i64s_one _ | exact u8s_one _ | simp [Value.oneCell'])); clear E; intro u E0; have E := Lib.hid E0; clear E0) | ((with_reducible refine kn_alloc E.out rfl rfl ?_); clear E; intro g u E0 hb0; have E := Lib.hid E0; clear E0 hb0) | ((with_reducible refine kn_box E.out rfl rfl rfl ?_); clear E; intro g u E0 hb0; have E := Lib.hid E0; clear E0 hb0) | ((with_reducible refine kn_box_int E.out rfl rfl rfl ?_); clear E; intro g u E0 hb0; have E := Lib.hid E0; clear E0 hb0) | ((with_reducible refine kn_box_slice E.out rfl rfl rfl ?_); clear E; intro g u E0 hb0; have E := Lib.hid E0; clear E0 hb0) | ((with_reducible refine kn_box_bool E.out rfl rfl rfl ?_); clear E; intro g u E0 hb0; have E := Lib.hid E0; clear E0 hb0) | ((with_reducible refine kn_box_func E.out rfl rfl rfl ?_); clear E; intro g u E0 hb0; have E := Lib.hid E0; clear E0 hb0))
      go_ret
      exact ⟨rfl, E.out.bel⟩

set_option maxHeartbeats 8000000 in
set_option maxRecDepth 100000 in
theorem main_5 (w : World) (hT : Tabs w) (A : Option Addr) (c : Nat) (xs : List Nat) (h : Bs w w.heap.size A 16 xs) (t1 : Nat) (ht : t1 < 3) (tv : Int) (htv : tv = (t1 : Int) + 1) (hm4 : modeN (xs.getD 0 0) = 5) :
    Calls Tryd.prog 6 #[.slice A 16 c,   .int .i64 tv] w fun e w' => e = .returned (.bool true) ∧ Below w.heap.size w w' := by
  have E := Lib.hid (((Kn.start w).arg_bs h).arg_tabs hT)
  have hMd := Lib.hid (fun u hu => mode_ok A c xs u hu)
  have ha1 : ¬ (tv < 1) := by omega
  have ha3 : ¬ (3 < tv) := by omega
  have htv1 : tv - 1 = (t1 : Int) := by omega
  have htvN := Lib.hid (show tv = ((t1 + 1 : Nat) : Int) from by omega)
  clear htv
  have hd0 := dec_st xs 5 0 (by omega) hm4 (by omega) h.1
  have hd1 := dec_st xs 5 (t1 + 1) (by omega) hm4 (by omega) h.1
  have hl0 : (st xs false (5 + 1) 2 0).length = 16 := by unfold st; rw [lay_length]; exact h.1
  have hl1 : (st xs false (5 + 1) 2 (t1 + 1)).length = 16 := by unfold st; rw [lay_length]; exact h.1
  have hS0 := Lib.hid (fun (P V : Int) (hP : P = ((5 + 1 : Nat) : Int)) (hV : V = ((0 : Nat) : Int)) u hu => setlow16 A c (5 + 1) 0 P V hP hV xs u hu (by omega) (by omega))
  have hS1 := Lib.hid (fun (P V : Int) (hP : P = ((5 + 1 : Nat) : Int)) (hV : V = ((t1 + 1 : Nat) : Int)) u hu => setlow16 A c (5 + 1) (t1 + 1) P V hP hV xs u hu (by omega) (by omega))
  have hD0 := Lib.hid (fun A c u hT hu => show Calls Tryd.prog 9 #[.slice A 16 c] u (fun e w' => e = .returned (.tuple #[arr (decV (st xs false (5 + 1) 2 0)), .int .i64 0]) ∧ Below u.heap.size u w') from decode7_any A 16 c _ u hT hu (by omega))
  have hD1 := Lib.hid (fun A c u hT hu => show Calls Tryd.prog 9 #[.slice A 16 c] u (fun e w' => e = .returned (.tuple #[arr (decV (st xs false (5 + 1) 2 (t1 + 1))), .int .i64 0]) ∧ Below u.heap.size u w') from decode7_any A 16 c _ u hT hu (by omega))
  have lT := decV_length (st xs false (5 + 1) 2 0)
  have lU := decV_length (st xs false (5 + 1) 2 (t1 + 1))
  have HST := Lib.hid (fun i (hi : i < 16) => show ((swP (decV (st xs false (5 + 1) 2 0)) (decV (st xs false (5 + 1) 2 (t1 + 1))) i).set (i * 4 + 3) ((decV (st xs false (5 + 1) 2 0)).getD (i * 4 + t1) 0)).set (i * 4 + t1) ((decV (st xs false (5 + 1) 2 0)).getD (i * 4 + 3) 0) = swP (decV (st xs false (5 + 1) 2 0)) (decV (st xs false (5 + 1) 2 (t1 + 1))) (i + 1) from by
    have g0 : ∀ c, c < 4 → (decV (st xs false (5 + 1) 2 0)).getD (i * 4 + c) 0 = (baV xs 5 i).getD c 0 := fun c hc => by
      rw [hd0, rows_get _ (fun i => by rw [tuV_length]; exact baV_length xs 5 i) i c hi hc]
      rfl
    have g1 : ∀ c, c < 4 → (decV (st xs false (5 + 1) 2 (t1 + 1))).getD (i * 4 + c) 0 = (tuV (baV xs 5 i) ((t1 : Int) + 1)).getD c 0 := fun c hc => by
      rw [hd1, rows_get _ (fun i => by rw [tuV_length]; exact baV_length xs 5 i) i c hi hc]
      rfl
    obtain ⟨k1, k2, k3⟩ := tuV_get (baV xs 5 i) t1 (baV_length xs 5 i) ht
    exact swP_step _ _ i t1 hi ht (by rw [g1 3 (by omega), g0 t1 (by omega), k1]) (by rw [g1 t1 (by omega), g0 3 (by omega), k2]) (fun c hc1 hc2 => by rw [g1 c (by omega), g0 c (by omega), k3 c hc1 hc2]))
  have H0 := Lib.hid (swP_zero (decV (st xs false (5 + 1) 2 0)) (decV (st xs false (5 + 1) 2 (t1 + 1))) lT)
  have H16 := Lib.hid (swP_all (decV (st xs false (5 + 1) 2 0)) (decV (st xs false (5 + 1) 2 (t1 + 1))) lU)
  have HL := Lib.hid (fun i => swP_length (decV (st xs false (5 + 1) 2 0)) (decV (st xs false (5 + 1) 2 (t1 + 1))) i)
  have HG := Lib.hid (fun i c (hi : i < 16) (hc : c < 4) => show (swP (decV (st xs false (5 + 1) 2 0)) (decV (st xs false (5 + 1) 2 (t1 + 1))) i).getD (i * 4 + c) 0 = (decV (st xs false (5 + 1) 2 0)).getD (i * 4 + c) 0 from by
    rw [swP_getD _ _ _ _ (by omega), if_neg (by omega)])
  generalize swP (decV (st xs false (5 + 1) 2 0)) (decV (st xs false (5 + 1) 2 (t1 + 1))) = SW at *
  clear hd0 hd1
  generalize decV (st xs false (5 + 1) 2 0) = T at *
  generalize decV (st xs false (5 + 1) 2 (t1 + 1)) = U at *
  generalize st xs false (5 + 1) 2 0 = y0 at *
  generalize st xs false (5 + 1) 2 (t1 + 1) = y1 at *
  have hq : ∀ u, (Op.equalIn 10000 27 (arr U) (arr U)).run Tryd.prog u = .ok true u := fun u => by
    have h := eq_tile U U lU lU u
    rw [beq_self_eq_true] at h
    exact h
  generalize modeN (xs.getD 0 0) = k at *
  have hk4 : k = 5 := hm4
  have hq4 : ((k : Int) != 4) = true := by simp [hk4]
  have hq5 : ((k : Int) != 5) = false := by simp [hk4]
  have hkP := Lib.hid (show (k : Int) + 1 = ((5 + 1 : Nat) : Int) from by omega)
  have hk8 : k ≤ 8 := by omega
  have hl0' := Lib.hid hl0
  have hl1' := Lib.hid hl1
  have lU' := Lib.hid lU
  clear h hT hm4 hk4 hl0 hl1
  go_enter Tryd.func6, Tryd.ntmps6
  go_wp2_with (first
    | (go_at_call 8; refine (awake7 _ (E.out.get (by simp))).mono ?_; rintro e w1 ⟨rfl, hb⟩; have E1 := Lib.hid (E.out.later hb); clear hb E; have E := E1; clear E1)
    | (go_at_call 11; refine (hMd.out _ (E.out.bs (by simp))).mono ?_; clear hMd; rintro e w3 ⟨rfl, rfl⟩)
    | (go_at_call 20; first
      | (refine (hS0.out _ _ hkP.out rfl _ (E.out.bs (by simp))).mono ?_; clear hS0; rintro e w4 ⟨A1, n1, c1, rfl, hB1, hn1, hc1, hb⟩; obtain rfl : n1 = 16 := hB1.1.symm.trans hl0'.out; have E1 := Lib.hid (E.out.later hb); clear hb E; have E := E1; clear E1; have E1 := Lib.hid (E.out.new_bsi hB1); clear E hB1; have E := E1; clear E1)
      | (refine (hS1.out _ _ hkP.out htvN.out _ (E.out.bs (by simp))).mono ?_; clear hS1; rintro e w5 ⟨A2, n2, c2, rfl, hB2, hn2, hc2, hb⟩; obtain rfl : n2 = 16 := hB2.1.symm.trans hl1'.out; have E1 := Lib.hid (E.out.later hb); clear hb E; have E := E1; clear E1; have E1 := Lib.hid (E.out.new_bsi hB2); clear E hB2; have E := E1; clear E1))
    | (go_at_call 9; first
      | (refine (hD0.out A1 c1 _ (E.out.get (by simp)) (E.out.bs (List.mem_cons_of_mem _ List.mem_cons_self))).mono ?_; clear hD0; rintro e w6 ⟨rfl, hb⟩; have E1 := Lib.hid (E.out.later hb); clear hb E; have E := E1; clear E1)
      | (refine (hD1.out A2 c2 _ (E.out.get (by simp)) (E.out.bs List.mem_cons_self)).mono ?_; clear hD1; rintro e w7 ⟨rfl, hb⟩; have E1 := Lib.hid (E.out.later hb); clear hb E; have E := E1; clear E1))
    | ((with_reducible refine kn_load E.out rfl rfl rfl rfl ?_)) | ((with_reducible refine kn_load_if E.out rfl rfl rfl rfl ?_)) | ((with_reducible refine kn_loads E.out rfl rfl rfl ?_ ?_); (focus (first | rfl | (simp only [i64s_length, u8s_length]; first | rfl | assumption | omega)))) | ((with_reducible refine kn_loads_if E.out rfl rfl rfl ?_ ?_); (focus (first | rfl | (simp only [i64s_length, u8s_length]; first | rfl | assumption | omega)))) | ((with_reducible refine kn_store1_int E.out rfl rfl rfl rfl rfl ?_); clear E; intro u E0; have E := Lib.hid E0; clear E0) | ((with_reducible refine kn_store1_slice E.out rfl rfl rfl rfl rfl ?_); clear E; intro u E0; have E := Lib.hid E0; clear E0) | ((with_reducible refine kn_store1_bool E.out rfl rfl rfl rfl rfl ?_); clear E; intro u E0; have E := Lib.hid E0; clear E0) | ((with_reducible refine kn_stores E.out rfl rfl rfl rfl rfl ?_ ?_ ?_); (focus (first | exact ⟨rfl, rfl⟩ | (simp only [i64s_length, u8s_length]; refine ⟨?_, ?_⟩ <;> first | rfl | assumption | omega))); (focus (first | exact i64s_one _ | exact u8s_one _ | simp [Value.oneCell'])); clear E; intro u E0; have E := Lib.hid E0; clear E0) | ((with_reducible refine kn_alloc (o := ⟨some 11, _, _, _, _, _⟩) E.out rfl rfl ?_); clear E; intro g11 u E0 hb0; have E := Lib.hid E0; clear E0 hb0) | ((with_reducible refine kn_box (o := ⟨some 11, _, _, _, _, _⟩) E.out rfl rfl rfl ?_); clear E; intro g11 u E0 hb0; have E := Lib.hid E0; clear E0 hb0) | ((with_reducible refine kn_box_int (o := ⟨some 11, _, _, _, _, _⟩) E.out rfl rfl rfl ?_); clear E; intro g11 u E0 hb0; have E := Lib.hid E0; clear E0 hb0) | ((with_reducible refine kn_box_slice (o := ⟨some 11, _, _, _, _, _⟩) E.out rfl rfl rfl ?_); clear E; intro g11 u E0 hb0; have E := Lib.hid E0; clear E0 hb0) | ((with_reducible refine kn_box_bool (o := ⟨some 11, _, _, _, _, _⟩) E.out rfl rfl rfl ?_); clear E; intro g11 u E0 hb0; have E := Lib.hid E0; clear E0 hb0) | ((with_reducible refine kn_box_func (o := ⟨some 11, _, _, _, _, _⟩) E.out rfl rfl rfl ?_); clear E; intro g11 u E0 hb0; have E := Lib.hid E0; clear E0 hb0) | ((with_reducible refine kn_alloc (o := ⟨some 13, _, _, _, _, _⟩) E.out rfl rfl ?_); clear E; intro g13 u E0 hb0; have E := Lib.hid E0; clear E0 hb0) | ((with_reducible refine kn_box (o := ⟨some 13, _, _, _, _, _⟩) E.out rfl rfl rfl ?_); clear E; intro g13 u E0 hb0; have E := Lib.hid E0; clear E0 hb0) | ((with_reducible refine kn_box_int (o := ⟨some 13, _, _, _, _, _⟩) E.out rfl rfl rfl ?_); clear E; intro g13 u E0 hb0; have E := Lib.hid E0; clear E0 hb0) | ((with_reducible refine kn_box_slice (o := ⟨some 13, _, _, _, _, _⟩) E.out rfl rfl rfl ?_); clear E; intro g13 u E0 hb0; have E := Lib.hid E0; clear E0 hb0) | ((with_reducible refine kn_box_bool (o := ⟨some 13, _, _, _, _, _⟩) E.out rfl rfl rfl ?_); clear E; intro g13 u E0 hb0; have E := Lib.hid E0; clear E0 hb0) | ((with_reducible refine kn_box_func (o := ⟨some 13, _, _, _, _, _⟩) E.out rfl rfl rfl ?_); clear E; intro g13 u E0 hb0; have E := Lib.hid E0; clear E0 hb0) | ((with_reducible refine kn_alloc E.out rfl rfl ?_); clear E; intro g u E0 hb0; have E := Lib.hid E0; clear E0 hb0) | ((with_reducible refine kn_box E.out rfl rfl rfl ?_); clear E; intro g u E0 hb0; have E := Lib.hid E0; clear E0 hb0) | ((with_reducible refine kn_box_int E.out rfl rfl rfl ?_); clear E; intro g u E0 hb0; have E := Lib.hid E0; clear E0 hb0) | ((with_reducible refine kn_box_slice E.out rfl rfl rfl ?_); clear E; intro g u E0 hb0; have E := Lib.hid E0; clear E0 hb0) | ((with_reducible refine kn_box_bool E.out rfl rfl rfl ?_); clear E; intro g u E0 hb0; have E := Lib.hid E0; clear E0 hb0) | ((with_reducible refine kn_box_func E.out rfl rfl rfl ?_); clear E; intro g u E0 hb0; have E := Lib.hid E0; clear E0 hb0))

  go_loopw [15] (fun ii wr => ∃ i : Nat, i ≤ 16 ∧ ii = .int .i64 i ∧ Hid (Kn w [.row g13 27 (i64s U), .row g11 27 (i64s (SW i))] [] wr)) (fun ii _ => 16 - (intOf ii).toNat)
  case atStart => exact ⟨0, by omega, rfl, by rw [H0.out]; exact E.out.part _ _ (List.Sublist.refl _) (by simp)⟩
  case round =>
    clear E
    obtain ⟨i, hi, rfl, E⟩ := hrel
    by_cases hlt : i < 16
    · have hi2 : (i : Int) < 16 := by omega
      have ht4 : (t1 : Int) < 4 := by omega
      have hst := HST.out i hlt
      have hl := HL.out i
      have hg3 := i64s_get (SW i) (i * 4 + 3) (by omega)
      have hg1 := i64s_get (SW i) (i * 4 + t1) (by omega)
      rw [HG.out i 3 hlt (by omega)] at hg3
      rw [HG.out i t1 hlt (by omega)] at hg1
      generalize T.getD (i * 4 + 3) 0 = x3 at *
      generalize T.getD (i * 4 + t1) 0 = x1 at *
      replace hst := Lib.hid hst
      replace hg3 := Lib.hid hg3
      replace hg1 := Lib.hid hg1
      have hl2 : ((SW i).set (i * 4 + 3) x1).length = 64 := by rw [List.length_set]; exact hl
      have hw1 := Lib.hid (show IntKind.i64.wrap (tv - 1) = (t1 : Int) from by rw [IntKind.wrap_i64]; omega)
      have hw2 := Lib.hid (show IntKind.i64.wrap (t1 : Int) = (t1 : Int) from by rw [IntKind.wrap_i64]; omega)
      clear HST HG HL H0 H16 hq
      go_wp2_with (first
        | ((with_reducible refine kn_load (g := g11) (i := i * 4 + 3) E.out rfl rfl ?hx hg3.out ?_); (case hx => rfl))
        | ((with_reducible refine kn_load E.out rfl rfl rfl rfl ?_)) | ((with_reducible refine kn_load_if E.out rfl rfl rfl rfl ?_)) | ((with_reducible refine kn_loads E.out rfl rfl rfl ?_ ?_); (focus (first | rfl | (simp only [i64s_length, u8s_length]; first | rfl | assumption | omega)))) | ((with_reducible refine kn_loads_if E.out rfl rfl rfl ?_ ?_); (focus (first | rfl | (simp only [i64s_length, u8s_length]; first | rfl | assumption | omega)))) | ((with_reducible refine kn_store1_int E.out rfl rfl rfl rfl rfl ?_); clear E; intro u E0; have E := Lib.hid E0; clear E0) | ((with_reducible refine kn_store1_slice E.out rfl rfl rfl rfl rfl ?_); clear E; intro u E0; have E := Lib.hid E0; clear E0) | ((with_reducible refine kn_store1_bool E.out rfl rfl rfl rfl rfl ?_); clear E; intro u E0; have E := Lib.hid E0; clear E0) | ((with_reducible refine kn_stores E.out rfl rfl rfl rfl rfl ?_ ?_ ?_); (focus (first | exact ⟨rfl, rfl⟩ | (simp only [i64s_length, u8s_length]; refine ⟨?_, ?_⟩ <;> first | rfl | assumption | omega))); (focus (first | exact i64s_one _ | exact u8s_one _ | simp [Value.oneCell'])); clear E; intro u E0; have E := Lib.hid E0; clear E0) | ((with_reducible refine kn_alloc E.out rfl rfl ?_); clear E; intro g u E0 hb0; have E := Lib.hid E0; clear E0 hb0) | ((with_reducible refine kn_box E.out rfl rfl rfl ?_); clear E; intro g u E0 hb0; have E := Lib.hid E0; clear E0 hb0) | ((with_reducible refine kn_box_int E.out rfl rfl rfl ?_); clear E; intro g u E0 hb0; have E := Lib.hid E0; clear E0 hb0) | ((with_reducible refine kn_box_slice E.out rfl rfl rfl ?_); clear E; intro g u E0 hb0; have E := Lib.hid E0; clear E0 hb0) | ((with_reducible refine kn_box_bool E.out rfl rfl rfl ?_); clear E; intro g u E0 hb0; have E := Lib.hid E0; clear E0 hb0) | ((with_reducible refine kn_box_func E.out rfl rfl rfl ?_); clear E; intro g u E0 hb0; have E := Lib.hid E0; clear E0 hb0))
      refine wp_region_held_drew (S := Kn w [.row g13 27 (i64s U)] []) (by kernel_rfl) (E.out.drew.part _ _ (by repeat (first | exact List.Sublist.refl _ | apply List.Sublist.cons_cons | apply List.Sublist.cons)) (by simp)) (fun kS => ?_)
      have E1 := Lib.hid E.out.drew
      generalize World.drew _ = u1 at kS E1 ⊢
      clear E
      have E := E1
      clear E1
      (refine takeL (i := 0) (v := _) rfl (by kernel_rfl) (by kernel_rfl) (by kernel_rfl) (fun _ _ _ h => h) (by first | exact Or.inl ⟨by rfl, (by intro u hSu; clear hSu; go_simp; try with_reducible rfl)⟩ | exact Or.inr ⟨by rfl, rfl⟩) kS ?_; (try simp only [Act.put, List.setIfInBounds_toArray, List.set_cons_zero, List.set_cons_succ])); (refine takeL (i := 1) (v := _) rfl (by kernel_rfl) (by kernel_rfl) (by kernel_rfl) (fun _ _ _ h => h) (by first | exact Or.inl ⟨by rfl, (by intro u hSu; clear hSu; go_simp; try with_reducible rfl)⟩ | exact Or.inr ⟨by rfl, rfl⟩) kS ?_; (try simp only [Act.put, List.setIfInBounds_toArray, List.set_cons_zero, List.set_cons_succ])); (refine takeL (i := 2) (v := _) rfl (by kernel_rfl) (by kernel_rfl) (by kernel_rfl) (fun _ _ _ h => h) (by first | exact Or.inl ⟨by rfl, (by intro u hSu; clear hSu; go_simp; try with_reducible rfl)⟩ | exact Or.inr ⟨by rfl, rfl⟩) kS ?_; (try simp only [Act.put, List.setIfInBounds_toArray, List.set_cons_zero, List.set_cons_succ])); (refine takeL (i := 3) (v := _) rfl (by kernel_rfl) (by kernel_rfl) (by kernel_rfl) (fun _ _ _ h => h) (by first | exact Or.inl ⟨by rfl, (by intro u hSu; clear hSu; go_simp; try with_reducible rfl)⟩ | exact Or.inr ⟨by rfl, rfl⟩) kS ?_; (try simp only [Act.put, List.setIfInBounds_toArray, List.set_cons_zero, List.set_cons_succ]))
      try (first | rw [hw1.out] | rw [hw2.out])
      (refine takeL (i := 4) (v := _) rfl (by kernel_rfl) (by kernel_rfl) (by kernel_rfl) (fun _ _ _ h => h) (by first | exact Or.inl ⟨by rfl, (by intro u hSu; clear hSu; go_simp; try with_reducible rfl)⟩ | exact Or.inr ⟨by rfl, rfl⟩) kS ?_; (try simp only [Act.put, List.setIfInBounds_toArray, List.set_cons_zero, List.set_cons_succ])); (refine takeL (i := 5) (v := _) rfl (by kernel_rfl) (by kernel_rfl) (by kernel_rfl) (fun _ _ _ h => h) (by first | exact Or.inl ⟨by rfl, (by intro u hSu; clear hSu; go_simp; try with_reducible rfl)⟩ | exact Or.inr ⟨by rfl, rfl⟩) kS ?_; (try simp only [Act.put, List.setIfInBounds_toArray, List.set_cons_zero, List.set_cons_succ])); (refine takeL (i := 7) (v := _) rfl (by kernel_rfl) (by kernel_rfl) (by kernel_rfl) (fun _ _ _ h => h) (by first | exact Or.inl ⟨by rfl, (by intro u hSu; clear hSu; go_simp; try with_reducible rfl)⟩ | exact Or.inr ⟨by rfl, rfl⟩) kS ?_; (try simp only [Act.put, List.setIfInBounds_toArray, List.set_cons_zero, List.set_cons_succ]))
      refine callL (i := 6) rfl (by kernel_rfl) (fun K hK => ?_)
      (rw [if_pos (by rfl)]; refine wp_kn_load (g := g11) (i := i * 4 + t1) E.out rfl rfl hg1.out ?_; (refine hK.out _ _ (E.out.part _ _ (by repeat (first | exact List.Sublist.refl _ | apply List.Sublist.cons_cons | apply List.Sublist.cons)) (by simp)) (fun kS => ?_); clear hK K; (try simp only [Act.put, List.setIfInBounds_toArray, List.set_cons_zero, List.set_cons_succ])))
      (refine takeL (i := 8) (v := _) rfl (by kernel_rfl) (by kernel_rfl) (by kernel_rfl) (fun _ _ _ h => h) (by first | exact Or.inl ⟨by rfl, (by intro u hSu; clear hSu; go_simp; try with_reducible rfl)⟩ | exact Or.inr ⟨by rfl, rfl⟩) kS ?_; (try simp only [Act.put, List.setIfInBounds_toArray, List.set_cons_zero, List.set_cons_succ]))
      refine callL (i := 9) rfl (by kernel_rfl) (fun K hK => ?_)
      (rw [if_pos (by rfl)]; refine wp_kn_storei (g := g11) (i := i * 4 + 3) (z := x1) E.out rfl rfl rfl rfl (by omega) ?_; clear E kS; intro u E0; have E := Lib.hid E0; clear E0; (refine hK.out _ _ (E.out.part _ _ (by repeat (first | exact List.Sublist.refl _ | apply List.Sublist.cons_cons | apply List.Sublist.cons)) (by simp)) (fun kS => ?_); clear hK K; (try simp only [Act.put, List.setIfInBounds_toArray, List.set_cons_zero, List.set_cons_succ])))
      refine wpAnyH_done (by kernel_rfl) ?_ _
      have hcl := E.out.cell g11 (i * 4 + t1) (i64s_get ((SW i).set (i * 4 + 3) x1) (i * 4 + t1) (by omega))
      have hfr : u.frozen? ⟨g11, i * 4 + t1, none⟩ = false := (E.out.row (g := g11)).frozen _
      have E3 := kn_set E.out (g := g11) (i := i * 4 + t1) (v := .int .i64 x3)
      rw [i64s_set, hst.out] at E3
      replace E3 := Lib.hid E3
      go_wp2_with fail
      go_roundw
      case rel => exact ⟨i + 1, by omega, by go_num, E3⟩
      case measure => simp [intOf]; try omega
    · have hie : i = 16 := by omega
      have hin : ¬ ((i : Int) < 16) := by omega
      have hU : SW i = U := by rw [hie]; exact H16.out
      rw [hU] at E
      clear HST HG HL H0 H16 hlt hie hU
      go_wp2_with (first
        | ((with_reducible refine kn_loads_if (g := g11) E.out rfl rfl rfl ?hl ?_); (case hl => rw [i64s_length]; exact lU'.out))
        | ((with_reducible refine kn_loads_if (g := g13) E.out rfl rfl rfl ?hl ?_); (case hl => rw [i64s_length]; exact lU'.out))
        | ((with_reducible refine kn_load E.out rfl rfl rfl rfl ?_)) | ((with_reducible refine kn_load_if E.out rfl rfl rfl rfl ?_)) | ((with_reducible refine kn_loads E.out rfl rfl rfl ?_ ?_); (focus (first | rfl | (simp only [i64s_length, u8s_length]; first | rfl | assumption | omega)))) | ((with_reducible refine kn_loads_if E.out rfl rfl rfl ?_ ?_); (focus (first | rfl | (simp only [i64s_length, u8s_length]; first | rfl | assumption | omega)))) | ((with_reducible refine kn_store1_int E.out rfl rfl rfl rfl rfl ?_); clear E; intro u E0; have E := Lib.hid E0; clear E0) | ((with_reducible refine kn_store1_slice E.out rfl rfl rfl rfl rfl ?_); clear E; intro u E0; have E := Lib.hid E0; clear E0) | ((with_reducible refine kn_store1_bool E.out rfl rfl rfl rfl rfl ?_); clear E; intro u E0; have E := Lib.hid E0; clear E0) | ((with_reducible refine kn_stores E.out rfl rfl rfl rfl rfl ?_ ?_ ?_); (focus (first | exact ⟨rfl, rfl⟩ | (simp only [i64s_length, u8s_length]; refine ⟨?_, ?_⟩ <;> first | rfl | assumption | omega))); (focus (first | exact i64s_one _ | exact u8s_one _ | simp [Value.oneCell'])); clear E; intro u E0; have E := Lib.hid E0; clear E0) | ((with_reducible refine kn_alloc E.out rfl rfl ?_); clear E; intro g u E0 hb0; have E := Lib.hid E0; clear E0 hb0) | ((with_reducible refine kn_box E.out rfl rfl rfl ?_); clear E; intro g u E0 hb0; have E := Lib.hid E0; clear E0 hb0) | ((with_reducible refine kn_box_int E.out rfl rfl rfl ?_); clear E; intro g u E0 hb0; have E := Lib.hid E0; clear E0 hb0) | ((with_reducible refine kn_box_slice E.out rfl rfl rfl ?_); clear E; intro g u E0 hb0; have E := Lib.hid E0; clear E0 hb0) | ((with_reducible refine kn_box_bool E.out rfl rfl rfl ?_); clear E; intro g u E0 hb0; have E := Lib.hid E0; clear E0 hb0) | ((with_reducible refine kn_box_func E.out rfl rfl rfl ?_); clear E; intro g u E0 hb0; have E := Lib.hid E0; clear E0 hb0))
      go_ret
      exact ⟨rfl, E.out.bel⟩

theorem walk (w : World) (hT : Tabs w) (A : Option Addr) (n c : Nat) (xs : List Nat) (h : Bs w w.heap.size A n xs) (hc : n ≤ c) (hcm : c ≤ 9223372036854775807) (a : Int) (ha : -9223372036854775808 ≤ a ∧ a ≤ 9223372036854775807) :
    Calls Tryd.prog 6 #[.slice A n c, .int .i64 a] w fun e w' => e = .returned (.bool true) ∧ Below w.heap.size w w' := by
  by_cases hn : n = 16
  · subst hn
    by_cases h1 : a < 1
    · exact out_low w hT A c a h1
    by_cases h3 : 3 < a
    · exact out_high w hT A c a h3
    obtain ⟨t1, ht⟩ := Int.eq_ofNat_of_zero_le (show 0 ≤ a - 1 by omega)
    obtain rfl : a = (t1 : Int) + 1 := by omega
    have ht3 : t1 < 3 := by omega
    by_cases h4 : modeN (xs.getD 0 0) = 4
    · exact main_4 w hT A c xs h t1 ht3 _ rfl h4
    by_cases h5 : modeN (xs.getD 0 0) = 5
    · exact main_5 w hT A c xs h t1 ht3 _ rfl h5
    exact out_mode w hT A c xs h t1 ht3 h4 h5
  · exact out_n w hT A n c a hn (by omega)

theorem laidOut : laidOutB Tryd.prog = true := by kernel_rfl
set_option maxRecDepth 100000 in
theorem contract (H : Type) (enc : TypeId × Value → H) (W : World) (base : Nat) (args : Array Value) (ds gs : List (DataW H)) (before : List MemPlace)
    (hval0 : ∀ (j : Nat) t v, Tryd.f6.params[j]? = some t → args[j]? = some v → Value.okWide Tryd.prog W .any base t v)
    (hW : DataW.Whole enc Tryd.prog Tryd.f6.params.toList Rows.bcsevenTurnsSpec.vars false W args.toList ds gs before) (hL : laidMetH Tryd.prog Rows.bcsevenTurnsRow.laid W) :
    Calls Tryd.prog 6 args W fun e W' => ∃ v, e = .returned v ∧ Rows.bcsevenTurnsSpec.post enc Tryd.prog Tryd.f6 false true false false W args v W' := by
  have hval : ∀ (j : Nat) t v, Tryd.f6.params[j]? = some t → args[j]? = some v → Value.okWide Tryd.prog W .any base t v := hval0
  have hW' := hW
  obtain ⟨p, q, hA0, hV, rfl, hfz, hnd⟩ := hW
  have hA : DataW.TrodAll enc Tryd.prog W 0 (fun _ => true) true Tryd.f6.params.toList args.toList ds p := hA0
  rw [Tryd.params6] at hA hval
  obtain ⟨v0, vs0, d0, ds0, p0, q0, hargs, rfl, rfl, h0, r0⟩ := trodAll_cons hA
  obtain ⟨v1, vs1, d1, ds1, p1, q1, rfl, rfl, rfl, h1, r1⟩ := trodAll_cons r0
  obtain ⟨rfl, rfl, rfl⟩ := trodAll_nil r1
  obtain rfl : args = #[v0, v1] := by cases args; simp_all
  have lt0 : ∀ x ∈ p0, x.block < W.heap.size := by obtain ⟨m, hm⟩ := h0; exact DataW.trod_lt m _ _ _ hm
  obtain ⟨rfl, rfl⟩ := trodVars_none hV
  obtain ⟨A0, n0, c0, xs0, rfl, hB0, hc0, hcm0⟩ := open_bytes Tryd.underlying22 Tryd.underlying5 (by kernel_rfl) (hval 0 22 v0 rfl rfl) h0
  obtain ⟨a1, rfl, rfl, rfl, w1⟩ := open_int Tryd.underlying3 (hval 1 3 v1 rfl rfl) h1
  have hm1 := bounds_i64 w1
  clear hA0 hval0
  refine (walk W (tabs hL) A0 n0 c0 xs0 hB0 hc0 hcm0 a1 hm1).mono fun e W' ⟨he, bel⟩ => ?_
  subst he
  exact ⟨_, rfl, _, _, _, [], _, [], hW', trodAll_mk1 (shut_bool Tryd.underlying4 _), (trodAll_cons_mk (Below.trod laidOut (by kernel_rfl) (of_decide_eq_true (by kernel_rfl)) h0 bel lt0) (trodAll_cons_mk (shut_int Tryd.underlying3 w1) trodAll_mk0)), rfl, bel.frame _, fun h => by cases h⟩

theorem reads (os : Os) {H : Type} (enc : TypeId × Value → H) : ∃ places, DataW.whole enc Tryd.prog ((laidWorld os).forCall (fun _ _ => 0) ⟨#[], #[.slice none 0 0, .int .i64 0], []⟩).memory Tryd.f6.params.toList Rows.bcsevenTurnsSpec.vars false (#[.slice none 0 0, .int .i64 0] : Array Value).toList 8 = some ([.nil, .lit (.int .i64 0)], [], places) :=
  ⟨[], by kernel_rfl⟩

set_option maxRecDepth 100000 in
theorem lifted (os : Os) (started : os.Started) (H : Type) (enc : TypeId × Value → H) (F : Stop.Interp) :
    ReturnsInHanded {} Tryd.checked os 6 .any ((OpenSpec.ofChange Rows.bcsevenTurnsSpec).preRow enc Tryd.prog Tryd.f6 Rows.bcsevenTurnsRow.domain false Rows.bcsevenTurnsRow.laid) (((OpenSpec.ofChange Rows.bcsevenTurnsSpec).at F).post enc Tryd.prog Tryd.f6 false true false false) := by
  obtain ⟨places, hx⟩ := reads os enc
  refine returnsInHanded_of_row (C := Tryd.checked) (s := OpenSpec.ofChange Rows.bcsevenTurnsSpec) own started (by kernel_rfl) Tryd.func6
    (witness_row_at (enc := enc) (C := Tryd.checked) false (laidWorld os) #[.slice none 0 0, .int .i64 0] rfl (by kernel_rfl) (by kernel_rfl) (by kernel_rfl)
      (OpenSpec.preRow_of_cond 8 hx (by kernel_rfl) (fun k hk => by cases hk) (by kernel_rfl) (laid_met os _))) ?_
  intro W base args ds gs before hval hW _ _ _ hL _ _
  exact contract H enc W base args ds gs before hval hW hL

theorem said : Rows.BcsevenTurnsSaid :=
  OpenClaim.holds_of_cond 6 Tryd.f6 rfl rfl rfl rfl rfl rfl rfl ⟨rfl, rfl, rfl, rfl, rfl⟩ rfl rfl rfl rfl rfl (by kernel_rfl) Tryd.func6 (by kernel_rfl)
    (of_decide_eq_true (by kernel_rfl)) (by unfold Func.isWrapper; first | (rw [if_pos (by decide +kernel)]; kernel_rfl) | (rw [if_neg (by decide +kernel)]; exact ⟨rfl, rfl⟩))
    (fun os started H enc _ F => by rw [OpenClaim.pre_eq_preRow]; exact lifted os started H enc F)

theorem plain (f : FuncId) (fn : Func) (hf : Tryd.pinned.checked.prog.funcNamed "swatch/swatchlaw09.BcsevenTurns" = some f) (hfn : Tryd.pinned.checked.prog.funcs[f]? = some fn) :
    false = Tryd.pinned.checked.prog.looks [] ∧ ∀ (j : Nat) t, fn.params[j]? = some t → Tryd.pinned.checked.prog.wantsStandIn t = false := by
  obtain rfl : f = 6 := Option.some.inj ((show Tryd.prog.funcNamed "swatch/swatchlaw09.BcsevenTurns" = some 6 by kernel_rfl).symm.trans hf) |>.symm
  obtain rfl : fn = Tryd.f6 := (Option.some.inj (Tryd.func6.symm.trans hfn)).symm
  refine ⟨by kernel_rfl, fun j t ht => ?_⟩
  rw [Tryd.params6] at ht
  have hm := Array.mem_of_getElem? ht
  simp only [List.mem_toArray, List.mem_cons, List.not_mem_nil, or_false] at hm
  rcases hm with rfl | rfl
  · exact (show Tryd.prog.wantsStandIn 22 = false by kernel_rfl)
  · exact (show Tryd.prog.wantsStandIn 3 = false by kernel_rfl)

theorem card : Rows.BcsevenTurnsCardSaid :=
  Claim7.holds_tied_plain_at .later [] _ _ _ _ said (fun _ h => by cases h) (by kernel_rfl) (fun _ h => by cases h) bcsevenTurns_row_tie rfl ⟨rfl, rfl⟩ (by kernel_rfl) rfl plain (by kernel_rfl)
end Go.Proofs.YtpmkofceieiipaaDoor.bcsevenTurns

namespace Go.Proofs.YtpmkofceieiipaaDoor
theorem bcsevenTurns_holds : Rows.BcsevenTurnsCardSaid := bcsevenTurns.card
#print axioms bcsevenTurns_holds
end Go.Proofs.YtpmkofceieiipaaDoor
