/- The small functions of package bcseven: widths, p-bits, the colour of an endpoint, what stands between two, a texel turned. -/
import Derived.Test.YtnoailihkjccbaaDoorB7Plain
import Derived.Test.YtnoailihkjccbaaDoorG6
import Derived.Test.YtnoailihkjccbaaDoorG3
set_option linter.all false
namespace Go.Proofs.YtnoailihkjccbaaDoor
open Go.RowKit
open Bi Lv Bt B7

namespace B7
def z8i : List Int := [0, 0, 0, 0, 0, 0, 0, 0]
end B7
instance : Aggr 33 8 := ⟨⟨_, Tryd.underlying33, rfl⟩, by kernel_rfl⟩
instance : Aggr 39 8 := ⟨⟨_, Tryd.underlying39, rfl⟩, by kernel_rfl⟩
instance : Aggr 78 24 := ⟨⟨_, Tryd.underlying78, rfl⟩, by kernel_rfl⟩
instance : Aggr 97 24 := ⟨⟨_, Tryd.underlying97, rfl⟩, by kernel_rfl⟩
instance : Aggr 26 64 := ⟨⟨_, Tryd.underlying26, rfl⟩, by kernel_rfl⟩
instance : ZeroV 39 (i64s z8i) := .of (by kernel_rfl)
instance : ZeroV 78 (i64s z24) := .of (by kernel_rfl)
instance : ZeroV 97 (i64s z24) := .of (by kernel_rfl)
instance : ZeroV 26 (i64s Bc.z64) := .of (by kernel_rfl)
instance : ZeroV 4 [.bool false] := .of (by kernel_rfl)

namespace B7
/-- A mode as the program holds it. -/
def wds (m : Md) : List Int := [(m.L : Int), (m.L : Int), (m.L : Int), (m.A : Int)]
theorem wds_get (m : Md) (c : Nat) (h : c < 4) : (wds m).getD c 0 = (wd m c : Int) := by
  obtain rfl | rfl | rfl | rfl : c = 0 ∨ c = 1 ∨ c = 2 ∨ c = 3 := by omega
  all_goals rfl
theorem or_bits (a b : Nat) (h : a + b ≤ 1) : bits .or .i64 (a : Int) (b : Int) = ((a + b : Nat) : Int) := by
  rw [i64_or_nat _ _ (by omega) (by omega)]
  congr 1
  obtain ⟨rfl, rfl⟩ | ⟨rfl, rfl⟩ | ⟨rfl, rfl⟩ : (a = 0 ∧ b = 0) ∨ (a = 0 ∧ b = 1) ∨ (a = 1 ∧ b = 0) := by omega
  all_goals rfl
theorem or_more (n x : Int) (e : Nat) (he : e ≤ 1) (hn : 0 ≤ n ∧ n < 256) (hx : 0 ≤ x ∧ x < 2 ^ e) : bits .or .i64 (wrap64 (n * 2 ^ e)) x = n * 2 ^ e + x := by
  obtain ⟨n, rfl⟩ := Int.eq_ofNat_of_zero_le hn.1
  obtain ⟨x, rfl⟩ := Int.eq_ofNat_of_zero_le hx.1
  have hx2 : x < 2 ^ e := by
    have := hx.2
    rw [show (2 : Int) ^ e = ((2 ^ e : Nat) : Int) from by simp] at this
    omega
  rw [shl_or n x e (by omega) hx2 (by omega)]
  simp
end B7

set_option maxHeartbeats 1000000 in
theorem widths_any (m : Md) (w : World) : Calls Tryd.prog 33 #[(.agg #[.int .i64 (m.P : Int), .int .i64 (m.W : Int), .int .i64 (m.T : Int), .int .i64 (m.C : Int), .int .i64 (m.L : Int), .int .i64 (m.A : Int), .int .i64 (m.E : Int), .int .i64 (m.O : Int), .int .i64 (m.F : Int), .int .i64 (m.S : Int)])] w fun e w' => e = .returned (arr (wds m)) ∧ Below w.heap.size w w' := by
  have E := Lib.hid (Kn.start w)
  have hBu := fun (u : World) => (run_build u _ _ _ (by kernel_rfl) : (Instr.build 24 #[(0, .int .i64 (m.L : Int)), (1, .int .i64 (m.L : Int)), (2, .int .i64 (m.L : Int)), (3, .int .i64 (m.A : Int))]).run Tryd.prog u = .ok (arr (wds m)) u)
  go_enter Tryd.func33, Tryd.ntmps33
  go_wp2_with (first | ((with_reducible refine kn_load E.out rfl rfl rfl rfl ?_)) | ((with_reducible refine kn_load_if E.out rfl rfl rfl rfl ?_)) | ((with_reducible refine kn_loads E.out rfl rfl rfl ?_ ?_); (focus (first | rfl | (simp only [i64s_length, u8s_length]; first | rfl | assumption | omega)))) | ((with_reducible refine kn_loads_if E.out rfl rfl rfl ?_ ?_); (focus (first | rfl | (simp only [i64s_length, u8s_length]; first | rfl | assumption | omega)))) | ((with_reducible refine kn_store1_int E.out rfl rfl rfl rfl rfl ?_); clear E; intro u E0; have E := Lib.hid E0; clear E0) | ((with_reducible refine kn_store1_slice E.out rfl rfl rfl rfl rfl ?_); clear E; intro u E0; have E := Lib.hid E0; clear E0) | ((with_reducible refine kn_store1_bool E.out rfl rfl rfl rfl rfl ?_); clear E; intro u E0; have E := Lib.hid E0; clear E0) | ((with_reducible refine kn_stores E.out rfl rfl rfl rfl rfl ?_ ?_ ?_); (focus (first | exact ⟨rfl, rfl⟩ | (simp only [i64s_length, u8s_length]; refine ⟨?_, ?_⟩ <;> first | rfl | assumption | omega))); (focus (first | exact i64s_one _ | exact u8s_one _ | simp [Value.oneCell'])); clear E; intro u E0; have E := Lib.hid E0; clear E0) | ((with_reducible refine kn_alloc (o := ⟨some 1, _, _, _, _, _⟩) E.out rfl rfl ?_); clear E; intro g1 u E0 hb0; have E := Lib.hid E0; clear E0 hb0) | ((with_reducible refine kn_box (o := ⟨some 1, _, _, _, _, _⟩) E.out rfl rfl rfl ?_); clear E; intro g1 u E0 hb0; have E := Lib.hid E0; clear E0 hb0) | ((with_reducible refine kn_box_int (o := ⟨some 1, _, _, _, _, _⟩) E.out rfl rfl rfl ?_); clear E; intro g1 u E0 hb0; have E := Lib.hid E0; clear E0 hb0) | ((with_reducible refine kn_box_slice (o := ⟨some 1, _, _, _, _, _⟩) E.out rfl rfl rfl ?_); clear E; intro g1 u E0 hb0; have E := Lib.hid E0; clear E0 hb0) | ((with_reducible refine kn_box_bool (o := ⟨some 1, _, _, _, _, _⟩) E.out rfl rfl rfl ?_); clear E; intro g1 u E0 hb0; have E := Lib.hid E0; clear E0 hb0) | ((with_reducible refine kn_box_func (o := ⟨some 1, _, _, _, _, _⟩) E.out rfl rfl rfl ?_); clear E; intro g1 u E0 hb0; have E := Lib.hid E0; clear E0 hb0) | ((with_reducible refine kn_alloc (o := ⟨some 2, _, _, _, _, _⟩) E.out rfl rfl ?_); clear E; intro g2 u E0 hb0; have E := Lib.hid E0; clear E0 hb0) | ((with_reducible refine kn_box (o := ⟨some 2, _, _, _, _, _⟩) E.out rfl rfl rfl ?_); clear E; intro g2 u E0 hb0; have E := Lib.hid E0; clear E0 hb0) | ((with_reducible refine kn_box_int (o := ⟨some 2, _, _, _, _, _⟩) E.out rfl rfl rfl ?_); clear E; intro g2 u E0 hb0; have E := Lib.hid E0; clear E0 hb0) | ((with_reducible refine kn_box_slice (o := ⟨some 2, _, _, _, _, _⟩) E.out rfl rfl rfl ?_); clear E; intro g2 u E0 hb0; have E := Lib.hid E0; clear E0 hb0) | ((with_reducible refine kn_box_bool (o := ⟨some 2, _, _, _, _, _⟩) E.out rfl rfl rfl ?_); clear E; intro g2 u E0 hb0; have E := Lib.hid E0; clear E0 hb0) | ((with_reducible refine kn_box_func (o := ⟨some 2, _, _, _, _, _⟩) E.out rfl rfl rfl ?_); clear E; intro g2 u E0 hb0; have E := Lib.hid E0; clear E0 hb0) | ((with_reducible refine kn_alloc E.out rfl rfl ?_); clear E; intro g u E0 hb0; have E := Lib.hid E0; clear E0 hb0) | ((with_reducible refine kn_box E.out rfl rfl rfl ?_); clear E; intro g u E0 hb0; have E := Lib.hid E0; clear E0 hb0) | ((with_reducible refine kn_box_int E.out rfl rfl rfl ?_); clear E; intro g u E0 hb0; have E := Lib.hid E0; clear E0 hb0) | ((with_reducible refine kn_box_slice E.out rfl rfl rfl ?_); clear E; intro g u E0 hb0; have E := Lib.hid E0; clear E0 hb0) | ((with_reducible refine kn_box_bool E.out rfl rfl rfl ?_); clear E; intro g u E0 hb0; have E := Lib.hid E0; clear E0 hb0) | ((with_reducible refine kn_box_func E.out rfl rfl rfl ?_); clear E; intro g u E0 hb0; have E := Lib.hid E0; clear E0 hb0))
  refine bodyPost_ret (results_kn E.out rfl _ rfl (by rfl)) rfl ?_
  exact ⟨rfl, E.out.bel⟩
set_option maxHeartbeats 1000000 in
theorem moreBits_any (m : Md) (h : m.E + m.O ≤ 1) (w : World) : Calls Tryd.prog 62 #[(.agg #[.int .i64 (m.P : Int), .int .i64 (m.W : Int), .int .i64 (m.T : Int), .int .i64 (m.C : Int), .int .i64 (m.L : Int), .int .i64 (m.A : Int), .int .i64 (m.E : Int), .int .i64 (m.O : Int), .int .i64 (m.F : Int), .int .i64 (m.S : Int)])] w fun e w' => e = .returned (.int .i64 (ex m : Int)) ∧ Below w.heap.size w w' := by
  have E := Lib.hid (Kn.start w)
  have hO := or_bits m.E m.O h
  go_enter Tryd.func62, Tryd.ntmps62
  go_wp2_with (first | ((with_reducible refine kn_load E.out rfl rfl rfl rfl ?_)) | ((with_reducible refine kn_load_if E.out rfl rfl rfl rfl ?_)) | ((with_reducible refine kn_loads E.out rfl rfl rfl ?_ ?_); (focus (first | rfl | (simp only [i64s_length, u8s_length]; first | rfl | assumption | omega)))) | ((with_reducible refine kn_loads_if E.out rfl rfl rfl ?_ ?_); (focus (first | rfl | (simp only [i64s_length, u8s_length]; first | rfl | assumption | omega)))) | ((with_reducible refine kn_store1_int E.out rfl rfl rfl rfl rfl ?_); clear E; intro u E0; have E := Lib.hid E0; clear E0) | ((with_reducible refine kn_store1_slice E.out rfl rfl rfl rfl rfl ?_); clear E; intro u E0; have E := Lib.hid E0; clear E0) | ((with_reducible refine kn_store1_bool E.out rfl rfl rfl rfl rfl ?_); clear E; intro u E0; have E := Lib.hid E0; clear E0) | ((with_reducible refine kn_stores E.out rfl rfl rfl rfl rfl ?_ ?_ ?_); (focus (first | exact ⟨rfl, rfl⟩ | (simp only [i64s_length, u8s_length]; refine ⟨?_, ?_⟩ <;> first | rfl | assumption | omega))); (focus (first | exact i64s_one _ | exact u8s_one _ | simp [Value.oneCell'])); clear E; intro u E0; have E := Lib.hid E0; clear E0) | ((with_reducible refine kn_alloc (o := ⟨some 1, _, _, _, _, _⟩) E.out rfl rfl ?_); clear E; intro g1 u E0 hb0; have E := Lib.hid E0; clear E0 hb0) | ((with_reducible refine kn_box (o := ⟨some 1, _, _, _, _, _⟩) E.out rfl rfl rfl ?_); clear E; intro g1 u E0 hb0; have E := Lib.hid E0; clear E0 hb0) | ((with_reducible refine kn_box_int (o := ⟨some 1, _, _, _, _, _⟩) E.out rfl rfl rfl ?_); clear E; intro g1 u E0 hb0; have E := Lib.hid E0; clear E0 hb0) | ((with_reducible refine kn_box_slice (o := ⟨some 1, _, _, _, _, _⟩) E.out rfl rfl rfl ?_); clear E; intro g1 u E0 hb0; have E := Lib.hid E0; clear E0 hb0) | ((with_reducible refine kn_box_bool (o := ⟨some 1, _, _, _, _, _⟩) E.out rfl rfl rfl ?_); clear E; intro g1 u E0 hb0; have E := Lib.hid E0; clear E0 hb0) | ((with_reducible refine kn_box_func (o := ⟨some 1, _, _, _, _, _⟩) E.out rfl rfl rfl ?_); clear E; intro g1 u E0 hb0; have E := Lib.hid E0; clear E0 hb0) | ((with_reducible refine kn_alloc E.out rfl rfl ?_); clear E; intro g u E0 hb0; have E := Lib.hid E0; clear E0 hb0) | ((with_reducible refine kn_box E.out rfl rfl rfl ?_); clear E; intro g u E0 hb0; have E := Lib.hid E0; clear E0 hb0) | ((with_reducible refine kn_box_int E.out rfl rfl rfl ?_); clear E; intro g u E0 hb0; have E := Lib.hid E0; clear E0 hb0) | ((with_reducible refine kn_box_slice E.out rfl rfl rfl ?_); clear E; intro g u E0 hb0; have E := Lib.hid E0; clear E0 hb0) | ((with_reducible refine kn_box_bool E.out rfl rfl rfl ?_); clear E; intro g u E0 hb0; have E := Lib.hid E0; clear E0 hb0) | ((with_reducible refine kn_box_func E.out rfl rfl rfl ?_); clear E; intro g u E0 hb0; have E := Lib.hid E0; clear E0 hb0))
  go_ret
  exact ⟨ret_int (by first | rfl | exact hO), E.out.bel⟩
set_option maxHeartbeats 1000000 in
theorem indexBits_any (n : Int) (b : Bool) (w : World) (h : 0 ≤ n ∧ n < 256) : Calls Tryd.prog 34 #[.int .i64 n, .bool b] w fun e w' => e = .returned (.int .i64 (n - (b1 b : Int))) ∧ w = w' := by
  cases b
  all_goals
    go_enter Tryd.func34, Tryd.ntmps34
    go_wp2
    go_ret
    exact ⟨ret_int (by simp [b1]), rfl⟩
end Go.Proofs.YtnoailihkjccbaaDoor
