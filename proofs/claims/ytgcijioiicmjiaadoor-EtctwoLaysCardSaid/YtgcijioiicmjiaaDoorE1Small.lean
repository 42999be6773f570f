/- The small functions of blocks of two halves, the program's and the document's. -/
import Derived.Test.YtgcijioiicmjiaaDoorG7
import Derived.Test.YtgcijioiicmjiaaDoorG2
import Derived.Test.YtgcijioiicmjiaaDoorBitRset
set_option linter.all false
namespace Go.Proofs.YtgcijioiicmjiaaDoor
open Go.RowKit
open Bi Lv Eo

theorem mask_any (v : Int) (b : Nat) (hb : b ≤ 16) : bits .and .i64 v (wrap64 (wrap64 (2 ^ b) - 1)) = v % ((2 ^ b : Nat) : Int) := by
  have h1 : 2 ^ b ≤ 2 ^ 16 := Nat.pow_le_pow_right (by omega) hb
  have h0 : 0 < 2 ^ b := Nat.two_pow_pos b
  have e0 : (2 : Int) ^ b = ((2 ^ b : Nat) : Int) := by simp
  rw [e0, wrap64_small ((2 ^ b : Nat) : Int) (by omega) (by omega), wrap64_small _ (by omega) (by omega), show ((2 ^ b : Nat) : Int) - 1 = ((2 ^ b - 1 : Nat) : Int) from by omega]
  show IntKind.i64.wrap ((BitVec.ofInt 64 v &&& BitVec.ofInt 64 ((2 ^ b - 1 : Nat) : Int)).toNat : Int) = _
  rw [BitVec.toNat_and, ofInt_i64 _ (by omega), Nat.and_two_pow_sub_one_eq_mod, BitVec.toNat_ofInt]
  have h2 : (v % ((2 ^ 64 : Nat) : Int)).toNat % 2 ^ b = (v % ((2 ^ b : Nat) : Int)).toNat := by
    have hd : ((2 ^ b : Nat) : Int) ∣ ((2 ^ 64 : Nat) : Int) := Int.natCast_dvd_natCast.2 (Nat.pow_dvd_pow 2 (by omega))
    have := Int.emod_emod_of_dvd v hd
    apply Int.ofNat.inj
    show (((v % ((2 ^ 64 : Nat) : Int)).toNat % 2 ^ b : Nat) : Int) = ((v % ((2 ^ b : Nat) : Int)).toNat : Int)
    rw [Int.natCast_emod, Int.toNat_of_nonneg (Int.emod_nonneg _ (by decide)), Int.toNat_of_nonneg (Int.emod_nonneg _ (by omega)), this]
  rw [h2]
  have h4 := Int.emod_nonneg v (show ((2 ^ b : Nat) : Int) ≠ 0 by omega)
  have h3 : (v % ((2 ^ b : Nat) : Int)).toNat < 2 ^ b := by
    have := Int.emod_lt_of_pos v (show (0 : Int) < ((2 ^ b : Nat) : Int) by omega)
    omega
  rw [IntKind.wrap_i64]
  omega
theorem lowest_any (n : Int) (M : Int) (m : Nat) (hM : M = (m : Int)) (w : World) (hm : m ≤ 16) :
    Calls Tryd.prog 54 #[.int .i64 n, .int .i64 M] w fun e w' => e = .returned (.int .i64 (n % ((2 ^ m : Nat) : Int))) ∧ w = w' := by
  subst hM
  have h := Lib.hid (mask_any n m hm)
  go_enter Tryd.func54, Tryd.ntmps54
  go_wp2
  go_ret
  exact ⟨ret_int h.out, rfl⟩
theorem low_is {n : Int} {m : Nat} (h : 0 ≤ n ∧ n < ((2 ^ m : Nat) : Int)) : n % ((2 ^ m : Nat) : Int) = n := Int.emod_eq_of_lt h.1 h.2
theorem widths_any (d : Bool) (w : World) : Calls Tryd.prog 49 #[.bool d] w fun e w' => e = .returned (.tuple #[.int .i64 (w1 d : Int), .int .i64 (w2 d : Int)]) ∧ w = w' := by
  cases d
  all_goals
    go_enter Tryd.func49, Tryd.ntmps49
    go_wp2
    go_ret2
    exact ⟨rfl, rfl⟩
theorem signed_any (n : Int) (d : Bool) (w : World) (h0 : 0 ≤ n) (h1 : n < 16) : Calls Tryd.prog 50 #[.int .i64 n, .bool d] w fun e w' => e = .returned (.int .i64 (sg d n)) ∧ w = w' := by
  cases d
  · go_enter Tryd.func50, Tryd.ntmps50
    go_wp2
    go_ret
    exact ⟨ret_int (by unfold sg; rw [if_neg (by simp)]), rfl⟩
  · by_cases h4 : 4 ≤ n
    · go_enter Tryd.func50, Tryd.ntmps50
      go_wp2
      go_ret
      exact ⟨ret_int (by unfold sg; rw [if_pos ⟨rfl, h4⟩]; first | rfl | (rw [wrap64_small _ (by omega) (by omega)]; omega)), rfl⟩
    · go_enter Tryd.func50, Tryd.ntmps50
      go_wp2
      go_ret
      exact ⟨ret_int (by unfold sg; rw [if_neg fun k => absurd k.2 (by omega)]), rfl⟩
theorem spot_any (t : Int) (w : World) : Calls Tryd.prog 80 #[.int .i64 t] w fun e w' => e = .returned (.tuple #[.int .i64 (t % 16 % 4), .int .i64 (t % 16 / 4)]) ∧ w = w' := by
  have hL := Lib.hid (fun u => lowest_any t 4 4 rfl u (by omega))
  have hb : 0 ≤ t % 16 ∧ t % 16 < 16 := by omega
  rw [show ((2 ^ 4 : Nat) : Int) = 16 from rfl] at hL
  generalize t % 16 = x at *
  go_enter Tryd.func80, Tryd.ntmps80
  go_wp2_with (go_at_call 54; refine (hL.out _).mono ?_; rintro e w1 ⟨rfl, rfl⟩)
  go_ret2
  exact ⟨ret2_eq (by first | rfl | exact Int.tmod_eq_emod_of_nonneg hb.1 | (rw [Int.tmod_eq_emod_of_nonneg hb.1]; exact wrap64_small _ (by omega) (by omega))) (by first | rfl | exact Int.tdiv_eq_ediv_of_nonneg hb.1 | (rw [Int.tdiv_eq_ediv_of_nonneg hb.1]; exact wrap64_small _ (by omega) (by omega))), rfl⟩
theorem place10_any (i : Nat) (w : World) (hi : i < 16) : Calls Tryd.prog 51 #[.int .i64 (i : Int)] w fun e w' => e = .returned (.int .i64 ((pos i : Nat) : Int)) ∧ w = w' := by
  have hS := Lib.hid (fun u => spot_any (i : Int) u)
  have e1 : (i : Int) % 16 % 4 = ((i % 4 : Nat) : Int) := by omega
  have e2 : (i : Int) % 16 / 4 = ((i / 4 : Nat) : Int) := by omega
  rw [e1, e2] at hS
  have hp : pos i = 4 * (i % 4) + i / 4 := rfl
  have b1 : i % 4 < 4 := by omega
  have b2 : i / 4 < 4 := by omega
  rw [hp]
  clear hp e1 e2
  generalize i % 4 = a at *
  generalize i / 4 = b at *
  go_enter Tryd.func51, Tryd.ntmps51
  go_wp2_with (go_at_call 80; refine (hS.out _).mono ?_; rintro e w1 ⟨rfl, rfl⟩)
  go_ret
  exact ⟨ret_int (by first | rfl | (rw [wrap64_small _ (by omega) (by omega)]; omega) | (rw [wrap64_small _ (by rw [wrap64_small _ (by omega) (by omega)]; omega) (by rw [wrap64_small _ (by omega) (by omega)]; omega), wrap64_small _ (by omega) (by omega)]; omega) | omega), rfl⟩
theorem half_any (f : Bool) (t : Int) (w : World) : Calls Tryd.prog 76 #[.bool f, .int .i64 t] w fun e w' => e = .returned (.int .i64 (halfV f t)) ∧ w = w' := by
  have hS := Lib.hid (fun u => spot_any t u)
  have e1 : t % 16 / 8 = t % 16 / 4 / 2 := by omega
  unfold halfV
  rw [e1]
  have b1 : 0 ≤ t % 16 % 4 ∧ t % 16 % 4 < 4 := by omega
  have b2 : 0 ≤ t % 16 / 4 ∧ t % 16 / 4 < 4 := by omega
  clear e1
  generalize t % 16 % 4 = a at *
  generalize t % 16 / 4 = b at *
  cases f
  all_goals
    go_enter Tryd.func76, Tryd.ntmps76
    go_wp2_with (go_at_call 80; refine (hS.out _).mono ?_; rintro e w1 ⟨rfl, rfl⟩)
    go_ret
    refine ⟨ret_int ?_, rfl⟩
    (try simp only [if_true, Bool.false_eq_true, if_false]) <;> first | done | rfl | exact Int.tdiv_eq_ediv_of_nonneg (by omega) | (rw [Int.tdiv_eq_ediv_of_nonneg (by omega)]; exact wrap64_small _ (by omega) (by omega))
theorem within_any (n least : Int) (M : Int) (m : Nat) (hM : M = (m : Int)) (w : World) (h0 : -16 ≤ least) (h1 : least ≤ 16) (hm : m ≤ 16) :
    Calls Tryd.prog 52 #[.int .i64 n, .int .i64 least, .int .i64 M] w fun e w' => e = .returned (.bool (decide (least ≤ n ∧ n < least + ((2 ^ m : Nat) : Int)))) ∧ w = w' := by
  subst hM
  have hp : 2 ^ m ≤ 2 ^ 16 := Nat.pow_le_pow_right (by omega) hm
  have h0' : 0 < 2 ^ m := Nat.two_pow_pos m
  have e0 : (2 : Int) ^ m = ((2 ^ m : Nat) : Int) := by simp
  have hw := Lib.hid (show wrap64 (least + wrap64 (2 ^ m)) = least + ((2 ^ m : Nat) : Int) from by rw [e0, wrap64_small ((2 ^ m : Nat) : Int) (by omega) (by omega), wrap64_small _ (by omega) (by omega)])
  clear e0
  by_cases h : least ≤ n
  · go_enter Tryd.func52, Tryd.ntmps52
    go_wp2
    go_ret
    refine ⟨ret_bool ?_, rfl⟩
    rw [hw.out, decide_eq_decide]
    omega
  · go_enter Tryd.func52, Tryd.ntmps52
    go_wp2
    go_ret
    exact ⟨ret_bool (by first | (simp [h]; done) | (rw [eq_comm, decide_eq_false_iff_not]; omega) | (simp; intro; omega)), rfl⟩
theorem In_any (n lo hi : Int) (w : World) : Calls Tryd.prog 37 #[.int .i64 n, .int .i64 lo, .int .i64 hi] w fun e w' => e = .returned (.bool (decide (lo ≤ n ∧ n ≤ hi))) ∧ w = w' := by
  by_cases h : lo ≤ n
  · go_enter Tryd.func37, Tryd.ntmps37
    go_wp2
    go_ret
    exact ⟨ret_bool (by first | (simp [h]; done) | (rw [eq_comm, decide_eq_false_iff_not]; omega) | (simp; intro; omega)), rfl⟩
  · go_enter Tryd.func37, Tryd.ntmps37
    go_wp2
    go_ret
    exact ⟨ret_bool (by first | (simp [h]; done) | (rw [eq_comm, decide_eq_false_iff_not]; omega) | (simp; intro; omega)), rfl⟩
theorem top_any (A : Option Addr) (n c : Nat) (P M : Int) (p m : Nat) (hP : P = (p : Int)) (hM : M = (m : Int)) (xs : List Nat) (B : Nat) (w : World) (h : Bs w B A n xs) (hn : n ≤ 140737488355328) (hm : m ≤ 16) (hp : p + m ≤ 8 * n) :
    Calls Tryd.prog 27 #[.slice A n c, .int .i64 P, .int .i64 M] w fun e w' => e = .returned (.int .i64 (G xs p m)) ∧ w = w' := by
  subst hP hM
  have hg := Lib.hid (rget_any A n c (p : Int) (m : Int) true xs B w h hn)
  have hx : xs.length = n := h.1
  have hE : getE n (p : Int) (m : Int) = 0 := getE_zero (by omega) (by omega)
  rw [getV_ok hx hE, hE] at hg
  have hl := getN_lt' xs p m
  have h16 : 2 ^ m ≤ 2 ^ 16 := Nat.pow_le_pow_right (by omega) hm
  unfold G
  clear h hE hx
  generalize getN xs true p m = N at *
  go_enter Tryd.func27, Tryd.ntmps27
  go_wp2_with (go_at_call 60; refine hg.out.mono ?_; rintro e w1 ⟨rfl, rfl⟩)
  go_ret
  exact ⟨rfl, rfl⟩
end Go.Proofs.YtgcijioiicmjiaaDoor
