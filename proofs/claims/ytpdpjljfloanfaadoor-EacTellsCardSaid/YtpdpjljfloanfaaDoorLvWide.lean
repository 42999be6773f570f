/- What the small functions of package level answer, and the reference's: isWidth, square, far, mod, power, Small, Wide, Clamp, Mix. -/
import Derived.Test.YtpdpjljfloanfaaDoorProg
import Derived.Test.YtpdpjljfloanfaaDoorLvPlain
import Derived.Test.YtpdpjljfloanfaaDoorRet
import Derived.Test.YtpdpjljfloanfaaDoorNum
set_option linter.all false
namespace Go.Proofs.YtpdpjljfloanfaaDoor
open Go.RowKit
open Lv

theorem small_any (n : Int) (w : World) :
    Calls Tryd.prog 16 #[.int .i64 n] w fun e w' => e = .returned (.bool (decide (-1048576 ≤ n ∧ n ≤ 1048576))) ∧ w = w' := by
  by_cases h1 : -1048576 ≤ n <;> by_cases h2 : n ≤ 1048576
  all_goals
    go_enter Tryd.func16, Tryd.ntmps16
    go_wp2
    go_ret
    exact ⟨ret_bool (by simp [h1, h2]), rfl⟩

/-- A number that is small. -/
def sm (z : Int) : Prop := -1048576 ≤ z ∧ z ≤ 1048576
theorem mix_num (a b k o add : Int) (ha : sm a) (hb : sm b) (hk : sm k) (ho : sm o) (hd : sm add) :
    wrap64 (wrap64 (wrap64 (a * wrap64 (o - k)) + wrap64 (b * k)) + add) = a * (o - k) + b * k + add ∧ -8796093022208 ≤ a * (o - k) + b * k + add ∧ a * (o - k) + b * k + add ≤ 8796093022208 := by
  unfold sm at *
  have h1 := mul_bd a (o - k) 1048576 2097152 (by omega) (by omega) (by omega) (by omega)
  have h2 := mul_bd b k 1048576 1048576 (by omega) (by omega) (by omega) (by omega)
  rw [wrap64_small (o - k) (by omega) (by omega)]
  generalize a * (o - k) = p at *
  generalize b * k = q at *
  rw [wrap64_small p (by omega) (by omega), wrap64_small q (by omega) (by omega), wrap64_small (p + q) (by omega) (by omega), wrap64_small _ (by omega) (by omega)]
  omega

theorem and_mask (v : Int) (b : Nat) (hb : b ≤ 8) : bits .and .i64 v (wrap64 (wrap64 (2 ^ b) - 1)) = (((v % 2 ^ b).toNat : Nat) : Int) := by
  have h1 : 2 ^ b ≤ 2 ^ 8 := Nat.pow_le_pow_right (by omega) hb
  have h0 : 0 < 2 ^ b := Nat.two_pow_pos b
  have e0 : (2 : Int) ^ b = ((2 ^ b : Nat) : Int) := by simp
  rw [e0, wrap64_small ((2 ^ b : Nat) : Int) (by omega) (by omega), wrap64_small _ (by omega) (by omega), show ((2 ^ b : Nat) : Int) - 1 = ((2 ^ b - 1 : Nat) : Int) from by omega]
  show IntKind.i64.wrap ((BitVec.ofInt 64 v &&& BitVec.ofInt 64 ((2 ^ b - 1 : Nat) : Int)).toNat : Int) = _
  rw [BitVec.toNat_and, ofInt_i64 _ (by omega), Nat.and_two_pow_sub_one_eq_mod, BitVec.toNat_ofInt]
  have h2 : (v % ((2 ^ 64 : Nat) : Int)).toNat % 2 ^ b = (v % ((2 ^ b : Nat) : Int)).toNat := by
    have hd : ((2 ^ b : Nat) : Int) ∣ ((2 ^ 64 : Nat) : Int) := Int.natCast_dvd_natCast.2 (Nat.pow_dvd_pow 2 (by omega))
    have := Int.emod_emod_of_dvd v hd
    apply Int.ofNat.inj
    show (((v % ((2 ^ 64 : Nat) : Int)).toNat % 2 ^ b : Nat) : Int) = ((v % ((2 ^ b : Nat) : Int)).toNat : Int)
    rw [Int.natCast_emod, Int.toNat_of_nonneg (Int.emod_nonneg _ (by decide)), Int.toNat_of_nonneg (Int.emod_nonneg _ (by omega)), this]
  rw [h2]
  have h3 : (v % ((2 ^ b : Nat) : Int)).toNat < 2 ^ b := by
    have := Int.emod_lt_of_pos v (show (0 : Int) < ((2 ^ b : Nat) : Int) by omega)
    have := Int.emod_nonneg v (show ((2 ^ b : Nat) : Int) ≠ 0 by omega)
    omega
  rw [IntKind.wrap_i64]
  omega

theorem shl_or (x v b : Nat) (hb : b ≤ 8) (hv : v < 2 ^ b) (hx : x < 65536) : bits .or .i64 (wrap64 ((x : Int) * 2 ^ b)) (v : Int) = ((x * 2 ^ b + v : Nat) : Int) := by
  have h1 : 2 ^ b ≤ 2 ^ 8 := Nat.pow_le_pow_right (by omega) hb
  have h2 : x * 2 ^ b ≤ 65536 * 2 ^ 8 := Nat.mul_le_mul (by omega) h1
  rw [show (x : Int) * 2 ^ b = ((x * 2 ^ b : Nat) : Int) from by simp, wrap64_small _ (by omega) (by omega), i64_or_nat _ _ (by omega) (by omega)]
  congr 1
  rw [Nat.mul_comm, Nat.two_pow_add_eq_or_of_lt hv]

set_option maxHeartbeats 400000 in
theorem clamp_any (n most : Int) (w : World) :
    Calls Tryd.prog 28 #[.int .i64 n, .int .i64 most] w fun e w' => e = .returned (.int .i64 (clampV n most)) ∧ w = w' := by
  go_enter Tryd.func28, Tryd.ntmps28
  go_wp2
  all_goals
    go_ret
    exact ⟨ret_int (by unfold clampV; split at * <;> omega), rfl⟩
set_option maxHeartbeats 400000 in
theorem rclamp_any (n most : Int) (w : World) :
    Calls Tryd.prog 29 #[.int .i64 n, .int .i64 most] w fun e w' => e = .returned (.int .i64 (clampV n most)) ∧ w = w' := by
  by_cases h1 : n > most
  · by_cases h2 : most < 0
    all_goals
      go_enter Tryd.func29, Tryd.ntmps29
      go_wp2
      go_ret
      exact ⟨ret_int (by unfold clampV; omega), rfl⟩
  · by_cases h2 : n < 0
    all_goals
      go_enter Tryd.func29, Tryd.ntmps29
      go_wp2
      go_ret
      exact ⟨ret_int (by unfold clampV; omega), rfl⟩
end Go.Proofs.YtpdpjljfloanfaaDoor
