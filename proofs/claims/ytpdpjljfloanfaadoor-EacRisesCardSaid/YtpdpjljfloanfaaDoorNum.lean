/- Numbers as the walk writes them: an or, a shift to the left and one to the right of small numbers. -/
import Derived.Laws.BitsAllLaws
import Derived.Laws.BitsLemmas
import Derived.Laws.ShiftsVarLaws
import Derived.WalkKit
set_option linter.all false
namespace Go.Proofs.YtpdpjljfloanfaaDoor
open Go.RowKit

theorem ofInt_i64 (a : Nat) (ha : a < 9223372036854775808) : (BitVec.ofInt 64 (a : Int)).toNat = a := by
  rw [BitVec.ofInt_natCast, BitVec.toNat_ofNat]; exact Nat.mod_eq_of_lt (by omega)
theorem i64_or_nat (a b : Nat) (ha : a < 9223372036854775808) (hb : b < 9223372036854775808) : bits .or .i64 (a : Int) (b : Int) = ((a ||| b : Nat) : Int) := by
  have hx : a ||| b < 2 ^ 63 := Nat.or_lt_two_pow (by omega) (by omega)
  show IntKind.i64.wrap ((BitVec.ofInt 64 (a : Int) ||| BitVec.ofInt 64 (b : Int)).toNat : Int) = _
  rw [BitVec.toNat_or, ofInt_i64 a ha, ofInt_i64 b hb, IntKind.wrap_i64]
  omega

theorem wrap64_small (a : Int) (h0 : -9223372036854775808 ≤ a) (h1 : a ≤ 9223372036854775807) : wrap64 a = a := by
  unfold wrap64
  omega

theorem shl_small (y s : Nat) (hy : y < 256) (hs : s ≤ 24) : wrap64 (wrap64 (y : Int) * 2 ^ min s 64) = ((y * 2 ^ s : Nat) : Int) := by
  rw [wrap64_small (y : Int) (by omega) (by omega), Nat.min_eq_left (by omega)]
  have h1 : 2 ^ s ≤ 2 ^ 24 := Nat.pow_le_pow_right (by omega) hs
  have h2 : y * 2 ^ s ≤ 255 * 2 ^ 24 := Nat.mul_le_mul (by omega) h1
  have e : ((y : Int) * 2 ^ s) = ((y * 2 ^ s : Nat) : Int) := by simp
  rw [e]
  exact wrap64_small _ (by omega) (by omega)

theorem shl_lt (y s : Nat) (hy : y < 256) (hs : s ≤ 24) : y * 2 ^ s < 4294967296 := by
  have h1 : 2 ^ s ≤ 2 ^ 24 := Nat.pow_le_pow_right (by omega) hs
  have h2 : y * 2 ^ s ≤ 255 * 2 ^ 24 := Nat.mul_le_mul (by omega) h1
  omega
theorem shr_byte (N s : Nat) (hs : s ≤ 24) : ((N : Int) / 2 ^ min s 64 % 256) = ((N / 2 ^ s % 256 : Nat) : Int) := by
  rw [Nat.min_eq_left (by omega)]
  simp
end Go.Proofs.YtpdpjljfloanfaaDoor
