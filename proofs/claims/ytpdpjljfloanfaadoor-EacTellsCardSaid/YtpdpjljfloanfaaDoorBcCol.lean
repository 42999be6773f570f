/- The colour of a number, and the number of a colour: the program's and the reference's. -/
import Derived.Test.YtpdpjljfloanfaaDoorKnG
import Derived.Test.YtpdpjljfloanfaaDoorBcPlain
import Derived.Test.YtpdpjljfloanfaaDoorLvNear
import Derived.Test.YtpdpjljfloanfaaDoorLvRef
import Derived.Test.YtpdpjljfloanfaaDoorTile
import Derived.IntWalk
set_option linter.all false
namespace Go.Proofs.YtpdpjljfloanfaaDoor
open Go.RowKit
open Bi Lv Bc

theorem or_add (x b y : Nat) (h : y < 2 ^ b) : x * 2 ^ b ||| y = x * 2 ^ b + y := by
  rw [Nat.mul_comm]
  exact (Nat.two_pow_add_eq_or_of_lt h x).symm
/-- Three small numbers side by side. -/
theorem pk_or (x y z : Int) (hx : 0 ≤ x ∧ x < 32) (hy : 0 ≤ y ∧ y < 64) (hz : 0 ≤ z ∧ z < 32) :
    bits .or .i64 (bits .or .i64 (IntKind.i64.wrap (x * 2048)) (IntKind.i64.wrap (y * 32))) z = 2048 * x + 32 * y + z := by
  obtain ⟨a, rfl⟩ := Int.eq_ofNat_of_zero_le hx.1
  obtain ⟨b, rfl⟩ := Int.eq_ofNat_of_zero_le hy.1
  obtain ⟨c, rfl⟩ := Int.eq_ofNat_of_zero_le hz.1
  rw [IntWalk.i64_in ((a : Int) * 2048) (by omega), IntWalk.i64_in ((b : Int) * 32) (by omega)]
  rw [show (a : Int) * 2048 = ((a * 2 ^ 11 : Nat) : Int) from by simp, show (b : Int) * 32 = ((b * 2 ^ 5 : Nat) : Int) from by simp]
  have o1 : a * 2 ^ 11 ||| b * 2 ^ 5 = (a * 64 + b) * 2 ^ 5 := by
    rw [or_add a 11 (b * 2 ^ 5) (by omega)]; omega
  have o2 : (a * 64 + b) * 2 ^ 5 ||| c = (a * 64 + b) * 2 ^ 5 + c := or_add _ 5 c (by omega)
  rw [i64_or_nat _ _ (by omega) (by omega), o1, i64_or_nat _ _ (by omega) (by omega), o2]
  omega

end Go.Proofs.YtpdpjljfloanfaaDoor
