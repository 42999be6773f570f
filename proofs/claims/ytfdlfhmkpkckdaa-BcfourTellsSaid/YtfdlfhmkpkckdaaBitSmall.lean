/- What the small functions of package bits answer: place, window, turn (with the library's Reverse64). -/
import Derived.Test.YtfdlfhmkpkckdaaProg
import Derived.Test.YtfdlfhmkpkckdaaBitPlain
import Derived.Test.YtfdlfhmkpkckdaaBytes
import Derived.Test.YtfdlfhmkpkckdaaRet
import Derived.Test.YtfdlfhmkpkckdaaNum
namespace Go.Proofs.Ytfdlfhmkpkckdaa
open Go.RowKit
open Bi


set_option maxHeartbeats 400000 in
theorem place_any (i : Nat) (hi : Bool) (w : World) (h : i < 8) :
    Calls Try.prog 52 #[.int .i64 (i : Int), .bool hi] w fun e w' => e = .returned (.int .i64 ((pl i hi : Nat) : Int)) ∧ w = w' := by
  cases hi
  · have hS := Lib.hid (show ((pl i false : Nat) : Int) = (i : Int) from by simp [pl])
    go_enter Try.func52, Try.ntmps52
    go_wp2
    go_ret
    exact ⟨ret_int hS.out.symm, rfl⟩
  · have hS := Lib.hid (show ((pl i true : Nat) : Int) = 7 - (i : Int) from by simp [pl]; omega)
    go_enter Try.func52, Try.ntmps52
    go_wp2
    go_ret
    exact ⟨ret_int hS.out.symm, rfl⟩

set_option maxHeartbeats 400000 in
theorem window_any (p m : Nat) (w : World) (hp : p ≤ 9223372036854775807) (hm : m ≤ 64) :
    Calls Try.prog 49 #[.int .i64 (p : Int), .int .i64 (m : Int)] w fun e w' => e = .returned (.tuple #[.int .i64 ((p / 8 : Nat) : Int), .int .i64 ((p % 8 : Nat) : Int), .int .i64 ((min 8 (p % 8 + m) : Nat) : Int)]) ∧ w = w' := by
  go_enter Try.func49, Try.ntmps49
  go_wp2
  all_goals
    go_ret3
    exact ⟨ret3_eq (by omega) (by omega) (by omega), rfl⟩

theorem step_u64 (x M s : Nat) (hx : x < 18446744073709551616) (hM : M < 18446744073709551616) (d : Int) (hd : d = ((2 ^ s : Nat) : Int)) :
    bits .or .u64 (bits .and .u64 ((x : Int) / d) (M : Int)) (IntKind.u64.wrap (bits .and .u64 (x : Int) (M : Int) * d)) = (((x / 2 ^ s &&& M) ||| (x &&& M) * 2 ^ s % 2 ^ 64 : Nat) : Int) := by
  subst hd
  have h1 : x / 2 ^ s < 18446744073709551616 := Nat.lt_of_le_of_lt (Nat.div_le_self _ _) hx
  have h2 : x &&& M < 18446744073709551616 := Nat.lt_of_le_of_lt Nat.and_le_left hx
  rw [← Int.natCast_ediv, u64_and_nat _ _ h1 hM, u64_and_nat _ _ hx hM, ← Int.natCast_mul, IntKind.wrap_u64]
  rw [show (((x &&& M) * 2 ^ s : Nat) : Int) % 18446744073709551616 = (((x &&& M) * 2 ^ s % 2 ^ 64 : Nat) : Int) from by simp]
  rw [u64_or_nat _ _ (Nat.lt_of_le_of_lt Nat.and_le_left h1) (Nat.mod_lt _ (by decide))]

theorem step6_u64 (x : Nat) (hx : x < 18446744073709551616) :
    bits .or .u64 ((x : Int) / 4294967296) (IntKind.u64.wrap ((x : Int) * 4294967296)) = ((s6 x : Nat) : Int) := by
  have h1 : x / 2 ^ 32 < 18446744073709551616 := Nat.lt_of_le_of_lt (Nat.div_le_self _ _) hx
  rw [show (x : Int) / 4294967296 = ((x / 2 ^ 32 : Nat) : Int) from by simp, IntKind.wrap_u64, show (x : Int) * 4294967296 % 18446744073709551616 = ((x * 2 ^ 32 % 2 ^ 64 : Nat) : Int) from by simp]
  rw [u64_or_nat _ _ h1 (Nat.mod_lt _ (by decide))]
  rfl

theorem shr_u64 (x s : Nat) (hs : s ≤ 64) : ((x : Int) / 2 ^ min s 64) = ((x / 2 ^ s : Nat) : Int) := by
  rw [Nat.min_eq_left hs]
  simp

end Go.Proofs.Ytfdlfhmkpkckdaa
