/- What the small functions of package bits answer: place, window, turn (with the library's Reverse64). -/
import Derived.Test.YtpdpjljfloanfaaDoorProg
import Derived.Test.YtpdpjljfloanfaaDoorBitPlain
import Derived.Test.YtpdpjljfloanfaaDoorBytes
import Derived.Test.YtpdpjljfloanfaaDoorRet
import Derived.Test.YtpdpjljfloanfaaDoorNum
set_option linter.all false
namespace Go.Proofs.YtpdpjljfloanfaaDoor
open Go.RowKit
open Bi


set_option maxHeartbeats 400000 in
theorem place_any (i : Nat) (hi : Bool) (w : World) (h : i < 8) :
    Calls Tryd.prog 45 #[.int .i64 (i : Int), .bool hi] w fun e w' => e = .returned (.int .i64 ((pl i hi : Nat) : Int)) ∧ w = w' := by
  cases hi
  · have hS := Lib.hid (show ((pl i false : Nat) : Int) = (i : Int) from by simp [pl])
    go_enter Tryd.func45, Tryd.ntmps45
    go_wp2
    go_ret
    exact ⟨ret_int hS.out.symm, rfl⟩
  · have hS := Lib.hid (show ((pl i true : Nat) : Int) = 7 - (i : Int) from by simp [pl]; omega)
    go_enter Tryd.func45, Tryd.ntmps45
    go_wp2
    go_ret
    exact ⟨ret_int hS.out.symm, rfl⟩

set_option maxHeartbeats 400000 in
theorem window_any (p m : Nat) (w : World) (hp : p ≤ 9223372036854775807) (hm : m ≤ 64) :
    Calls Tryd.prog 40 #[.int .i64 (p : Int), .int .i64 (m : Int)] w fun e w' => e = .returned (.tuple #[.int .i64 ((p / 8 : Nat) : Int), .int .i64 ((p % 8 : Nat) : Int), .int .i64 ((min 8 (p % 8 + m) : Nat) : Int)]) ∧ w = w' := by
  go_enter Tryd.func40, Tryd.ntmps40
  go_wp2
  all_goals
    go_ret3
    exact ⟨ret3_eq (by omega) (by omega) (by omega), rfl⟩

theorem step_u64 (x M s : Nat) (hx : x < 18446744073709551616) (hM : M < 18446744073709551616) (d : Int) (hd : d = ((2 ^ s : Nat) : Int)) :
    bits .or .u64 (bits .and .u64 ((x : Int) / d) (M : Int)) (IntKind.u64.wrap (bits .and .u64 (x : Int) (M : Int) * d)) = (((x / 2 ^ s &&& M) ||| (x &&& M) * 2 ^ s % 2 ^ 64 : Nat) : Int) := by
  subst hd
  have h1 : x / 2 ^ s < 18446744073709551616 := Nat.lt_of_le_of_lt (Nat.div_le_self _ _) hx
  have h2 : x &&& M < 18446744073709551616 := Nat.lt_of_le_of_lt Nat.and_le_left hx
  rw [← Int.natCast_ediv, u64_and_nat _ _ h1 hM, u64_and_nat _ _ hx hM, ← Int.natCast_mul, IntKind.wrap_u64]
  rw [show (((x &&& M) * 2 ^ s : Nat) : Int) % 18446744073709551616 = (((x &&& M) * 2 ^ s % 2 ^ 64 : Nat) : Int) from by simp]
  rw [u64_or_nat _ _ (Nat.lt_of_le_of_lt Nat.and_le_left h1) (Nat.mod_lt _ (by decide))]

theorem step6_u64 (x : Nat) (hx : x < 18446744073709551616) :
    bits .or .u64 ((x : Int) / 4294967296) (IntKind.u64.wrap ((x : Int) * 4294967296)) = ((s6 x : Nat) : Int) := by
  have h1 : x / 2 ^ 32 < 18446744073709551616 := Nat.lt_of_le_of_lt (Nat.div_le_self _ _) hx
  rw [show (x : Int) / 4294967296 = ((x / 2 ^ 32 : Nat) : Int) from by simp, IntKind.wrap_u64, show (x : Int) * 4294967296 % 18446744073709551616 = ((x * 2 ^ 32 % 2 ^ 64 : Nat) : Int) from by simp]
  rw [u64_or_nat _ _ h1 (Nat.mod_lt _ (by decide))]
  rfl

set_option maxHeartbeats 1000000 in
theorem revBytes_any (x : Nat) (w : World) (h : x < 18446744073709551616) :
    Calls Tryd.prog 44 #[.int .u64 (x : Int)] w fun e w' => e = .returned (.int .u64 ((s6 (s5 (s4 x)) : Nat) : Int)) ∧ w = w' := by
  have e4 := Lib.hid (step_u64 x 71777214294589695 8 h (by decide) 256 rfl)
  have l4 := Lib.hid (show s4 x < 18446744073709551616 from s_lt _ _ _ h)
  have e5 := Lib.hid (step_u64 (s4 x) 281470681808895 16 l4.out (by decide) 65536 rfl)
  have l5 := Lib.hid (show s5 (s4 x) < 18446744073709551616 from s_lt _ _ _ l4.out)
  have e6 := Lib.hid (step6_u64 (s5 (s4 x)) l5.out)
  go_enter Tryd.func44, Tryd.ntmps44
  go_wp2
  go_ret
  exact ⟨ret_int ((congrArg (fun z : Int => bits .or .u64 ((bits .or .u64 (bits .and .u64 (z / 65536) 281470681808895) (IntKind.u64.wrap (bits .and .u64 z 281470681808895 * 65536))) / 4294967296) (IntKind.u64.wrap ((bits .or .u64 (bits .and .u64 (z / 65536) 281470681808895) (IntKind.u64.wrap (bits .and .u64 z 281470681808895 * 65536))) * 4294967296))) e4.out).trans ((congrArg (fun z : Int => bits .or .u64 (z / 4294967296) (IntKind.u64.wrap (z * 4294967296))) e5.out).trans e6.out)), rfl⟩

set_option maxHeartbeats 1000000 in
theorem reverse_any (x : Nat) (w : World) (h : x < 18446744073709551616) :
    Calls Tryd.prog 39 #[.int .u64 (x : Int)] w fun e w' => e = .returned (.int .u64 ((rv x : Nat) : Int)) ∧ w = w' := by
  have e1 := Lib.hid (step_u64 x 6148914691236517205 1 h (by decide) 2 rfl)
  have l1 := Lib.hid (show s1 x < 18446744073709551616 from s_lt _ _ _ h)
  have e2 := Lib.hid (step_u64 (s1 x) 3689348814741910323 2 l1.out (by decide) 4 rfl)
  have l2 := Lib.hid (show s2 (s1 x) < 18446744073709551616 from s_lt _ _ _ l1.out)
  have e3 := Lib.hid (step_u64 (s2 (s1 x)) 1085102592571150095 4 l2.out (by decide) 16 rfl)
  have l3 := Lib.hid (show s3 (s2 (s1 x)) < 18446744073709551616 from s_lt _ _ _ l2.out)
  have hr := Lib.hid (rv_steps x h)
  go_enter Tryd.func39, Tryd.ntmps39
  go_wp2_with (go_at_call 44
               rw [show bits .or .u64 (bits .and .u64 ((x : Int) / 2) 6148914691236517205) (IntKind.u64.wrap (bits .and .u64 (x : Int) 6148914691236517205 * 2)) = ((s1 x : Nat) : Int) from e1.out,
                show bits .or .u64 (bits .and .u64 (((s1 x : Nat) : Int) / 4) 3689348814741910323) (IntKind.u64.wrap (bits .and .u64 ((s1 x : Nat) : Int) 3689348814741910323 * 4)) = ((s2 (s1 x) : Nat) : Int) from e2.out,
                show bits .or .u64 (bits .and .u64 (((s2 (s1 x) : Nat) : Int) / 16) 1085102592571150095) (IntKind.u64.wrap (bits .and .u64 ((s2 (s1 x) : Nat) : Int) 1085102592571150095 * 16)) = ((s3 (s2 (s1 x)) : Nat) : Int) from e3.out]
               refine (revBytes_any _ _ l3.out).mono ?_
               rintro e w' ⟨rfl, rfl⟩)
  go_ret
  exact ⟨ret_int (by rw [hr.out]), rfl⟩

theorem shr_u64 (x s : Nat) (hs : s ≤ 64) : ((x : Int) / 2 ^ min s 64) = ((x / 2 ^ s : Nat) : Int) := by
  rw [Nat.min_eq_left hs]
  simp

set_option maxHeartbeats 1000000 in
theorem turn_any (x m : Nat) (w : World) (h : x < 18446744073709551616) (hm : m ≤ 64) :
    Calls Tryd.prog 31 #[.int .u64 (x : Int), .int .i64 (m : Int)] w fun e w' => e = .returned (.int .u64 ((rv x / 2 ^ (64 - m) : Nat) : Int)) ∧ w = w' := by
  go_enter Tryd.func31, Tryd.ntmps31
  go_wp2_with (go_at_call 39; refine (reverse_any _ _ h).mono ?_; rintro e w' ⟨rfl, rfl⟩)
  go_ret
  exact ⟨ret_int (by simp), rfl⟩
end Go.Proofs.YtpdpjljfloanfaaDoor
