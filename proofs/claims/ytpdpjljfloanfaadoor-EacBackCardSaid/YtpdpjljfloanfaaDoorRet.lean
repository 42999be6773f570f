/- Endings that are the same: their numbers are. -/
import Derived.WalkKit
set_option linter.all false
namespace Go.Proofs.YtpdpjljfloanfaaDoor
theorem ret_int {k : IntKind} {a b : Int} (h : a = b) : Ending.returned (.int k a) = .returned (.int k b) := by rw [h]
theorem ret_bool {a b : Bool} (h : a = b) : Ending.returned (.bool a) = .returned (.bool b) := by rw [h]
theorem ret2_eq {a b c d : Int} (h : a = c) (k : b = d) : Ending.returned (.tuple #[.int .i64 a, .int .i64 b]) = .returned (.tuple #[.int .i64 c, .int .i64 d]) := by rw [h, k]
theorem ret3_eq {a b c a' b' c' : Int} (h : a = a') (k : b = b') (l : c = c') : Ending.returned (.tuple #[.int .i64 a, .int .i64 b, .int .i64 c]) = .returned (.tuple #[.int .i64 a', .int .i64 b', .int .i64 c']) := by rw [h, k, l]
theorem ret_slice {A A' : Option Addr} {n n' c c' : Nat} (h : A = A') (k : n = n') (l : c = c') : Ending.returned (.slice A n c) = .returned (.slice A' n' c') := by rw [h, k, l]
end Go.Proofs.YtpdpjljfloanfaaDoor
