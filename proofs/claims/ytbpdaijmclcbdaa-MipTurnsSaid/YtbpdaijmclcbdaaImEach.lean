/- The texels of a tile, visited by a closure. -/
import Derived.Test.YtbpdaijmclcbdaaImSame
namespace Go.Proofs.Ytbpdaijmclcbdaa
open Go.RowKit
open Im

theorem mod4 (k : Nat) : IntKind.i64.wrap ((k : Int).tmod 4) = ((k % 4 : Nat) : Int) := by rw [Int.tmod_eq_emod_of_nonneg (by omega), IntKind.wrap_i64]; omega


set_option maxHeartbeats 400000 in
theorem each_gather (p1 p2 : Value) (x y : Int) (hx : 0 ≤ x) (hx2 : x ≤ 1024) (hy : 0 ≤ y) (hy2 : y ≤ 1024) (I : Nat → World → Prop) (w : World) (h0 : I 0 w)
    (hc : ∀ (k : Nat) (u : World), k < 16 → I k u → Calls Try.prog 38 #[.int .i64 (k : Int), .int .i64 (x * 4 + (k : Int) % 4), .int .i64 (y * 4 + (k : Int) / 4), p1, p2] u fun e u' => e = .returned (.tuple #[]) ∧ I (k + 1) u') :
    Calls Try.prog 37 #[.int .i64 x, .int .i64 y, .func (.func 38) #[] #[p1, p2]] w fun e w' => e = .returned (.tuple #[]) ∧ I 16 w' := by
  have HC := Lib.hid hc
  have H0 := Lib.hid h0
  clear hc h0
  go_enter Try.func37, Try.ntmps37
  go_wp2
  go_loopw [6, 7] (fun _ i wr => ∃ k : Nat, k ≤ 16 ∧ i = .int .i64 k ∧ Hid (I k wr)) (fun _ i _ => 16 - (intOf i).toNat)
  case atStart => exact ⟨0, by omega, rfl, H0⟩
  case round =>
    clear H0
    obtain ⟨k, hk, rfl, hI⟩ := hrel
    by_cases hlt : k < 16
    · have HK := Lib.hid (HC.out k wr hlt hI.out)
      go_wp2_with (go_at_call 38; refine HK.out.mono ?_; rintro e w' ⟨rfl, hI'⟩)
      go_roundw
      case rel => exact ⟨k + 1, by omega, by go_num, hI'⟩
      case measure => simp [intOf]; omega
    · obtain rfl : k = 16 := by omega
      go_wp2
      go_end0
      exact ⟨rfl, hI.out⟩

set_option maxHeartbeats 400000 in
theorem each_cover (p1 p2 : Value) (x y : Int) (hx : 0 ≤ x) (hx2 : x ≤ 1024) (hy : 0 ≤ y) (hy2 : y ≤ 1024) (I : Nat → World → Prop) (w : World) (h0 : I 0 w)
    (hc : ∀ (k : Nat) (u : World), k < 16 → I k u → Calls Try.prog 59 #[.int .i64 (k : Int), .int .i64 (x * 4 + (k : Int) % 4), .int .i64 (y * 4 + (k : Int) / 4), p1, p2] u fun e u' => e = .returned (.tuple #[]) ∧ I (k + 1) u') :
    Calls Try.prog 37 #[.int .i64 x, .int .i64 y, .func (.func 59) #[] #[p1, p2]] w fun e w' => e = .returned (.tuple #[]) ∧ I 16 w' := by
  have HC := Lib.hid hc
  have H0 := Lib.hid h0
  clear hc h0
  go_enter Try.func37, Try.ntmps37
  go_wp2
  go_loopw [6, 7] (fun _ i wr => ∃ k : Nat, k ≤ 16 ∧ i = .int .i64 k ∧ Hid (I k wr)) (fun _ i _ => 16 - (intOf i).toNat)
  case atStart => exact ⟨0, by omega, rfl, H0⟩
  case round =>
    clear H0
    obtain ⟨k, hk, rfl, hI⟩ := hrel
    by_cases hlt : k < 16
    · have HK := Lib.hid (HC.out k wr hlt hI.out)
      go_wp2_with (go_at_call 59; refine HK.out.mono ?_; rintro e w' ⟨rfl, hI'⟩)
      go_roundw
      case rel => exact ⟨k + 1, by omega, by go_num, hI'⟩
      case measure => simp [intOf]; omega
    · obtain rfl : k = 16 := by omega
      go_wp2
      go_end0
      exact ⟨rfl, hI.out⟩
end Go.Proofs.Ytbpdaijmclcbdaa
