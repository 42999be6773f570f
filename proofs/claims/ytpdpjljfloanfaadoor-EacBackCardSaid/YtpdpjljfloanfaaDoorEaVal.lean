/- Values of blocks of one number for each texel: the program's, the document's. -/
import Derived.Test.YtpdpjljfloanfaaDoorEaPlain
import Derived.Test.YtpdpjljfloanfaaDoorLvWide
set_option linter.all false
namespace Go.Proofs.YtpdpjljfloanfaaDoor
open Go.RowKit
open Bi Lv Bc Ea

set_option maxHeartbeats 2000000 in
theorem value_any (b t n : Int) (wide : Bool) (w : World) (hb : -1048576 ≤ b ∧ b ≤ 1048576) (ht : 0 ≤ t ∧ t ≤ 15) (hn : -15 ≤ n ∧ n ≤ 15) :
    Calls Tryd.prog 17 #[.int .i64 b, .int .i64 t, .int .i64 n, .bool wide] w fun e w' => e = .returned (.int .i64 (valE b t n wide)) ∧ w = w' := by
  have hm : -225 ≤ n * t ∧ n * t ≤ 225 := by
    constructor
    · have := Int.mul_le_mul_of_nonneg_right hn.1 ht.1
      omega
    · have := Int.mul_le_mul_of_nonneg_right hn.2 ht.1
      omega
  have hm8 : n * (8 * t) = 8 * (n * t) := by rw [Int.mul_left_comm]
  obtain ⟨p, hp⟩ : ∃ p, n * t = p := ⟨_, rfl⟩
  have hC := Lib.hid (fun z m u => clamp_any z m u)
  cases wide
  · have hv : valE b t n false = clampV (b + p) 255 := by unfold valE; rw [if_neg (by decide), hp]
    have hw1 : wrap64 (n * t) = p := by rw [hp]; exact wrap64_small _ (by omega) (by omega)
    have hw2 : wrap64 (b + p) = b + p := wrap64_small _ (by omega) (by omega)
    rw [hv]
    clear hv hm8
    rw [hp] at hm
    clear hp
    go_enter Tryd.func17, Tryd.ntmps17
    go_wp2_with (go_at_call 28; refine (hC.out _ _ _).mono ?_; rintro e w1 ⟨rfl, rfl⟩)
    go_ret
    exact ⟨rfl, rfl⟩
  · by_cases h0 : t = 0
    · have hv : valE b t n true = clampV (8 * b + 4 + n) 2047 := by unfold valE; rw [if_pos rfl, if_pos h0, Int.mul_one]
      rw [hv]
      clear hv hm8 hm hp
      subst h0
      go_enter Tryd.func17, Tryd.ntmps17
      go_wp2_with (go_at_call 28; refine (hC.out _ _ _).mono ?_; rintro e w1 ⟨rfl, rfl⟩)
      go_ret
      exact ⟨rfl, rfl⟩
    · have hv : valE b t n true = clampV (8 * b + 4 + 8 * p) 2047 := by unfold valE; rw [if_pos rfl, if_neg h0, hm8, hp]
      have hw1 : wrap64 (n * (8 * t)) = 8 * p := by rw [hm8, hp]; exact wrap64_small _ (by omega) (by omega)
      rw [hv]
      clear hv hm8
      rw [hp] at hm
      clear hp
      go_enter Tryd.func17, Tryd.ntmps17
      go_wp2_with (go_at_call 28; refine (hC.out _ _ _).mono ?_; rintro e w1 ⟨rfl, rfl⟩)
      go_ret
      exact ⟨rfl, rfl⟩
set_option maxHeartbeats 2000000 in
theorem rvalue_any (b t n : Int) (wide : Bool) (w : World) (hb : -1048576 ≤ b ∧ b ≤ 1048576) (ht : 0 ≤ t ∧ t ≤ 15) (hn : -15 ≤ n ∧ n ≤ 15) :
    Calls Tryd.prog 18 #[.int .i64 b, .int .i64 t, .int .i64 n, .bool wide] w fun e w' => e = .returned (.int .i64 (valE b t n wide)) ∧ w = w' := by
  have hm : -225 ≤ n * t ∧ n * t ≤ 225 := by
    constructor
    · have := Int.mul_le_mul_of_nonneg_right hn.1 ht.1
      omega
    · have := Int.mul_le_mul_of_nonneg_right hn.2 ht.1
      omega
  have hm8 : n * (8 * t) = 8 * (n * t) := by rw [Int.mul_left_comm]
  obtain ⟨p, hp⟩ : ∃ p, n * t = p := ⟨_, rfl⟩
  have hC := Lib.hid (fun z m u => rclamp_any z m u)
  cases wide
  · have hv : valE b t n false = clampV (b + p) 255 := by unfold valE; rw [if_neg (by decide), hp]
    have hw1 : wrap64 (n * t) = p := by rw [hp]; exact wrap64_small _ (by omega) (by omega)
    have hw2 : wrap64 (b + p) = b + p := wrap64_small _ (by omega) (by omega)
    rw [hv]
    clear hv hm8
    rw [hp] at hm
    clear hp
    go_enter Tryd.func18, Tryd.ntmps18
    go_wp2_with (go_at_call 29; refine (hC.out _ _ _).mono ?_; rintro e w1 ⟨rfl, rfl⟩)
    go_ret
    exact ⟨rfl, rfl⟩
  · by_cases h0 : t = 0
    · have hv : valE b t n true = clampV (8 * b + 4 + n) 2047 := by unfold valE; rw [if_pos rfl, if_pos h0, Int.mul_one]
      rw [hv]
      clear hv hm8 hm hp
      subst h0
      go_enter Tryd.func18, Tryd.ntmps18
      go_wp2_with (go_at_call 29; refine (hC.out _ _ _).mono ?_; rintro e w1 ⟨rfl, rfl⟩)
      go_ret
      exact ⟨rfl, rfl⟩
    · have hv : valE b t n true = clampV (8 * b + 4 + 8 * p) 2047 := by unfold valE; rw [if_pos rfl, if_neg h0, hm8, hp]
      have hw1 : wrap64 (n * (8 * t)) = 8 * p := by rw [hm8, hp]; exact wrap64_small _ (by omega) (by omega)
      rw [hv]
      clear hv hm8
      rw [hp] at hm
      clear hp
      go_enter Tryd.func18, Tryd.ntmps18
      go_wp2_with (go_at_call 29; refine (hC.out _ _ _).mono ?_; rintro e w1 ⟨rfl, rfl⟩)
      go_ret
      exact ⟨rfl, rfl⟩
end Go.Proofs.YtpdpjljfloanfaaDoor
