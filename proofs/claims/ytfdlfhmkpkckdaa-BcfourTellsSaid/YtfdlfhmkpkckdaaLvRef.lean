/- What the reference's Wide and Near answer: the same numbers. -/
import Derived.Test.YtfdlfhmkpkckdaaLvWide
namespace Go.Proofs.Ytfdlfhmkpkckdaa
open Go.RowKit
open Lv

theorem power_at (P : Int) (m : Nat) (w : World) (hP : P = m) (hm : m ≤ 61) :
    Calls Try.prog 39 #[.int .i64 P] w fun e w' => e = .returned (.int .i64 ((2 ^ m : Nat) : Int)) ∧ w = w' := by
  subst hP
  exact lpower_any m w hm

set_option maxHeartbeats 400000 in
theorem rwide_no (v bits : Int) (w : World) (hb : ¬ (1 ≤ bits ∧ bits ≤ 8)) :
    Calls Try.prog 24 #[.int .i64 v, .int .i64 bits] w fun e w' => e = .returned (.int .i64 (wideV v bits)) ∧ w = w' := by
  rw [wideV_no hb]
  by_cases h1 : bits < 1
  · go_enter Try.func24, Try.ntmps24
    go_wp2
    go_ret
    exact ⟨rfl, rfl⟩
  · have h2 : bits > 8 := by omega
    go_enter Try.func24, Try.ntmps24
    go_wp2
    go_ret
    exact ⟨rfl, rfl⟩

set_option maxHeartbeats 1000000 in
theorem rwide_ok (v : Int) (b : Nat) (w : World) (hb : 1 ≤ b) (hb8 : b ≤ 8) :
    Calls Try.prog 24 #[.int .i64 v, .int .i64 b] w fun e w' => e = .returned (.int .i64 (wideV v b)) ∧ w = w' := by
  have hm := modp v b
  have hW := Lib.hid (show wideV v b = (rN b (v % 2 ^ b).toNat 8 : Int) from by rw [rN_wN _ _ hb hb8 hm.2, wideV, if_pos (by omega)]; simp)
  have hM := Lib.hid (show v % ((2 ^ b : Nat) : Int) = ((v % 2 ^ b).toNat : Int) from by rw [hm.1]; simp)
  have hp8 : 2 ^ b ≤ 2 ^ 8 := Nat.pow_le_pow_right (by omega) hb8
  have hx : (v % 2 ^ b).toNat < 256 := Nat.lt_of_lt_of_le hm.2 hp8
  have hp0 : 0 < 2 ^ b := Nat.two_pow_pos b
  clear hm
  generalize (v % 2 ^ b).toNat = x at *
  have hpw := Lib.hid (fun w => lpower_any b w (by omega))
  generalize 2 ^ b = M at *
  go_enter Try.func24, Try.ntmps24
  go_wp2_with (first
    | (go_at_call 39; refine (hpw.out _).mono ?_; rintro e w' ⟨rfl, rfl⟩)
    | (go_at_call 38; refine (rmod_any v M _ (by omega) (by omega)).mono ?_; rw [hM.out]; rintro e w' ⟨rfl, rfl⟩))
  clear hM hp8 hp0
  go_loop [5, 6] (fun t i => ∃ k : Nat, k ≤ 8 ∧ i = .int .i64 k ∧ t = .int .i64 (rN b x k : Int)) (fun _ i => 8 - (intOf i).toNat)
  case atStart => exact ⟨0, by omega, rfl, rfl⟩
  case round =>
    obtain ⟨k, hk, rfl, rfl⟩ := hrel
    have hr1 := rN_lt b x k
    have hr2 : 2 ^ k ≤ 2 ^ 8 := Nat.pow_le_pow_right (by omega) hk
    have hr : rN b x k < 256 := by omega
    clear hr1 hr2
    have hs := Lib.hid (show rN b x (k + 1) = 2 * rN b x k + x / 2 ^ (b - 1 - k % b) % 2 from rfl)
    have hkb : k % b < b := Nat.mod_lt _ (by omega)
    have hR := Lib.hid (show (b : Int) - 1 - (k : Int) % (b : Int) = ((b - 1 - k % b : Nat) : Int) from by rw [← Int.natCast_emod]; omega)
    have hr8 : b - 1 - k % b ≤ 61 := by omega
    have hF := Lib.hid (show rN b x 8 = rN b x 8 from rfl)
    by_cases hlt : k < 8
    · generalize rN b x k = t at *
      generalize b - 1 - k % b = r at *
      have hq0 := Nat.two_pow_pos r
      go_wp2_with (go_at_call 39; refine (power_at _ r _ hR.out hr8).mono ?_; generalize 2 ^ r = q at *; rintro e w' ⟨rfl, rfl⟩)
      go_round
      case rel =>
        refine ⟨k + 1, by omega, by go_num, ?_⟩
        rw [hs.out]
        have hy : x / q ≤ x := Nat.div_le_self _ _
        rw [← Int.natCast_ediv]
        generalize x / q = y at *
        rw [wrap64_small (y : Int) (by omega) (by omega), Int.tmod_eq_emod_of_nonneg (by omega), wrap64_small _ (by omega) (by omega)]
        simp
      case measure => simp [intOf]; omega
    · obtain rfl : k = 8 := by omega
      go_wp2
      go_ret
      exact ⟨ret_int hW.out.symm, rfl⟩
theorem rwide_any (v bits : Int) (w : World) :
    Calls Try.prog 24 #[.int .i64 v, .int .i64 bits] w fun e w' => e = .returned (.int .i64 (wideV v bits)) ∧ w = w' := by
  by_cases hb : 1 ≤ bits ∧ bits ≤ 8
  · obtain ⟨b, rfl⟩ := Int.eq_ofNat_of_zero_le (show 0 ≤ bits by omega)
    exact rwide_ok v b w (by omega) (by omega)
  · exact rwide_no v bits w hb

theorem nearV_no {n bits : Int} (h : ¬ (1 ≤ bits ∧ bits ≤ 8)) : nearV n bits = 0 := if_neg h
end Go.Proofs.Ytfdlfhmkpkckdaa
