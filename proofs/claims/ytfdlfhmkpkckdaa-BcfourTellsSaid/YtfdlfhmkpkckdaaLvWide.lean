/- What the small functions of package level answer, and the reference's: isWidth, square, far, mod, power, Small, Wide, Clamp, Mix. -/
import Derived.Test.YtfdlfhmkpkckdaaProg
import Derived.Test.YtfdlfhmkpkckdaaLvPlain
import Derived.Test.YtfdlfhmkpkckdaaRet
import Derived.Test.YtfdlfhmkpkckdaaNum
namespace Go.Proofs.Ytfdlfhmkpkckdaa
open Go.RowKit
open Lv

theorem isWidth_any (b : Int) (w : World) :
    Calls Try.prog 32 #[.int .i64 b] w fun e w' => e = .returned (.bool (decide (1 ≤ b ∧ b ≤ 8))) ∧ w = w' := by
  by_cases h1 : 1 ≤ b <;> by_cases h2 : b ≤ 8
  all_goals
    go_enter Try.func32, Try.ntmps32
    go_wp2
    go_ret
    exact ⟨ret_bool (by simp [h1, h2]), rfl⟩

theorem square_any (n : Int) (w : World) (h0 : -3000000 ≤ n) (h1 : n ≤ 3000000) :
    Calls Try.prog 35 #[.int .i64 n] w fun e w' => e = .returned (.int .i64 (n * n)) ∧ w = w' := by
  have hq := Lib.hid (sq_bd n h0 h1)
  go_enter Try.func35, Try.ntmps35
  go_wp2
  go_ret
  exact ⟨ret_int (by have := hq.out; rw [wrap64_small _ (by omega) (by omega)]), rfl⟩
theorem rmod_any (n o : Int) (w : World) (ho : 1 ≤ o) (h2 : o ≤ 9223372036854775807) :
    Calls Try.prog 38 #[.int .i64 n, .int .i64 o] w fun e w' => e = .returned (.int .i64 (n % o)) ∧ w = w' := by
  have hlo := Lib.hid (Int.emod_nonneg n (show o ≠ 0 by omega))
  have hhi := Lib.hid (Int.emod_lt_of_pos n (show 0 < o by omega))
  go_enter Try.func38, Try.ntmps38
  go_wp2
  · rename_i h
    go_ret
    have := (tmod_neg n o ho h).1
    have := hlo.out
    have := hhi.out
    exact ⟨ret_int (by rw [wrap64_small _ (by omega) (by omega)]; omega), rfl⟩
  · rename_i h
    go_ret
    exact ⟨ret_int (tmod_pos n o ho h).1, rfl⟩

/-- A number that is small. -/
def sm (z : Int) : Prop := -1048576 ≤ z ∧ z ≤ 1048576
theorem mix_num (a b k o add : Int) (ha : sm a) (hb : sm b) (hk : sm k) (ho : sm o) (hd : sm add) :
    wrap64 (wrap64 (wrap64 (a * wrap64 (o - k)) + wrap64 (b * k)) + add) = a * (o - k) + b * k + add ∧ -8796093022208 ≤ a * (o - k) + b * k + add ∧ a * (o - k) + b * k + add ≤ 8796093022208 := by
  unfold sm at *
  have h1 := mul_bd a (o - k) 1048576 2097152 (by omega) (by omega) (by omega) (by omega)
  have h2 := mul_bd b k 1048576 1048576 (by omega) (by omega) (by omega) (by omega)
  rw [wrap64_small (o - k) (by omega) (by omega)]
  generalize a * (o - k) = p at *
  generalize b * k = q at *
  rw [wrap64_small p (by omega) (by omega), wrap64_small q (by omega) (by omega), wrap64_small (p + q) (by omega) (by omega), wrap64_small _ (by omega) (by omega)]
  omega

set_option maxHeartbeats 400000 in
theorem mix_any (a b k o add : Int) (w : World) (ha : sm a) (hb : sm b) (hk : sm k) (ho : sm o) (hd : sm add) :
    Calls Try.prog 30 #[.int .i64 a, .int .i64 b, .int .i64 k, .int .i64 o, .int .i64 add] w fun e w' => e = .returned (.int .i64 (mixV a b k o add)) ∧ w = w' := by
  have hN := Lib.hid (mix_num a b k o add ha hb hk ho hd)
  clear ha hb hk ho hd
  by_cases h1 : o < 1
  · go_enter Try.func30, Try.ntmps30
    go_wp2
    go_ret
    exact ⟨ret_int (by rw [mixV, if_pos h1]), rfl⟩
  · go_enter Try.func30, Try.ntmps30
    go_wp2
    · rename_i h
      go_ret
      obtain ⟨e1, e2, e3⟩ := hN.out
      rw [e1] at h ⊢
      have hq := ediv_bd _ o 8796093022208 (by omega) e2 e3 (by omega)
      have ht := (tmod_neg _ o (by omega) h).2
      exact ⟨ret_int (by rw [mixV, if_neg (show ¬ o < 1 by omega), wrap64_small (Int.tdiv _ _) (by omega) (by omega), wrap64_small _ (by omega) (by omega)]; exact ht), rfl⟩
    · rename_i h
      go_ret
      obtain ⟨e1, e2, e3⟩ := hN.out
      rw [e1] at h ⊢
      have hq := ediv_bd _ o 8796093022208 (by omega) e2 e3 (by omega)
      have ht := (tmod_pos _ o (by omega) h).2
      exact ⟨ret_int (by rw [mixV, if_neg (show ¬ o < 1 by omega), wrap64_small (Int.tdiv _ _) (by omega) (by omega)]; exact ht), rfl⟩
set_option maxHeartbeats 400000 in
theorem rmix_any (a b k o add : Int) (w : World) (ha : sm a) (hb : sm b) (hk : sm k) (ho : sm o) (hd : sm add) :
    Calls Try.prog 31 #[.int .i64 a, .int .i64 b, .int .i64 k, .int .i64 o, .int .i64 add] w fun e w' => e = .returned (.int .i64 (mixV a b k o add)) ∧ w = w' := by
  have hN := Lib.hid (mix_num a b k o add ha hb hk ho hd)
  have ho3 : o ≤ 1048576 := ho.2
  have ho2 : o ≤ 9223372036854775807 := by omega
  clear ha hb hk ho hd
  by_cases h1 : o < 1
  · go_enter Try.func31, Try.ntmps31
    go_wp2
    go_ret
    exact ⟨ret_int (by rw [mixV, if_pos h1]), rfl⟩
  · have h3 : 1 ≤ o := by omega
    go_enter Try.func31, Try.ntmps31
    go_wp2_with (go_at_call 38; refine (rmod_any _ o _ h3 ho2).mono ?_; rw [hN.out.1]; rintro e w' ⟨rfl, rfl⟩)
    go_ret
    obtain ⟨e1, e2, e3⟩ := hN.out
    have hlo := Int.emod_nonneg (a * (o - k) + b * k + add) (show o ≠ 0 by omega)
    have hhi := Int.emod_lt_of_pos (a * (o - k) + b * k + add) (show 0 < o by omega)
    have hq := ediv_bd _ o 8796093022208 (by omega) e2 e3 (by omega)
    refine ⟨ret_int ?_, rfl⟩
    rw [mixV, if_neg (show ¬ o < 1 by omega), wrap64_small (_ - _) (by omega) (by omega), floor_sub _ _ h3, wrap64_small _ (by omega) (by omega)]
theorem and_mask (v : Int) (b : Nat) (hb : b ≤ 8) : bits .and .i64 v (wrap64 (wrap64 (2 ^ b) - 1)) = (((v % 2 ^ b).toNat : Nat) : Int) := by
  have h1 : 2 ^ b ≤ 2 ^ 8 := Nat.pow_le_pow_right (by omega) hb
  have h0 : 0 < 2 ^ b := Nat.two_pow_pos b
  have e0 : (2 : Int) ^ b = ((2 ^ b : Nat) : Int) := by simp
  rw [e0, wrap64_small ((2 ^ b : Nat) : Int) (by omega) (by omega), wrap64_small _ (by omega) (by omega), show ((2 ^ b : Nat) : Int) - 1 = ((2 ^ b - 1 : Nat) : Int) from by omega]
  show IntKind.i64.wrap ((BitVec.ofInt 64 v &&& BitVec.ofInt 64 ((2 ^ b - 1 : Nat) : Int)).toNat : Int) = _
  rw [BitVec.toNat_and, ofInt_i64 _ (by omega), Nat.and_two_pow_sub_one_eq_mod, BitVec.toNat_ofInt]
  have h2 : (v % ((2 ^ 64 : Nat) : Int)).toNat % 2 ^ b = (v % ((2 ^ b : Nat) : Int)).toNat := by
    have hd : ((2 ^ b : Nat) : Int) ∣ ((2 ^ 64 : Nat) : Int) := Int.natCast_dvd_natCast.2 (Nat.pow_dvd_pow 2 (by omega))
    have := Int.emod_emod_of_dvd v hd
    apply Int.ofNat.inj
    show (((v % ((2 ^ 64 : Nat) : Int)).toNat % 2 ^ b : Nat) : Int) = ((v % ((2 ^ b : Nat) : Int)).toNat : Int)
    rw [Int.natCast_emod, Int.toNat_of_nonneg (Int.emod_nonneg _ (by decide)), Int.toNat_of_nonneg (Int.emod_nonneg _ (by omega)), this]
  rw [h2]
  have h3 : (v % ((2 ^ b : Nat) : Int)).toNat < 2 ^ b := by
    have := Int.emod_lt_of_pos v (show (0 : Int) < ((2 ^ b : Nat) : Int) by omega)
    have := Int.emod_nonneg v (show ((2 ^ b : Nat) : Int) ≠ 0 by omega)
    omega
  rw [IntKind.wrap_i64]
  omega

theorem shl_or (x v b : Nat) (hb : b ≤ 8) (hv : v < 2 ^ b) (hx : x < 65536) : bits .or .i64 (wrap64 ((x : Int) * 2 ^ b)) (v : Int) = ((x * 2 ^ b + v : Nat) : Int) := by
  have h1 : 2 ^ b ≤ 2 ^ 8 := Nat.pow_le_pow_right (by omega) hb
  have h2 : x * 2 ^ b ≤ 65536 * 2 ^ 8 := Nat.mul_le_mul (by omega) h1
  rw [show (x : Int) * 2 ^ b = ((x * 2 ^ b : Nat) : Int) from by simp, wrap64_small _ (by omega) (by omega), i64_or_nat _ _ (by omega) (by omega)]
  congr 1
  rw [Nat.mul_comm, Nat.two_pow_add_eq_or_of_lt hv]

set_option maxHeartbeats 400000 in
theorem wide_no (v bits : Int) (w : World) (hb : ¬ (1 ≤ bits ∧ bits ≤ 8)) :
    Calls Try.prog 23 #[.int .i64 v, .int .i64 bits] w fun e w' => e = .returned (.int .i64 (wideV v bits)) ∧ w = w' := by
  rw [wideV_no hb]
  have hd := Lib.hid (show decide (1 ≤ bits ∧ bits ≤ 8) = false from by simpa using hb)
  clear hb
  go_enter Try.func23, Try.ntmps23
  go_wp2_with (go_at_call 32; refine (isWidth_any _ _).mono ?_; rw [hd.out]; rintro e w' ⟨rfl, rfl⟩)
  go_ret
  exact ⟨rfl, rfl⟩

set_option maxHeartbeats 1000000 in
theorem wide_ok (v : Int) (b : Nat) (w : World) (hb : 1 ≤ b) (hb8 : b ≤ 8) :
    Calls Try.prog 23 #[.int .i64 v, .int .i64 b] w fun e w' => e = .returned (.int .i64 (wideV v b)) ∧ w = w' := by
  have hW := Lib.hid (show wideV v b = (wN b (v % 2 ^ b).toNat : Int) from by rw [wideV, if_pos (by omega)]; simp)
  have hM := Lib.hid (and_mask v b hb8)
  have hx := Lib.hid (modp v b).2
  generalize (v % 2 ^ b).toNat = x at *
  have hp8 : 2 ^ b ≤ 2 ^ 8 := Nat.pow_le_pow_right (by omega) hb8
  go_enter Try.func23, Try.ntmps23
  go_wp2_with (go_at_call 32; refine (isWidth_any _ _).mono ?_; rw [show decide (1 ≤ (b : Int) ∧ (b : Int) ≤ 8) = true from by simp; omega]; rintro e w' ⟨rfl, rfl⟩)
  rw [hM.out]
  go_loop [5, 6] (fun t i => ∃ y h f : Nat, h < 16 ∧ i = .int .i64 h ∧ t = .int .i64 y ∧ Hid (y < 2 ^ h ∧ (1 ≤ f ∧ 8 < f + h) ∧ wGo b x f y h = wN b x)) (fun _ i => 16 - (intOf i).toNat)
  case atStart => exact ⟨x, b, 9, by omega, rfl, rfl, ⟨hx.out, by omega, rfl⟩⟩
  case round =>
    obtain ⟨y, h, f, hh, rfl, rfl, hI⟩ := hrel
    obtain ⟨i1, i2, i3⟩ := hI.out
    have hy : y < 65536 := Nat.lt_of_lt_of_le i1 (Nat.pow_le_pow_right (n := 2) (by omega) (show h ≤ 16 by omega))
    have hS := Lib.hid (shl_or y x b hb8 hx.out hy)
    have hN := Lib.hid (show y * 2 ^ b + x < 2 ^ (h + b) from by
      have h4 := hx.out
      rw [Nat.pow_add]
      have := Nat.mul_le_mul_right (2 ^ b) (show y + 1 ≤ 2 ^ h from i1)
      rw [Nat.add_mul] at this
      omega)
    clear i1 i2 i3
    by_cases hlt : h < 8
    · go_wp2
      go_round
      case rel =>
        obtain ⟨i1, i2, i3⟩ := hI.out
        obtain ⟨g, rfl⟩ : ∃ g, f = g + 1 := ⟨f - 1, by omega⟩
        refine ⟨y * 2 ^ b + x, h + b, g, by omega, by go_num, ?_, ⟨hN.out, by omega, ?_⟩⟩
        · rw [hS.out]
        · rw [wGo, if_pos hlt] at i3
          exact i3
      case measure => simp [intOf]; omega
    · go_wp2
      go_ret
      refine ⟨ret_int ?_, rfl⟩
      obtain ⟨i1, i2, i3⟩ := hI.out
      obtain ⟨g, rfl⟩ : ∃ g, f = g + 1 := ⟨f - 1, by omega⟩
      rw [wGo, if_neg hlt] at i3
      rw [hW.out, ← i3]
      simp
theorem wide_any (v bits : Int) (w : World) :
    Calls Try.prog 23 #[.int .i64 v, .int .i64 bits] w fun e w' => e = .returned (.int .i64 (wideV v bits)) ∧ w = w' := by
  by_cases hb : 1 ≤ bits ∧ bits ≤ 8
  · obtain ⟨b, rfl⟩ := Int.eq_ofNat_of_zero_le (show 0 ≤ bits by omega)
    exact wide_ok v b w (by omega) (by omega)
  · exact wide_no v bits w hb

set_option maxHeartbeats 400000 in
theorem lpower_any (m : Nat) (w : World) (hm : m ≤ 61) :
    Calls Try.prog 39 #[.int .i64 (m : Int)] w fun e w' => e = .returned (.int .i64 ((2 ^ m : Nat) : Int)) ∧ w = w' := by
  go_enter Try.func39, Try.ntmps39
  go_wp2
  go_loop [3, 4] (fun t i => ∃ k : Nat, k ≤ m ∧ i = .int .i64 k ∧ t = .int .i64 ((2 ^ k : Nat) : Int)) (fun _ i => m - (intOf i).toNat)
  case atStart => exact ⟨0, Nat.zero_le _, rfl, rfl⟩
  case round =>
    obtain ⟨k, hk, rfl, rfl⟩ := hrel
    have h1 : 2 ^ k ≤ 2 ^ 61 := Nat.pow_le_pow_right (by omega) (by omega)
    obtain ⟨q, hq⟩ : ∃ q, q = 2 ^ k := ⟨_, rfl⟩
    rw [← hq] at h1 ⊢
    have HQ := Lib.hid hq
    clear hq
    by_cases hlt : k < m
    · have h2 : q ≤ 2 ^ 61 := by rw [HQ.out]; exact Nat.pow_le_pow_right (by omega) (by omega)
      go_wp2
      go_round
      case rel =>
        refine ⟨k + 1, by omega, by go_num, ?_⟩
        rw [Nat.pow_succ, ← HQ.out]
        go_num
      case measure => simp [intOf]; omega
    · obtain rfl : k = m := by omega
      go_wp2
      go_ret
      exact ⟨ret_int (by rw [HQ.out]; simp), rfl⟩

end Go.Proofs.Ytfdlfhmkpkckdaa
