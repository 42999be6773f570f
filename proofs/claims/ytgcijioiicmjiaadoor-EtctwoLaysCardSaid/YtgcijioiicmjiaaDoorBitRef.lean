/- What the reference's power, bit, fits and Get answer: the same numbers as Low's and High's. -/
import Derived.Test.YtgcijioiicmjiaaDoorG4
set_option linter.all false
namespace Go.Proofs.YtgcijioiicmjiaaDoor
open Go.RowKit
open Bi

set_option maxHeartbeats 400000 in
theorem power_any (m : Nat) (w : World) (hm : m ≤ 63) :
    Calls Tryd.prog 88 #[.int .i64 (m : Int)] w fun e w' => e = .returned (.int .u64 ((2 ^ m : Nat) : Int)) ∧ w = w' := by
  go_enter Tryd.func88, Tryd.ntmps88
  go_wp2
  go_loop [3, 4] (fun t i => ∃ k : Nat, k ≤ m ∧ i = .int .i64 k ∧ t = .int .u64 ((2 ^ k : Nat) : Int)) (fun _ i => m - (intOf i).toNat)
  case atStart => exact ⟨0, Nat.zero_le _, rfl, rfl⟩
  case round =>
    obtain ⟨k, hk, rfl, rfl⟩ := hrel
    have h1 : 2 ^ k ≤ 2 ^ 63 := Nat.pow_le_pow_right (by omega) (by omega)
    obtain ⟨q, hq⟩ : ∃ q, q = 2 ^ k := ⟨_, rfl⟩
    rw [← hq] at h1 ⊢
    have HQ := Lib.hid hq
    clear hq
    by_cases hlt : k < m
    · have h2 : q ≤ 2 ^ 62 := by rw [HQ.out]; exact Nat.pow_le_pow_right (by omega) (by omega)
      go_wp2
      go_round
      case rel =>
        refine ⟨k + 1, by omega, by go_num, ?_⟩
        rw [Nat.pow_succ, ← HQ.out]
        go_num
      case measure => simp [intOf]; omega
    · obtain rfl : k = m := by omega
      go_wp2
      go_ret
      exact ⟨ret_int (by rw [HQ.out]; simp), rfl⟩

set_option maxHeartbeats 400000 in
theorem rbit_any (A : Option Addr) (n c i : Nat) (hi : Bool) (xs : List Nat) (B : Nat) (w : World) (h : Bs w B A n xs) (hn : n ≤ 140737488355328) (hl : i < 8 * n) :
    Calls Tryd.prog 87 #[.slice A n c, .int .i64 (i : Int), .bool hi] w fun e w' => e = .returned (.int .i64 (((bt xs hi i).toNat : Nat) : Int)) ∧ w = w' := by
  obtain ⟨b, off, rfl, hb, hc⟩ := h.2.2 (by omega)
  obtain ⟨q, hq⟩ : ∃ q, q = i / 8 := ⟨_, rfl⟩
  have hx8 := h.getD_lt q
  have hcx := hc q (by omega)
  have hbt := Lib.hid (show (bt xs hi i).toNat = xs.getD q 0 / 2 ^ pl (i % 8) hi % 2 from by rw [bit_div, hq]; rfl)
  clear hc h
  generalize xs.getD q 0 = x at *
  obtain ⟨k, hk⟩ : ∃ k, k = pl (i % 8) hi := ⟨_, rfl⟩
  have hk8 : k < 8 := by rw [hk]; exact pl_lt (by omega) hi
  rw [← hk] at hbt
  cases hi
  · have hk' : (i : Int) % 8 = (k : Int) := by simp [pl] at hk; omega
    have hq' : (i : Int) / 8 = (q : Int) := by omega
    clear hk hq
    go_enter Tryd.func87, Tryd.ntmps87
    go_wp2
    go_loop [8, 9] (fun t i => ∃ j : Nat, j ≤ k ∧ i = .int .i64 j ∧ t = .int .i64 ((x / 2 ^ j : Nat) : Int)) (fun _ i => k - (intOf i).toNat)
    case atStart => exact ⟨0, Nat.zero_le _, rfl, by go_num⟩
    case round =>
      obtain ⟨j, hj, rfl, rfl⟩ := hrel
      have h1 : x / 2 ^ j ≤ x := Nat.div_le_self _ _
      obtain ⟨r, hr⟩ : ∃ r, r = x / 2 ^ j := ⟨_, rfl⟩
      rw [← hr] at h1 ⊢
      have HR := Lib.hid hr
      clear hr
      by_cases hlt : j < k
      · go_wp2
        go_round
        case rel =>
          refine ⟨j + 1, by omega, by go_num, ?_⟩
          rw [Nat.pow_succ, ← Nat.div_div_eq_div_mul, ← HR.out]
          simp
        case measure => simp [intOf]; omega
      · obtain rfl : j = k := by omega
        go_wp2
        go_ret
        exact ⟨ret_int (by rw [hbt.out, ← HR.out]; simp), rfl⟩
  · have hk' : 7 - (i : Int) % 8 = (k : Int) := by simp [pl] at hk; omega
    have hq' : (i : Int) / 8 = (q : Int) := by omega
    clear hk hq
    go_enter Tryd.func87, Tryd.ntmps87
    go_wp2
    go_loop [8, 9] (fun t i => ∃ j : Nat, j ≤ k ∧ i = .int .i64 j ∧ t = .int .i64 ((x / 2 ^ j : Nat) : Int)) (fun _ i => k - (intOf i).toNat)
    case atStart => exact ⟨0, Nat.zero_le _, rfl, by go_num⟩
    case round =>
      obtain ⟨j, hj, rfl, rfl⟩ := hrel
      have h1 : x / 2 ^ j ≤ x := Nat.div_le_self _ _
      obtain ⟨r, hr⟩ : ∃ r, r = x / 2 ^ j := ⟨_, rfl⟩
      rw [← hr] at h1 ⊢
      have HR := Lib.hid hr
      clear hr
      by_cases hlt : j < k
      · go_wp2
        go_round
        case rel =>
          refine ⟨j + 1, by omega, by go_num, ?_⟩
          rw [Nat.pow_succ, ← Nat.div_div_eq_div_mul, ← HR.out]
          simp
        case measure => simp [intOf]; omega
      · obtain rfl : j = k := by omega
        go_wp2
        go_ret
        exact ⟨ret_int (by rw [hbt.out, ← HR.out]; simp), rfl⟩

set_option maxHeartbeats 400000 in
theorem fits_yes (A : Option Addr) (n c : Nat) (p m : Int) (w : World) (hn : n ≤ 140737488355328) (h0 : 0 ≤ p) (hm : 0 ≤ m) (h : m ≤ 8 * (n : Int) - p) :
    Calls Tryd.prog 86 #[.slice A n c, .int .i64 p, .int .i64 m] w fun e w' => e = .returned (.bool true) ∧ w = w' := by
  have hd : decide (m ≤ 8 * (n : Int) - p) = true := by simp; omega
  have hd' : decide (p ≤ 8 * (n : Int)) = true := by simp; omega
  go_enter Tryd.func86, Tryd.ntmps86
  go_wp2
  go_ret
  exact ⟨rfl, rfl⟩

set_option maxHeartbeats 400000 in
theorem fits_no (A : Option Addr) (n c : Nat) (p m : Int) (w : World) (hn : n ≤ 140737488355328) (h0 : 0 ≤ p) (hm : 0 ≤ m) (h : 8 * (n : Int) - p < m) :
    Calls Tryd.prog 86 #[.slice A n c, .int .i64 p, .int .i64 m] w fun e w' => e = .returned (.bool false) ∧ w = w' := by
  have hd : decide (m ≤ 8 * (n : Int) - p) = false := by simp; omega
  by_cases hp : p ≤ 8 * (n : Int)
  · have hd' : decide (p ≤ 8 * (n : Int)) = true := by simp; omega
    go_enter Tryd.func86, Tryd.ntmps86
    go_wp2
    go_ret
    exact ⟨rfl, rfl⟩
  · have hd' : decide (p ≤ 8 * (n : Int)) = false := by simp; omega
    go_enter Tryd.func86, Tryd.ntmps86
    go_wp2
    go_ret
    exact ⟨rfl, rfl⟩

theorem ret_gm {a b c d : Int} (h : a = c) (k : b = d) : Ending.returned (.tuple #[.int .u64 a, .int .i64 b]) = .returned (.tuple #[.int .u64 c, .int .i64 d]) := by rw [h, k]

set_option maxHeartbeats 400000 in
theorem rget_bad (A : Option Addr) (n c : Nat) (p m : Int) (hi : Bool) (w : World) (hn : n ≤ 140737488355328) (h : getE n p m ≠ 0) :
    Calls Tryd.prog 60 #[.slice A n c, .int .i64 p, .int .i64 m, .bool hi] w fun e w' => e = .returned (.tuple #[.int .u64 0, .int .i64 (getE n p m)]) ∧ w = w' := by
  by_cases h1 : p < 0
  · rw [getE_one (Or.inl h1)]
    clear h
    go_enter Tryd.func60, Tryd.ntmps60
    go_wp2
    go_ret2
    exact ⟨rfl, rfl⟩
  · by_cases h2 : m < 0
    · rw [getE_one (Or.inr (Or.inl h2))]
      clear h
      go_enter Tryd.func60, Tryd.ntmps60
      go_wp2
      go_ret2
      exact ⟨rfl, rfl⟩
    · by_cases h3 : 64 < m
      · rw [getE_one (Or.inr (Or.inr h3))]
        clear h
        go_enter Tryd.func60, Tryd.ntmps60
        go_wp2
        go_ret2
        exact ⟨rfl, rfl⟩
      · by_cases h4 : 8 * (n : Int) - p < m
        · rw [getE_two (by omega) h4]
          have H4 := Lib.hid h4
          clear h4 h
          go_enter Tryd.func60, Tryd.ntmps60
          go_wp2_with (go_at_call 86; refine (fits_no _ _ _ _ _ _ hn (by omega) (by omega) H4.out).mono ?_; rintro e w' ⟨rfl, rfl⟩)
          go_ret2
          exact ⟨rfl, rfl⟩
        · exact absurd (getE_zero (by omega) h4) h

theorem rbit_at (A : Option Addr) (n c : Nat) (I : Int) (i : Nat) (hI : I = (i : Int)) (hi : Bool) (xs : List Nat) (B : Nat) (w : World) (h : Bs w B A n xs) (hn : n ≤ 140737488355328) (hl : i < 8 * n) :
    Calls Tryd.prog 87 #[.slice A n c, .int .i64 I, .bool hi] w fun e w' => e = .returned (.int .i64 (((bt xs hi i).toNat : Nat) : Int)) ∧ w = w' := by
  subst hI
  exact rbit_any A n c i hi xs B w h hn hl

theorem getN_lt (xs : List Nat) (hi : Bool) (p m k : Nat) (h : m ≤ k) : getN xs hi p m < 2 ^ k := Nat.lt_of_lt_of_le (nm_lt _ m) (Nat.pow_le_pow_right (by omega) h)
theorem rd_lt' (xs : List Nat) (hi : Bool) (p m k : Nat) (h : m ≤ k) : rd xs hi p m < 2 ^ k := Nat.lt_of_lt_of_le (nm_lt _ m) (Nat.pow_le_pow_right (by omega) h)

set_option maxHeartbeats 1000000 in
theorem rget_low (A : Option Addr) (n c p m : Nat) (xs : List Nat) (B : Nat) (w : World) (h : Bs w B A n xs) (hn : n ≤ 140737488355328) (hm : m ≤ 64) (hp : p + m ≤ 8 * n) :
    Calls Tryd.prog 60 #[.slice A n c, .int .i64 (p : Int), .int .i64 (m : Int), .bool false] w fun e w' => e = .returned (.tuple #[.int .u64 ((getN xs false p m : Nat) : Int), .int .i64 0]) ∧ w = w' := by
  have H := Lib.hid h
  clear h
  have hR := Lib.hid (rd_low xs p m)
  go_enter Tryd.func60, Tryd.ntmps60
  go_wp2_with (go_at_call 86; refine (fits_yes _ _ _ _ _ _ hn (by omega) (by omega) (by omega)).mono ?_; rintro e w' ⟨rfl, rfl⟩)
  go_loop [10, 11] (fun t i => ∃ k : Nat, k ≤ m ∧ i = .int .i64 k ∧ t = .int .u64 ((rd xs false (p + m - k) k : Nat) : Int)) (fun _ i => m - (intOf i).toNat)
  case atStart => exact ⟨0, Nat.zero_le _, rfl, rfl⟩
  case round =>
    obtain ⟨k, hk, rfl, rfl⟩ := hrel
    have hst := fun hlt => Lib.hid (low_step xs p k m hlt)
    by_cases hlt : k < m
    · have hS := hst hlt
      have hr : rd xs false (p + m - k) k < 2 ^ 63 := rd_lt' _ _ _ _ _ (by omega)
      clear hst
      obtain ⟨q, hq⟩ : ∃ q, q = rd xs false (p + m - k) k := ⟨_, rfl⟩
      rw [← hq] at hr hS ⊢
      clear hq
      go_wp2_with (go_at_call 87; refine (rbit_at A n c _ (p + m - 1 - k) (by omega) false xs B _ H.out hn (by omega)).mono ?_; rintro e w' ⟨rfl, rfl⟩; have hb2 := b_lt (bt xs false (p + m - 1 - k)))
      go_round
      case rel =>
        refine ⟨k + 1, by omega, by go_num, ?_⟩
        rw [← hS.out]
        go_num
      case measure => simp [intOf]; omega
    · obtain rfl : k = m := by omega
      go_wp2
      go_ret2
      exact ⟨ret_gm (by rw [hR.out]) rfl, rfl⟩

set_option maxHeartbeats 1000000 in
theorem rget_high (A : Option Addr) (n c p m : Nat) (xs : List Nat) (B : Nat) (w : World) (h : Bs w B A n xs) (hn : n ≤ 140737488355328) (hm : m ≤ 64) (hp : p + m ≤ 8 * n) :
    Calls Tryd.prog 60 #[.slice A n c, .int .i64 (p : Int), .int .i64 (m : Int), .bool true] w fun e w' => e = .returned (.tuple #[.int .u64 ((getN xs true p m : Nat) : Int), .int .i64 0]) ∧ w = w' := by
  have H := Lib.hid h
  clear h
  go_enter Tryd.func60, Tryd.ntmps60
  go_wp2_with (go_at_call 86; refine (fits_yes _ _ _ _ _ _ hn (by omega) (by omega) (by omega)).mono ?_; rintro e w' ⟨rfl, rfl⟩)
  go_loop [10, 11] (fun t i => ∃ k : Nat, k ≤ m ∧ i = .int .i64 k ∧ t = .int .u64 ((getN xs true p k : Nat) : Int)) (fun _ i => m - (intOf i).toNat)
  case atStart => exact ⟨0, Nat.zero_le _, rfl, rfl⟩
  case round =>
    obtain ⟨k, hk, rfl, rfl⟩ := hrel
    by_cases hlt : k < m
    · have hS := Lib.hid (high_step xs p k)
      have hr : getN xs true p k < 2 ^ 63 := getN_lt _ _ _ _ _ (by omega)
      obtain ⟨q, hq⟩ : ∃ q, q = getN xs true p k := ⟨_, rfl⟩
      rw [← hq] at hr hS ⊢
      clear hq
      go_wp2_with (go_at_call 87; refine (rbit_at A n c _ (p + k) (by omega) true xs B _ H.out hn (by omega)).mono ?_; rintro e w' ⟨rfl, rfl⟩; have hb2 := b_lt (bt xs true (p + k)))
      go_round
      case rel =>
        refine ⟨k + 1, by omega, by go_num, ?_⟩
        rw [← hS.out]
        go_num
      case measure => simp [intOf]; omega
    · obtain rfl : k = m := by omega
      go_wp2
      go_ret2
      exact ⟨rfl, rfl⟩

theorem rget_any (A : Option Addr) (n c : Nat) (p m : Int) (hi : Bool) (xs : List Nat) (B : Nat) (w : World) (h : Bs w B A n xs) (hn : n ≤ 140737488355328) :
    Calls Tryd.prog 60 #[.slice A n c, .int .i64 p, .int .i64 m, .bool hi] w fun e w' => e = .returned (.tuple #[.int .u64 (getV xs hi p m), .int .i64 (getE n p m)]) ∧ w = w' := by
  by_cases hE : getE n p m = 0
  · obtain ⟨q1, q2, q3, q4⟩ := getE_ok hE
    obtain ⟨p', rfl⟩ := Int.eq_ofNat_of_zero_le q1
    obtain ⟨m', rfl⟩ := Int.eq_ofNat_of_zero_le q2
    rw [hE, getV_ok h.1 hE]
    cases hi
    · exact rget_low A n c p' m' xs B w h hn (by omega) (by omega)
    · exact rget_high A n c p' m' xs B w h hn (by omega) (by omega)
  · rw [getV_bad h.1 hE]
    exact rget_bad A n c p m hi w hn hE
end Go.Proofs.YtgcijioiicmjiaaDoor
