/- Levels as plain functions: what a level is as one of 8 bits, which one is nearest, what stands between two, sums of squares. -/
import Derived.Lib.Hide
set_option linter.all false
namespace Go.Proofs.YtpdpjljfloanfaaDoor
namespace Lv

/-- The rounds of Wide: w of h bits, and the b bits of v behind it, until there are eight. -/
def wGo (b v : Nat) : Nat → Nat → Nat → Nat
  | 0, w, _ => w
  | f + 1, w, h => if h < 8 then wGo b v f (w * 2 ^ b + v) (h + b) else w / 2 ^ (h - 8)
def wN (b v : Nat) : Nat := wGo b v 9 v b
/-- The rounds of the reference: bit by bit. -/
def rN (b v : Nat) : Nat → Nat
  | 0 => 0
  | k + 1 => 2 * rN b v k + v / 2 ^ (b - 1 - k % b) % 2

theorem all8 (p : Nat → Nat → Bool) (h : ((List.range 8).all fun b => (List.range (2 ^ (b + 1))).all fun v => p (b + 1) v) = true) (b v : Nat) (hb : 1 ≤ b) (hb8 : b ≤ 8) (hv : v < 2 ^ b) : p b v = true := by
  rw [List.all_eq_true] at h
  have h1 := h (b - 1) (by simp; omega)
  rw [show b - 1 + 1 = b from by omega, List.all_eq_true] at h1
  exact h1 v (by simpa using hv)

theorem rN_wN (b v : Nat) (hb : 1 ≤ b) (hb8 : b ≤ 8) (hv : v < 2 ^ b) : rN b v 8 = wN b v := by
  have := all8 (fun b v => decide (rN b v 8 = wN b v)) (by decide +kernel) b v hb hb8 hv
  simpa using this
theorem wN_lt (b v : Nat) (hb : 1 ≤ b) (hb8 : b ≤ 8) (hv : v < 2 ^ b) : wN b v < 256 := by
  have := all8 (fun b v => decide (wN b v < 256)) (by decide +kernel) b v hb hb8 hv
  simpa using this
theorem wN_rise (b v : Nat) (hb : 1 ≤ b) (hb8 : b ≤ 8) (hv : v + 1 < 2 ^ b) : wN b v < wN b (v + 1) := by
  have := all8 (fun b v => decide (v + 1 < 2 ^ b → wN b v < wN b (v + 1))) (by decide +kernel) b v hb hb8 (by omega)
  exact of_decide_eq_true this hv
theorem wN_zero (b : Nat) (hb : 1 ≤ b) (hb8 : b ≤ 8) : wN b 0 = 0 := by
  have := all8 (fun b v => decide (wN b 0 = 0)) (by decide +kernel) b 0 hb hb8 (Nat.two_pow_pos b)
  exact of_decide_eq_true this
theorem wN_last (b : Nat) (hb : 1 ≤ b) (hb8 : b ≤ 8) : wN b (2 ^ b - 1) = 255 := by
  have := all8 (fun b v => decide (wN b (2 ^ b - 1) = 255)) (by decide +kernel) b 0 hb hb8 (Nat.two_pow_pos b)
  exact of_decide_eq_true this
theorem rN_lt (b v k : Nat) : rN b v k < 2 ^ k := by
  induction k with
  | zero => simp [rN]
  | succ k ih => rw [rN, Nat.pow_succ]; omega

/-- A level of some bits as one of 8. -/
def wideV (v bits : Int) : Int := if 1 ≤ bits ∧ bits ≤ 8 then (wN bits.toNat (v % 2 ^ bits.toNat).toNat : Int) else 0

theorem wideV_no {v bits : Int} (h : ¬ (1 ≤ bits ∧ bits ≤ 8)) : wideV v bits = 0 := if_neg h
theorem modp (v : Int) (b : Nat) : ((v % 2 ^ b).toNat : Int) = v % 2 ^ b ∧ (v % 2 ^ b).toNat < 2 ^ b := by
  have hp : (0 : Int) < 2 ^ b := Int.pow_pos (by omega)
  have h1 := Int.emod_nonneg v (Int.ne_of_gt hp)
  have h2 := Int.emod_lt_of_pos v hp
  refine ⟨Int.toNat_of_nonneg h1, ?_⟩
  have h3 : (((v % 2 ^ b).toNat : Nat) : Int) < ((2 ^ b : Nat) : Int) := by
    rw [Int.toNat_of_nonneg h1]; simpa using h2
  exact Int.ofNat_lt.1 h3
theorem wideV_bd (v bits : Int) : 0 ≤ wideV v bits ∧ wideV v bits < 256 := by
  unfold wideV
  split
  · rename_i h
    have := wN_lt bits.toNat (v % 2 ^ bits.toNat).toNat (by omega) (by omega) (modp v _).2
    omega
  · omega

/-- The first of k numbers with the least cost. -/
def argm (c : Nat → Int) : Nat → Nat
  | 0 => 0
  | k + 1 => if c k < c (argm c k) then k else argm c k

theorem argm_lt (c : Nat → Int) (k : Nat) (h : 0 < k) : argm c k < k := by
  induction k with
  | zero => omega
  | succ k ih =>
    rw [argm]
    split
    · omega
    · rcases Nat.eq_zero_or_pos k with rfl | hk
      · simp [argm]
      · have := ih hk; omega
theorem argm_le (c : Nat → Int) (k : Nat) : argm c k ≤ k := by
  rcases Nat.eq_zero_or_pos k with rfl | hk
  · simp [argm]
  · exact Nat.le_of_lt (argm_lt c k hk)
theorem argm_least (c : Nat → Int) (k i : Nat) (h : i < k) : c (argm c k) ≤ c i ∧ (i < argm c k → c (argm c k) < c i) := by
  induction k with
  | zero => omega
  | succ k ih =>
    rw [argm]
    split
    · rename_i hlt
      rcases Nat.lt_or_ge i k with h1 | h1
      · have := ih h1
        constructor
        · omega
        · intro _; omega
      · obtain rfl : i = k := by omega
        exact ⟨by omega, by omega⟩
    · rename_i hlt
      rcases Nat.lt_or_ge i k with h1 | h1
      · exact ih h1
      · obtain rfl : i = k := by omega
        have := argm_le c i
        constructor
        · omega
        · intro h2; omega
theorem argm_congr {c d : Nat → Int} (k : Nat) (h : ∀ i, i < k → c i = d i) : argm c k = argm d k := by
  induction k with
  | zero => rfl
  | succ k ih =>
    have e := ih fun i hi => h i (by omega)
    rcases Nat.eq_zero_or_pos k with rfl | hk
    · simp [argm]
    · rw [argm, argm, e, h k (by omega), h _ (Nat.lt_trans (argm_lt d k hk) (by omega))]

/-- The level that is nearest. -/
def nearC (n : Int) (b : Int) (v : Nat) : Int := (wideV v b - n) * (wideV v b - n)
def nearV (n bits : Int) : Int := if 1 ≤ bits ∧ bits ≤ 8 then (argm (nearC n bits) (2 ^ bits.toNat) : Int) else 0

def clampV (n most : Int) : Int := max 0 (min n most)
def mixV (a b k of_ add : Int) : Int := if of_ < 1 then 0 else (a * (of_ - k) + b * k + add) / of_

/-- How far a number is from all of some. -/
def sumV (x : Int) : List Int → Int
  | [] => 0
  | n :: l => (x - n) * (x - n) + sumV x l
theorem sumV_take (x : Int) (l : List Int) (k : Nat) (h : k < l.length) : sumV x (l.take (k + 1)) = sumV x (l.take k) + (x - l.getD k 0) * (x - l.getD k 0) := by
  induction l generalizing k with
  | nil => simp at h
  | cons n l ih =>
    cases k with
    | zero => simp [sumV]
    | succ k =>
      have := ih k (by simpa using h)
      simp only [List.take_succ_cons, sumV, List.getD_cons_succ, this]
      omega
def bestV (levels l : List Int) : Nat := argm (fun i => sumV (levels.getD i 0) l) levels.length

theorem sq_bd (z : Int) (h0 : -3000000 ≤ z) (h1 : z ≤ 3000000) : 0 ≤ z * z ∧ z * z ≤ 9000000000000 := by
  constructor
  · rcases Int.le_total 0 z with h | h
    · exact Int.mul_nonneg h h
    · exact Int.mul_nonneg_of_nonpos_of_nonpos h h
  · rcases Int.le_total 0 z with h | h
    · have := Int.mul_le_mul h1 h1 h (by omega : (0 : Int) ≤ 3000000)
      omega
    · have := Int.mul_le_mul (a := -z) (b := -z) (c := 3000000) (d := 3000000) (by omega) (by omega) (by omega) (by omega)
      rw [Int.neg_mul_neg] at this
      omega
theorem sumV_bd (x : Int) (l : List Int) (hx : -1048576 ≤ x ∧ x ≤ 1048576) (hl : ∀ z ∈ l, -1048576 ≤ z ∧ z ≤ 1048576) : 0 ≤ sumV x l ∧ sumV x l ≤ 9000000000000 * l.length := by
  induction l with
  | nil => simp [sumV]
  | cons n l ih =>
    have h1 := ih fun z hz => hl z (by simp [hz])
    have h2 := hl n (by simp)
    have h3 := sq_bd (x - n) (by omega) (by omega)
    simp only [sumV, List.length_cons]
    omega

theorem tmod_neg (n o : Int) (ho : 1 ≤ o) (h : n.tmod o < 0) : n.tmod o + o = n % o ∧ n.tdiv o - 1 = n / o := by
  rw [Int.tmod_eq_emod] at h ⊢
  rw [Int.tdiv_eq_ediv]
  have hs : o.sign = 1 := Int.sign_eq_one_of_pos (by omega)
  have := Int.emod_nonneg n (show o ≠ 0 by omega)
  split at h
  · omega
  · rename_i h0
    rw [if_neg h0, if_neg h0]
    omega
theorem tmod_pos (n o : Int) (ho : 1 ≤ o) (h : 0 ≤ n.tmod o) : n.tmod o = n % o ∧ n.tdiv o = n / o := by
  rw [Int.tmod_eq_emod] at h ⊢
  rw [Int.tdiv_eq_ediv]
  have := Int.emod_lt_of_pos n (show 0 < o by omega)
  split at h
  · rename_i h0
    rw [if_pos h0, if_pos h0]
    omega
  · omega
theorem ediv_bd (n o B : Int) (ho : 1 ≤ o) (h0 : -B ≤ n) (h1 : n ≤ B) (hB : 0 ≤ B) : -B ≤ n / o ∧ n / o ≤ B := by
  constructor
  · apply Int.le_ediv_of_mul_le (by omega)
    have := Int.mul_le_mul_of_nonneg_left ho hB
    rw [Int.neg_mul]
    omega
  · refine Int.le_of_lt_add_one (Int.ediv_lt_of_lt_mul (by omega) ?_)
    have := Int.mul_le_mul_of_nonneg_left ho (show 0 ≤ B + 1 by omega)
    omega
theorem floor_sub (n o : Int) (ho : 1 ≤ o) : (n - n % o).tdiv o = n / o := by
  rw [show n - n % o = o * (n / o) from by have := Int.mul_ediv_add_emod n o; omega]
  exact Int.mul_tdiv_cancel_left _ (by omega)
theorem mul_bd (x y : Int) (A B : Nat) (h0 : -A ≤ x) (h1 : x ≤ A) (h2 : -B ≤ y) (h3 : y ≤ B) : -((A * B : Nat) : Int) ≤ x * y ∧ x * y ≤ ((A * B : Nat) : Int) := by
  have h := Nat.mul_le_mul (show x.natAbs ≤ A by omega) (show y.natAbs ≤ B by omega)
  rw [← Int.natAbs_mul] at h
  omega
end Lv
end Go.Proofs.YtpdpjljfloanfaaDoor
