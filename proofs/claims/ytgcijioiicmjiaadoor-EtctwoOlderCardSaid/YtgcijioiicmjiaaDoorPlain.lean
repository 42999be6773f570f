/- Plain facts on the numbers that package field answers, without the program. -/
set_option linter.all false
namespace Go.Proofs.YtgcijioiicmjiaaDoor.Pl

/-- How far up byte i of m stands, in bits. -/
def sh (i m : Nat) (big : Bool) : Nat := if big then 8 * (m - 1 - i) else 8 * i

theorem sh_le (i m : Nat) (big : Bool) (h : i < m) (h4 : m ≤ 4) : sh i m big ≤ 24 := by
  unfold sh
  split <;> omega

/-- The error of Get: bytes of a slice of n, at p, m of them. -/
def getE (n : Nat) (p m : Int) : Int := if m < 1 ∨ 4 < m ∨ p < 0 then 1 else if (n : Int) - p < m then 2 else 0

/-- The error of Part. -/
def partE (n : Nat) (p m : Int) : Int := if p < 0 ∨ m < 0 then 1 else if (n : Int) - p < m then 2 else 0

def sumE (a b : Int) : Int := if a < 0 ∨ b < 0 then 1 else if 2147483647 - b < a then 10 else 0
def sumV (a b : Int) : Int := if a < 0 ∨ b < 0 then 0 else if 2147483647 - b < a then 0 else a + b
def timesE (a b : Int) : Int := if a < 0 ∨ b < 0 then 1 else if 2147483647 < a * b then 10 else 0
def timesV (a b : Int) : Int := if a < 0 ∨ b < 0 then 0 else if 2147483647 < a * b then 0 else a * b

theorem times_lt {a b : Int} (ha : 0 < a) (h0 : 0 ≤ b) : (2147483647 / a < b) ↔ (2147483647 < a * b) := by
  rw [Int.ediv_lt_iff_lt_mul ha, Int.mul_comm]

theorem times_lt' {a b : Int} (ha : 0 ≤ a) (h0 : 0 < b) : (2147483647 / b < a) ↔ (2147483647 < a * b) := by
  rw [Int.ediv_lt_iff_lt_mul h0]

theorem mul_nonneg' {a b : Int} (ha : 0 ≤ a) (h0 : 0 ≤ b) : 0 ≤ a * b := Int.mul_nonneg ha h0

def cut (xs : List Nat) (p m : Nat) : List Nat := (xs.drop p).take m
def num (zs : List Nat) : Nat := zs.foldl (fun n b => 256 * n + b) 0
def ord (big : Bool) (ys : List Nat) : List Nat := if big then ys else ys.reverse
/-- The number in m bytes at p. -/
def getN (xs : List Nat) (p m : Nat) (big : Bool) : Nat := num (ord big (cut xs p m))
def getV (xs : List Nat) (p m : Int) (big : Bool) : Int := if getE xs.length p m = 0 then (getN xs p.toNat m.toNat big : Int) else 0

def acc (ys : List Nat) (m : Nat) (big : Bool) : Nat → Nat
  | 0 => 0
  | k + 1 => acc ys m big k + ys.getD k 0 * 2 ^ (sh k m big)

theorem cut_length (xs : List Nat) (p m : Nat) (h : p + m ≤ xs.length) : (cut xs p m).length = m := by simp [cut]; omega
theorem cut_getD (xs : List Nat) (p m i : Nat) (h : i < m) : (cut xs p m).getD i 0 = xs.getD (p + i) 0 := by
  simp [cut, List.getElem?_take, h]

theorem getD_lt {xs : List Nat} (h : ∀ x ∈ xs, x < 256) (i : Nat) : xs.getD i 0 < 256 := by
  by_cases hi : i < xs.length
  · have := h (xs[i]) (List.getElem_mem hi)
    simpa [List.getElem?_eq_getElem hi] using this
  · simp [List.getElem?_eq_none (Nat.le_of_not_lt hi)]

theorem getE_ok {n : Nat} {p m : Int} (h : getE n p m = 0) : 1 ≤ m ∧ m ≤ 4 ∧ 0 ≤ p ∧ m ≤ (n : Int) - p := by
  unfold getE at h
  split at h
  · cases h
  · split at h
    · cases h
    · omega

/-- A low number beside one that stands above it. -/
theorem or_add (a b i : Nat) (h : b < 2 ^ i) : (a * 2 ^ i) ||| b = a * 2 ^ i + b := by
  rw [Nat.mul_comm, ← Nat.two_pow_add_eq_or_of_lt h]

theorem acc_low (ys : List Nat) (m : Nat) (h : ∀ i, ys.getD i 0 < 256) : ∀ k, acc ys m false k < 2 ^ (8 * k) := by
  intro k
  induction k with
  | zero => simp [acc]
  | succ k ih =>
    have e : (2 : Nat) ^ (8 * (k + 1)) = 256 * 2 ^ (8 * k) := by rw [Nat.mul_add, Nat.pow_add, Nat.mul_comm]
    have hb := h k
    have hm : ys.getD k 0 * 2 ^ (8 * k) ≤ 255 * 2 ^ (8 * k) := Nat.mul_le_mul_right _ (by omega)
    simp only [acc, sh]
    rw [e]
    simp only [Bool.false_eq_true, if_false]
    omega

theorem acc_high (ys : List Nat) (m : Nat) (h : ∀ i, ys.getD i 0 < 256) : ∀ k, k ≤ m → ∃ q, acc ys m true k = q * 2 ^ (8 * (m - k)) ∧ q < 2 ^ (8 * k) := by
  intro k
  induction k with
  | zero => intro _; exact ⟨0, by simp [acc], by simp⟩
  | succ k ih =>
    intro hk
    obtain ⟨q, hq, hl⟩ := ih (by omega)
    refine ⟨q * 256 + ys.getD k 0, ?_, ?_⟩
    · simp only [acc, sh, if_true]
      rw [hq, show m - 1 - k = m - (k + 1) from by omega, show 8 * (m - k) = 8 + 8 * (m - (k + 1)) from by omega, Nat.pow_add, Nat.add_mul, Nat.mul_assoc]
    · have e : (2 : Nat) ^ (8 * (k + 1)) = 2 ^ (8 * k) * 256 := by rw [Nat.mul_add, Nat.pow_add]
      have hb := h k
      have : (q + 1) * 256 ≤ 2 ^ (8 * k) * 256 := Nat.mul_le_mul_right _ hl
      rw [e]
      omega

theorem acc_or (ys : List Nat) (m : Nat) (big : Bool) (h : ∀ i, ys.getD i 0 < 256) (k : Nat) (hk : k < m) : acc ys m big k ||| (ys.getD k 0 * 2 ^ (sh k m big)) = acc ys m big (k + 1) := by
  cases big
  · rw [Nat.or_comm]
    simp only [acc, sh, Bool.false_eq_true, if_false]
    rw [or_add _ _ _ (acc_low ys m h k), Nat.add_comm]
  · obtain ⟨q, hq, _⟩ := acc_high ys m h k (by omega)
    simp only [acc, sh, if_true]
    rw [hq]
    refine or_add _ _ _ ?_
    have hb := h k
    rw [show 8 * (m - k) = 8 + 8 * (m - 1 - k) from by omega, Nat.pow_add]
    exact Nat.mul_lt_mul_of_pos_right hb (Nat.two_pow_pos _)

theorem acc_lt (ys : List Nat) (m : Nat) (big : Bool) (h : ∀ i, ys.getD i 0 < 256) (k : Nat) (hk : k ≤ m) (hm : m ≤ 4) : acc ys m big k < 4294967296 := by
  cases big
  · have := acc_low ys m h k
    have e : (2 : Nat) ^ (8 * k) ≤ 2 ^ 32 := Nat.pow_le_pow_right (by omega) (by omega)
    omega
  · obtain ⟨q, hq, hl⟩ := acc_high ys m h k hk
    rw [hq]
    have e : (2 : Nat) ^ (8 * k) * 2 ^ (8 * (m - k)) ≤ 2 ^ 32 := by
      rw [← Nat.pow_add]; exact Nat.pow_le_pow_right (by omega) (by omega)
    have : q * 2 ^ (8 * (m - k)) < 2 ^ (8 * k) * 2 ^ (8 * (m - k)) := Nat.mul_lt_mul_of_pos_right hl (Nat.two_pow_pos _)
    omega

theorem acc_num (ys : List Nat) (m : Nat) (big : Bool) (h1 : 1 ≤ m) (h4 : m ≤ 4) (hl : ys.length = m) : acc ys m big m = num (ord big ys) := by
  match m, ys, hl with
  | 1, [a], _ => cases big <;> simp [acc, num, ord, sh]
  | 2, [a, b], _ => cases big <;> simp [acc, num, ord, sh] <;> omega
  | 3, [a, b, c], _ => cases big <;> simp [acc, num, ord, sh] <;> omega
  | 4, [a, b, c, d], _ => cases big <;> simp [acc, num, ord, sh] <;> omega
  | 0, _, _ => omega
  | n + 5, _, _ => omega

theorem num_snoc (zs : List Nat) (b : Nat) : num (zs ++ [b]) = 256 * num zs + b := by simp [num]
theorem num_take (zs : List Nat) (k : Nat) (h : k < zs.length) : num (zs.take (k + 1)) = 256 * num (zs.take k) + zs.getD k 0 := by
  rw [List.take_succ_eq_append_getElem h, num_snoc]
  simp [List.getElem?_eq_getElem h]
theorem num_take_lt (zs : List Nat) (h : ∀ i, zs.getD i 0 < 256) : ∀ k, k ≤ zs.length → num (zs.take k) < 256 ^ k := by
  intro k
  induction k with
  | zero => intro _; simp [num]
  | succ k ih =>
    intro hk
    have h1 := ih (by omega)
    have h2 := h k
    rw [num_take zs k (by omega), Nat.pow_succ]
    omega
theorem ord_length (big : Bool) (ys : List Nat) : (ord big ys).length = ys.length := by unfold ord; split <;> simp
theorem ord_big (ys : List Nat) : ord true ys = ys := rfl
theorem ord_small_getD (ys : List Nat) (k : Nat) (h : k < ys.length) : (ord false ys).getD k 0 = ys.getD (ys.length - 1 - k) 0 := by
  simp [ord, List.getElem?_reverse h]
theorem ord_lt (big : Bool) (ys : List Nat) (h : ∀ x ∈ ys, x < 256) : ∀ i, (ord big ys).getD i 0 < 256 := by
  refine getD_lt fun x hx => h x ?_
  unfold ord at hx
  split at hx
  · exact hx
  · simpa using hx
theorem pow4 (k : Nat) (h : k ≤ 4) : 256 ^ k ≤ 4294967296 := Nat.pow_le_pow_right (n := 256) (by omega) h

/-- b with the number n in m bytes at p, the first k of them. -/
def putL (xs : List Nat) (p m : Nat) (big : Bool) (n : Nat) : Nat → List Nat
  | 0 => xs
  | k + 1 => (putL xs p m big n k).set (p + k) (n / 2 ^ (sh k m big) % 256)

theorem putL_length (xs : List Nat) (p m : Nat) (big : Bool) (n : Nat) : ∀ k, (putL xs p m big n k).length = xs.length := by
  intro k
  induction k with
  | zero => rfl
  | succ k ih => simp [putL, ih]

theorem putL_lt {xs : List Nat} (h : ∀ x ∈ xs, x < 256) (p m : Nat) (big : Bool) (n : Nat) : ∀ k, ∀ x ∈ putL xs p m big n k, x < 256 := by
  intro k
  induction k with
  | zero => exact h
  | succ k ih =>
    intro x hx
    rcases List.mem_or_eq_of_mem_set hx with h' | rfl
    · exact ih x h'
    · exact Nat.mod_lt _ (by omega)

/-- The error of Put. -/
def putE (l : Nat) (p m n : Int) : Int := if getE l p m ≠ 0 then getE l p m else if n < 0 ∨ 256 ^ m.toNat ≤ n then 10 else 0
/-- What Put answers. -/
def putV (xs : List Nat) (p m : Int) (big : Bool) (n : Int) : List Nat := if putE xs.length p m n = 0 then putL xs p.toNat m.toNat big n.toNat m.toNat else []

/-- Byte j of the number n in m bytes. -/
def dig (n m : Nat) (big : Bool) (j : Nat) : Nat := n / 2 ^ (sh j m big) % 256

theorem getD_set (xs : List Nat) (a b i : Nat) (ha : a < xs.length) : (xs.set a b).getD i 0 = if i = a then b else xs.getD i 0 := by
  simp only [List.getD_eq_getElem?_getD, List.getElem?_set]
  by_cases h : a = i
  · subst h; simp [ha]
  · rw [if_neg h, if_neg (fun e => h e.symm)]

theorem putL_getD (xs : List Nat) (p m : Nat) (big : Bool) (n : Nat) (h : p + m ≤ xs.length) : ∀ k, k ≤ m → ∀ i, (putL xs p m big n k).getD i 0 = if p ≤ i ∧ i < p + k then dig n m big (i - p) else xs.getD i 0 := by
  intro k
  induction k with
  | zero => intro _ i; rw [if_neg (by omega)]; rfl
  | succ k ih =>
    intro hk i
    rw [putL, getD_set _ _ _ _ (by rw [putL_length]; omega), ih (by omega)]
    by_cases e : i = p + k
    · subst e
      rw [if_pos rfl, if_pos (by omega), show p + k - p = k from by omega]
      rfl
    · rw [if_neg e]
      by_cases e2 : p ≤ i ∧ i < p + k
      · rw [if_pos e2, if_pos (by omega)]
      · rw [if_neg e2, if_neg (by omega)]

/-- The reference's way: from the lowest byte on. -/
def rputL (xs : List Nat) (p m : Nat) (big : Bool) (n : Nat) : Nat → List Nat
  | 0 => xs
  | k + 1 => (rputL xs p m big n k).set (if big then p + m - 1 - k else p + k) (n / 256 ^ k % 256)

theorem rputL_length (xs : List Nat) (p m : Nat) (big : Bool) (n : Nat) : ∀ k, (rputL xs p m big n k).length = xs.length := by
  intro k
  induction k with
  | zero => rfl
  | succ k ih => simp [rputL, ih]

theorem pow256 (k : Nat) : 256 ^ k = 2 ^ (8 * k) := by rw [Nat.pow_mul]

theorem rputL_getD (xs : List Nat) (p m : Nat) (big : Bool) (n : Nat) (h : p + m ≤ xs.length) : ∀ k, k ≤ m → ∀ i,
    (rputL xs p m big n k).getD i 0 = if (if big then p + m - k ≤ i ∧ i < p + m else p ≤ i ∧ i < p + k) then dig n m big (i - p) else xs.getD i 0 := by
  intro k
  induction k with
  | zero => intro _ i; cases big <;> (rw [if_neg (by simp <;> omega)]; rfl)
  | succ k ih =>
    intro hk i
    rw [rputL, getD_set _ _ _ _ (by rw [rputL_length]; cases big <;> simp <;> omega), ih (by omega)]
    cases big
    · simp only [Bool.false_eq_true, if_false]
      by_cases e : i = p + k
      · subst e
        rw [if_pos rfl, if_pos (by omega), show p + k - p = k from by omega, pow256]
        rfl
      · rw [if_neg e]
        by_cases e2 : p ≤ i ∧ i < p + k
        · rw [if_pos e2, if_pos (by omega)]
        · rw [if_neg e2, if_neg (by omega)]
    · simp only [if_true]
      by_cases e : i = p + m - 1 - k
      · subst e
        rw [if_pos rfl, if_pos (by omega), pow256]
        unfold dig sh
        rw [if_pos rfl, show m - 1 - (p + m - 1 - k - p) = k from by omega]
      · rw [if_neg e]
        by_cases e2 : p + m - k ≤ i ∧ i < p + m
        · rw [if_pos e2, if_pos (by omega)]
        · rw [if_neg e2, if_neg (by omega)]

theorem ext_getD {xs ys : List Nat} (hl : xs.length = ys.length) (h : ∀ i, i < xs.length → xs.getD i 0 = ys.getD i 0) : xs = ys := by
  refine List.ext_getElem hl fun i h1 h2 => ?_
  have := h i h1
  simpa [List.getElem?_eq_getElem h1, List.getElem?_eq_getElem h2] using this

theorem rputL_eq (xs : List Nat) (p m : Nat) (big : Bool) (n : Nat) (h : p + m ≤ xs.length) : rputL xs p m big n m = putL xs p m big n m := by
  refine ext_getD (by rw [rputL_length, putL_length]) fun i _ => ?_
  rw [rputL_getD xs p m big n h m (Nat.le_refl _), putL_getD xs p m big n h m (Nat.le_refl _)]
  cases big
  · simp
  · simp

theorem div_step (n k : Nat) : n / 256 ^ k / 256 = n / 256 ^ (k + 1) := by rw [Nat.div_div_eq_div_mul, Nat.pow_succ]

/-- What Part answers. -/
def partV (xs : List Nat) (p m : Int) : List Nat := if partE xs.length p m = 0 then cut xs p.toNat m.toNat else []

theorem partE_ok {n : Nat} {p m : Int} (h : partE n p m = 0) : 0 ≤ p ∧ 0 ≤ m ∧ m ≤ (n : Int) - p := by
  unfold partE at h
  split at h
  · cases h
  · split at h
    · cases h
    · omega

theorem take_step {xs ys : List Nat} {k : Nat} (h1 : k < xs.length) (h2 : k < ys.length) (h : xs.take k = ys.take k) (e : xs.getD k 0 = ys.getD k 0) : xs.take (k + 1) = ys.take (k + 1) := by
  rw [List.take_succ_eq_append_getElem h1, List.take_succ_eq_append_getElem h2, h]
  simp [List.getElem?_eq_getElem h1, List.getElem?_eq_getElem h2] at e
  rw [e]

theorem putV_le (xs : List Nat) (p m : Int) (big : Bool) (n : Int) : (putV xs p m big n).length ≤ xs.length := by
  unfold putV
  split
  · rw [putL_length]; exact Nat.le_refl _
  · simp
theorem partV_le (xs : List Nat) (p m : Int) : (partV xs p m).length ≤ xs.length := by
  unfold partV cut
  split
  · simp; omega
  · simp

end Go.Proofs.YtgcijioiicmjiaaDoor.Pl
