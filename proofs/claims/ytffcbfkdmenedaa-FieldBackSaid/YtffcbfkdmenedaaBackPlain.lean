/- What was put is got; put the other way round in bytes that are turned, it is the same bytes, turned. Plain facts, without the program. -/
import Derived.Test.YtffcbfkdmenedaaPlain
namespace Go.Proofs.Ytffcbfkdmenedaa.Pl

theorem cut_put (xs : List Nat) (p m : Nat) (big : Bool) (n : Nat) (h : p + m ≤ xs.length) : cut (putL xs p m big n m) p m = (List.range m).map (dig n m big) := by
  refine ext_getD (by rw [cut_length _ _ _ (by rw [putL_length]; exact h)]; simp) fun i hi => ?_
  rw [cut_length _ _ _ (by rw [putL_length]; exact h)] at hi
  rw [cut_getD _ _ _ _ hi, putL_getD xs p m big n h m (Nat.le_refl _), if_pos (by omega), show p + i - p = i from by omega]
  simp [hi]

theorem num_dig (m : Nat) (big : Bool) (n : Nat) (h1 : 1 ≤ m) (h4 : m ≤ 4) (hn : n < 256 ^ m) : num (ord big ((List.range m).map (dig n m big))) = n := by
  match m with
  | 1 =>
    rw [show List.range 1 = [0] from rfl]
    cases big <;> simp [num, ord, dig, sh] <;> omega
  | 2 =>
    rw [show List.range 2 = [0, 1] from rfl]
    cases big <;> simp [num, ord, dig, sh] <;> omega
  | 3 =>
    rw [show List.range 3 = [0, 1, 2] from rfl]
    cases big <;> simp [num, ord, dig, sh] <;> omega
  | 4 =>
    rw [show List.range 4 = [0, 1, 2, 3] from rfl]
    cases big <;> simp [num, ord, dig, sh] <;> omega
  | 0 => omega
  | k + 5 => omega

theorem get_put (xs : List Nat) (p m : Nat) (big : Bool) (n : Nat) (h : p + m ≤ xs.length) (h1 : 1 ≤ m) (h4 : m ≤ 4) (hn : n < 256 ^ m) : getN (putL xs p m big n m) p m big = n := by
  unfold getN
  rw [cut_put xs p m big n h, num_dig m big n h1 h4 hn]

theorem put_far (xs : List Nat) (p m : Nat) (big : Bool) (n : Nat) (h : p + m ≤ xs.length) (i : Nat) (hi : i < p ∨ p + m ≤ i) : (putL xs p m big n m).getD i 0 = xs.getD i 0 := by
  rw [putL_getD xs p m big n h m (Nat.le_refl _), if_neg (by omega)]

theorem rev_getD (xs : List Nat) (i : Nat) (h : i < xs.length) : xs.reverse.getD i 0 = xs.getD (xs.length - 1 - i) 0 := by
  simp [List.getElem?_reverse h]

theorem sh_turn (j m : Nat) (big : Bool) (h : j < m) : sh j m (!big) = sh (m - 1 - j) m big := by
  cases big
  · simp [sh]
  · simp [sh]; omega

theorem put_turn (xs : List Nat) (p m : Nat) (big : Bool) (n : Nat) (h : p + m ≤ xs.length) :
    putL xs.reverse (xs.length - p - m) m (!big) n m = (putL xs p m big n m).reverse := by
  refine ext_getD (by rw [putL_length]; simp [putL_length]) fun i hi => ?_
  rw [putL_length, List.length_reverse] at hi
  rw [putL_getD _ _ _ _ _ (by simp; omega) m (Nat.le_refl _), rev_getD (putL xs p m big n m) i (by rw [putL_length]; exact hi), putL_length, putL_getD xs p m big n h m (Nat.le_refl _), rev_getD xs i hi]
  by_cases e : xs.length - p - m ≤ i ∧ i < xs.length - p - m + m
  · rw [if_pos e, if_pos (by omega)]
    unfold dig
    rw [sh_turn _ _ _ (by omega), show m - 1 - (i - (xs.length - p - m)) = xs.length - 1 - i - p from by omega]
  · rw [if_neg e, if_neg (by omega)]

/-- What a put without an error tells of its arguments. -/
theorem putE_ok {l : Nat} {p m n : Int} (h : putE l p m n = 0) : ∃ p' m' n' : Nat, p = p' ∧ m = m' ∧ n = n' ∧ 1 ≤ m' ∧ m' ≤ 4 ∧ p' + m' ≤ l ∧ n' < 256 ^ m' := by
  unfold putE at h
  split at h
  · next h1 => exact absurd h h1
  · next h1 =>
    split at h
    · cases h
    · next h2 =>
      obtain ⟨q1, q2, q3, q4⟩ := getE_ok (by simpa using h1)
      obtain ⟨p', rfl⟩ := Int.eq_ofNat_of_zero_le q3
      obtain ⟨m', rfl⟩ := Int.eq_ofNat_of_zero_le (show 0 ≤ m by omega)
      obtain ⟨n', rfl⟩ := Int.eq_ofNat_of_zero_le (show 0 ≤ n by omega)
      refine ⟨p', m', n', rfl, rfl, rfl, by omega, by omega, by omega, ?_⟩
      have : ¬ ((256 ^ m' : Nat) : Int) ≤ n' := fun hh => h2 (.inr (by simpa using hh))
      omega

theorem getE_zero (l p m : Nat) (h1 : 1 ≤ m) (h4 : m ≤ 4) (h : p + m ≤ l) : getE l p m = 0 := by
  unfold getE
  rw [if_neg (by omega), if_neg (by omega)]

theorem putE_zero (l p m n : Nat) (h1 : 1 ≤ m) (h4 : m ≤ 4) (h : p + m ≤ l) (hn : n < 256 ^ m) : putE l p m n = 0 := by
  unfold putE
  rw [if_neg (by rw [getE_zero l p m h1 h4 h]; simp), if_neg]
  have : ¬ ((256 ^ m : Nat) : Int) ≤ n := by omega
  simp at this ⊢
  exact this
end Go.Proofs.Ytffcbfkdmenedaa.Pl
