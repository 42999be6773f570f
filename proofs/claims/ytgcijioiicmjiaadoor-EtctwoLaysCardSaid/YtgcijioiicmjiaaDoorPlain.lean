/- Plain facts on the numbers that package field answers, without the program. -/
set_option linter.all false
namespace Go.Proofs.YtgcijioiicmjiaaDoor.Pl

/-- How far up byte i of m stands, in bits. -/
def sh (i m : Nat) (big : Bool) : Nat := if big then 8 * (m - 1 - i) else 8 * i

/-- The error of Get: bytes of a slice of n, at p, m of them. -/
def getE (n : Nat) (p m : Int) : Int := if m < 1 ∨ 4 < m ∨ p < 0 then 1 else if (n : Int) - p < m then 2 else 0

def sumV (a b : Int) : Int := if a < 0 ∨ b < 0 then 0 else if 2147483647 - b < a then 0 else a + b
def cut (xs : List Nat) (p m : Nat) : List Nat := (xs.drop p).take m
def num (zs : List Nat) : Nat := zs.foldl (fun n b => 256 * n + b) 0
def ord (big : Bool) (ys : List Nat) : List Nat := if big then ys else ys.reverse
/-- The number in m bytes at p. -/
def getN (xs : List Nat) (p m : Nat) (big : Bool) : Nat := num (ord big (cut xs p m))
def getV (xs : List Nat) (p m : Int) (big : Bool) : Int := if getE xs.length p m = 0 then (getN xs p.toNat m.toNat big : Int) else 0

theorem getD_lt {xs : List Nat} (h : ∀ x ∈ xs, x < 256) (i : Nat) : xs.getD i 0 < 256 := by
  by_cases hi : i < xs.length
  · have := h (xs[i]) (List.getElem_mem hi)
    simpa [List.getElem?_eq_getElem hi] using this
  · simp [List.getElem?_eq_none (Nat.le_of_not_lt hi)]

theorem getE_ok {n : Nat} {p m : Int} (h : getE n p m = 0) : 1 ≤ m ∧ m ≤ 4 ∧ 0 ≤ p ∧ m ≤ (n : Int) - p := by
  unfold getE at h
  split at h
  · cases h
  · split at h
    · cases h
    · omega

/-- A low number beside one that stands above it. -/
theorem or_add (a b i : Nat) (h : b < 2 ^ i) : (a * 2 ^ i) ||| b = a * 2 ^ i + b := by
  rw [Nat.mul_comm, ← Nat.two_pow_add_eq_or_of_lt h]

theorem getD_set (xs : List Nat) (a b i : Nat) (ha : a < xs.length) : (xs.set a b).getD i 0 = if i = a then b else xs.getD i 0 := by
  simp only [List.getD_eq_getElem?_getD, List.getElem?_set]
  by_cases h : a = i
  · subst h; simp [ha]
  · rw [if_neg h, if_neg (fun e => h e.symm)]

theorem take_step {xs ys : List Nat} {k : Nat} (h1 : k < xs.length) (h2 : k < ys.length) (h : xs.take k = ys.take k) (e : xs.getD k 0 = ys.getD k 0) : xs.take (k + 1) = ys.take (k + 1) := by
  rw [List.take_succ_eq_append_getElem h1, List.take_succ_eq_append_getElem h2, h]
  simp [List.getElem?_eq_getElem h1, List.getElem?_eq_getElem h2] at e
  rw [e]

end Go.Proofs.YtgcijioiicmjiaaDoor.Pl
