/- Ramps and blocks of numbers, as plain functions. -/
import Derived.Test.YtpdpjljfloanfaaDoorBcPart
import Derived.Test.YtpdpjljfloanfaaDoorBcJoinP
set_option linter.all false
namespace Go.Proofs.YtpdpjljfloanfaaDoor.Bf
open Bi Lv Bc

/-! Ramps. -/
def rz (a b : Int) : List Int := [a, b, 0, 0, 0, 0, 0, 0]
def rz2 (a b : Int) : List Int := [a, b, 0, 0, 0, 0, 0, 255]
/-- A ramp, the first k numbers between laid. -/
def rpP (z : List Int) (a b o : Int) : Nat → List Int
  | 0 => z
  | k + 1 => (rpP z a b o k).set (2 + k) (mixV a b (k + 1) o 0)
theorem rpP_length (z : List Int) (a b o : Int) : ∀ k, (rpP z a b o k).length = z.length
  | 0 => rfl
  | k + 1 => by rw [rpP, List.length_set, rpP_length z a b o k]
def rampV (a b : Int) : List Int := if b < a then rpP (rz a b) a b 7 6 else rpP (rz2 a b) a b 5 4
theorem rampV_many {a b : Int} (h : b < a) : rampV a b = rpP (rz a b) a b 7 6 := if_pos h
theorem rampV_few {a b : Int} (h : ¬ b < a) : rampV a b = rpP (rz2 a b) a b 5 4 := if_neg h
theorem rampV_length (a b : Int) : (rampV a b).length = 8 := by
  unfold rampV
  split <;> rw [rpP_length] <;> rfl
theorem rp_last (a b : Int) : (rpP (rz a b) a b 5 4).set 7 255 = rpP (rz2 a b) a b 5 4 := rfl

/-! Parts. -/
def pA (xs : List Nat) : Int := ((xs.getD 0 0 : Nat) : Int)
def pB (xs : List Nat) : Int := ((xs.getD 1 0 : Nat) : Int)
def pW (xs : List Nat) : List Int := lowsL xs 16 3 16
def pF (xs : List Nat) : List Int := lowsL xs 0 4 16
theorem pW_length (xs : List Nat) : (pW xs).length = 16 := lowsL_length _ _ _ _
theorem pF_length (xs : List Nat) : (pF xs).length = 16 := lowsL_length _ _ _ _
theorem lows_bd (xs : List Nat) (p m K : Nat) (hm : m ≤ 16) (i : Nat) : 0 ≤ (lowsL xs p m K).getD i 0 ∧ (lowsL xs p m K).getD i 0 < 2 ^ m := by
  have h2 : (0 : Int) < 2 ^ m := Int.pow_pos (by omega)
  by_cases h : i < K
  · have e : (lowsL xs p m K).getD i 0 = ((getN xs false (p + i * m) m : Nat) : Int) := by simp [lowsL, h]
    have hb := getN_lt xs false (p + i * m) m m (by omega)
    have e2 : ((2 ^ m : Nat) : Int) = 2 ^ m := by simp
    rw [e]
    omega
  · rw [List.getD_eq_getElem?_getD, List.getElem?_eq_none (by rw [lowsL_length]; omega)]
    simp only [Option.getD_none]
    omega
theorem pW_bd (xs : List Nat) (i : Nat) : 0 ≤ (pW xs).getD i 0 ∧ (pW xs).getD i 0 < 8 := lows_bd xs 16 3 16 (by omega) i
theorem pF_bd (xs : List Nat) (i : Nat) : 0 ≤ (pF xs).getD i 0 ∧ (pF xs).getD i 0 < 16 := lows_bd xs 0 4 16 (by omega) i
theorem byte_bd {xs : List Nat} (h : ∀ x ∈ xs, x < 256) (i : Nat) : xs.getD i 0 < 256 := getD_lt' h i

/-! Numbers chosen by others, the first k of them laid. -/
def seP (z : List Int) (f : Int → Int) (W : List Int) : Nat → List Int
  | 0 => z
  | k + 1 => (seP z f W k).set k (f (W.getD k 0))
theorem seP_length (z : List Int) (f : Int → Int) (W : List Int) : ∀ k, (seP z f W k).length = z.length
  | 0 => rfl
  | k + 1 => by rw [seP, List.length_set, seP_length z f W k]
theorem seP_getD (z : List Int) (f : Int → Int) (W : List Int) : ∀ k j, k ≤ z.length → (seP z f W k).getD j 0 = if j < k then f (W.getD j 0) else z.getD j 0
  | 0, j, _ => by simp [seP]
  | k + 1, j, h => by
    rw [seP, List.getD_eq_getElem?_getD, List.getElem?_set]
    by_cases hj : k = j
    · subst hj
      rw [if_pos rfl, if_pos (by rw [seP_length]; omega), if_pos (by omega)]
      rfl
    · rw [if_neg hj, ← List.getD_eq_getElem?_getD, seP_getD z f W k j (by omega)]
      by_cases h1 : j < k
      · rw [if_pos h1, if_pos (by omega)]
      · rw [if_neg h1, if_neg (by omega)]
/-- All of them: what lay there before does not matter. -/
theorem seP_any (n : Nat) (y z : List Int) (f : Int → Int) (W : List Int) (hy : y.length = n) (hz : z.length = n) : seP y f W n = seP z f W n := by
  apply List.ext_getElem (by rw [seP_length, seP_length, hy, hz])
  intro j h1 h2
  have e1 : (seP y f W n).getD j 0 = (seP y f W n)[j] := by rw [List.getD_eq_getElem?_getD, List.getElem?_eq_getElem h1]; rfl
  have e2 : (seP z f W n).getD j 0 = (seP z f W n)[j] := by rw [List.getD_eq_getElem?_getD, List.getElem?_eq_getElem h2]; rfl
  rw [← e1, ← e2]
  rw [seP_length, hy] at h1
  rw [seP_getD _ _ _ _ _ (by omega), seP_getD _ _ _ _ _ (by omega), if_pos h1, if_pos h1]
theorem seP_all (y z : List Int) (f : Int → Int) (W : List Int) (hy : y.length = 16) (hz : z.length = 16) : seP y f W 16 = seP z f W 16 := seP_any 16 y z f W hy hz
theorem seP_gets (n : Nat) (z : List Int) (f : Int → Int) (W : List Int) (hz : z.length = n) (j : Nat) (h : j < n) : (seP z f W n).getD j 0 = f (W.getD j 0) := by
  rw [seP_getD _ _ _ _ _ (by omega), if_pos h]
theorem seP_get (z : List Int) (f : Int → Int) (W : List Int) (hz : z.length = 16) (j : Nat) (h : j < 16) : (seP z f W 16).getD j 0 = f (W.getD j 0) := seP_gets 16 z f W hz j h
/-- A block's numbers, by its ramp. -/
def deF (xs : List Nat) (n : Int) : Int := (rampV (pA xs) (pB xs)).getD n.toNat 0
def deV (xs : List Nat) : List Int := seP z16 (deF xs) (pW xs) 16
theorem deV_length (xs : List Nat) : (deV xs).length = 16 := seP_length _ _ _ _
/-- A block of four-bit numbers. -/
def foV (xs : List Nat) : List Int := seP z16 (fun n => wideV n 4) (pF xs) 16
theorem foV_length (xs : List Nat) : (foV xs).length = 16 := seP_length _ _ _ _

/-! Blocks. -/
def okW (W : List Int) (m : Nat) : Prop := ∀ i, i < 16 → 0 ≤ W.getD i 0 ∧ W.getD i 0 < 2 ^ m
instance (W : List Int) (m : Nat) : Decidable (okW W m) := inferInstanceAs (Decidable (∀ i, i < 16 → _))
/-- The numbers' bits, one behind the other. -/
def pk (W : List Int) (m k : Nat) : Bool := ((W.getD (k / m) 0).toNat).testBit (k % m)
theorem pk_index (W : List Int) (m i k : Nat) (hk : k < m) : (W.getD i 0).toNat.testBit k = pk W m (i * m + k) := by
  unfold pk
  rw [show (i * m + k) / m = i from by rw [Nat.mul_comm, Nat.mul_add_div (by omega), Nat.div_eq_of_lt hk]; omega, show (i * m + k) % m = k from by rw [Nat.mul_comm, Nat.mul_add_mod]; exact Nat.mod_eq_of_lt hk]
theorem pk_step (W : List Int) (m i : Nat) (h : 0 ≤ W.getD i 0 ∧ W.getD i 0 < 2 ^ m) : nm (pk W m) (i * m) ||| (W.getD i 0).toNat * 2 ^ (i * m) = nm (pk W m) ((i + 1) * m) := by
  rw [Nat.succ_mul]
  exact nm_or _ (i * m) m _ (nat_lt (k := m) h) fun k hk => pk_index W m i k hk
/-- The block's bits: two bytes, and the indices. -/
def jb7 (a b : Int) (W : List Int) (k : Nat) : Bool := if k < 8 then a.toNat.testBit k else if k < 16 then b.toNat.testBit (k - 8) else pk W 3 (k - 16)
def jOk7 (a b : Int) (W : List Int) : Prop := (0 ≤ a ∧ a < 256) ∧ (0 ≤ b ∧ b < 256) ∧ okW W 3
instance (a b : Int) (W : List Int) : Decidable (jOk7 a b W) := inferInstanceAs (Decidable (_ ∧ _ ∧ _))
def jE7 (a b : Int) (W : List Int) : Int := if jOk7 a b W then 0 else 1
def jV7 (a b : Int) (W : List Int) : List Nat := if jOk7 a b W then lay z8 false 0 64 (jb7 a b W) else []
def fE (W : List Int) : Int := if okW W 4 then 0 else 1
def fV (W : List Int) : List Nat := if okW W 4 then lay z8 false 0 64 (pk W 4) else []
section
variable {a b : Int} {W : List Int}
theorem jE7_ok (h : jOk7 a b W) : jE7 a b W = 0 := if_pos h
theorem jE7_no (h : ¬ jOk7 a b W) : jE7 a b W = 1 := if_neg h
theorem jV7_ok (h : jOk7 a b W) : jV7 a b W = lay z8 false 0 64 (jb7 a b W) := if_pos h
theorem jV7_no (h : ¬ jOk7 a b W) : jV7 a b W = [] := if_neg h
theorem fE_ok (h : okW W 4) : fE W = 0 := if_pos h
theorem fE_no (h : ¬ okW W 4) : fE W = 1 := if_neg h
theorem fV_ok (h : okW W 4) : fV W = lay z8 false 0 64 (pk W 4) := if_pos h
theorem fV_no (h : ¬ okW W 4) : fV W = [] := if_neg h
theorem jb7_first (ha : 0 ≤ a ∧ a < 256) : nm (jb7 a b W) 8 = a.toNat := by
  have h := nat_lt (k := 8) ha
  exact (nm_eq h fun k hk => by simp [jb7, hk]).symm
theorem jb7_second (ha : 0 ≤ a ∧ a < 256) (hb : 0 ≤ b ∧ b < 256) : a.toNat ||| b.toNat * 2 ^ 8 = nm (jb7 a b W) 16 := by
  rw [← jb7_first (b := b) (W := W) ha]
  exact nm_or _ 8 8 _ (nat_lt (k := 8) hb) fun k hk => by
    unfold jb7
    rw [if_neg (by omega), if_pos (by omega), show 8 + k - 8 = k by omega]
theorem jb7_third (ha : 0 ≤ a ∧ a < 256) (hb : 0 ≤ b ∧ b < 256) : (a.toNat ||| b.toNat * 2 ^ 8) ||| nm (pk W 3) 48 * 2 ^ 16 = nm (jb7 a b W) 64 := by
  rw [jb7_second (W := W) ha hb]
  exact nm_or _ 16 48 _ (nm_lt _ _) fun k hk => by
    unfold jb7
    rw [if_neg (by omega), if_neg (by omega), show 16 + k - 16 = k by omega, nm_bit]
    simp [hk]
theorem lay7_step (i : Nat) : st (lay z8 false 0 (16 + 3 * i) (jb7 a b W)) false (16 + 3 * i) 3 (W.getD i 0).toNat = lay z8 false 0 (16 + 3 * (i + 1)) (jb7 a b W) :=
  st_lay z8 _ (16 + 3 * i) 3 _ z8_lt fun k hk => by
    unfold jb7
    rw [if_neg (by omega), if_neg (by omega), pk_index W 3 i k hk, show 16 + 3 * i + k - 16 = i * 3 + k by omega]
theorem lay4_step (i : Nat) : st (lay z8 false 0 (4 * i) (pk W 4)) false (4 * i) 4 (W.getD i 0).toNat = lay z8 false 0 (4 * (i + 1)) (pk W 4) :=
  st_lay z8 _ (4 * i) 4 _ z8_lt fun k hk => by
    rw [pk_index W 4 i k hk, show 4 * i + k = i * 4 + k by omega]
/-- Two bytes and six of 0. -/
theorem lay7_two (ha : 0 ≤ a ∧ a < 256) (hb : 0 ≤ b ∧ b < 256) : [a.toNat, b.toNat, 0, 0, 0, 0, 0, 0] = lay z8 false 0 16 (jb7 a b W) := by
  have ha' : a.toNat < 256 := by omega
  have hb' : b.toNat < 256 := by omega
  refine ext_bits false (by rw [lay_length]; rfl) (fun x hx => ?_) (lay_lt _ _ _ _ _) fun i hi => ?_
  · simp only [List.mem_cons, List.not_mem_nil, or_false] at hx
    omega
  · have hi' : i < 64 := hi
    rw [lay_bit _ _ _ _ _ _ (by show i < 8 * 8; omega)]
    have h8 : i % 8 < 8 := Nat.mod_lt _ (by omega)
    unfold bt jb7 pl
    simp only [Bool.false_eq_true, if_false, Nat.sub_zero]
    by_cases h1 : i < 8
    · rw [if_pos (by omega), if_pos h1, show i / 8 = 0 by omega, show i % 8 = i by omega]
      rfl
    · by_cases h2 : i < 16
      · rw [if_pos (by omega), if_neg h1, if_pos h2, show i / 8 = 1 by omega, show i % 8 = i - 8 by omega]
        rfl
      · rw [if_neg (by omega)]
        have hq : i / 8 = 2 ∨ i / 8 = 3 ∨ i / 8 = 4 ∨ i / 8 = 5 ∨ i / 8 = 6 ∨ i / 8 = 7 := by omega
        rcases hq with q | q | q | q | q | q <;> rw [q] <;> rfl
end
end Go.Proofs.YtpdpjljfloanfaaDoor.Bf
