/- BcDec, BcJoinP, BfPlain, BfRamp, BfPart, BfJoin: merged. -/
import Derived.Test.YtnoailihkjccbaaDoorG5
import Derived.Test.YtnoailihkjccbaaDoorG3
import Derived.Test.YtnoailihkjccbaaDoorG4
import Derived.Deep.OwnRows
set_option linter.all false
namespace Go.Proofs.YtnoailihkjccbaaDoor
open Go.RowKit
open Bi Lv Bc

namespace Bc
def z64 : List Int := List.replicate 64 0
theorem z64_length : z64.length = 64 := by simp [z64]
/-- The texels, the first k of them laid. -/
def decP (pal W : List Int) : Nat → List Int
  | 0 => z64
  | k + 1 => spl (decP pal W k) (k * 4) ((pal.drop ((W.getD k 0).toNat * 4)).take 4)
theorem decP_length (pal W : List Int) : ∀ k, (decP pal W k).length = 64
  | 0 => z64_length
  | k + 1 => by rw [decP, spl_length, decP_length pal W k]
def decT (xs : List Nat) (four : Bool) : List Int := decP (palV (paA xs) (paB xs) four) (paW xs) 16
theorem decT_length (xs : List Nat) (four : Bool) : (decT xs four).length = 64 := decP_length _ _ _
end Bc
instance : ZeroV 27 (i64s Bc.z64) := .of (by kernel_rfl)
theorem built_z64 (u : World) : (Instr.build 27 #[]).run Tryd.prog u = .ok (arr z64) u := run_build u _ _ _ (by kernel_rfl)

end Go.Proofs.YtnoailihkjccbaaDoor
set_option linter.all false
namespace Go.Proofs.YtnoailihkjccbaaDoor.Bc
open Bi Lv

def z8 : List Nat := [0, 0, 0, 0, 0, 0, 0, 0]
theorem z8_lt : ∀ x ∈ z8, x < 256 := by decide
/-- A block's bits. -/
def jb (a b : Int) (W : List Int) (k : Nat) : Bool := if k < 16 then a.toNat.testBit k else if k < 32 then b.toNat.testBit (k - 16) else ((W.getD ((k - 32) / 2) 0).toNat).testBit ((k - 32) % 2)
def jOk (a b : Int) (W : List Int) : Prop := (0 ≤ a ∧ a < 65536) ∧ (0 ≤ b ∧ b < 65536) ∧ ∀ i, i < 16 → 0 ≤ W.getD i 0 ∧ W.getD i 0 < 4
instance (a b : Int) (W : List Int) : Decidable (jOk a b W) := inferInstanceAs (Decidable (_ ∧ _ ∧ _))
def jE (a b : Int) (W : List Int) : Int := if jOk a b W then 0 else 1
def jB (a b : Int) (W : List Int) : List Nat := lay z8 false 0 64 (jb a b W)
def jV (a b : Int) (W : List Int) : List Nat := if jOk a b W then jB a b W else []
theorem jE_ok {a b : Int} {W : List Int} (h : jOk a b W) : jE a b W = 0 := if_pos h
theorem jE_no {a b : Int} {W : List Int} (h : ¬ jOk a b W) : jE a b W = 1 := if_neg h
theorem jV_ok {a b : Int} {W : List Int} (h : jOk a b W) : jV a b W = jB a b W := if_pos h
theorem jV_no {a b : Int} {W : List Int} (h : ¬ jOk a b W) : jV a b W = [] := if_neg h
theorem mul_bit (x p k : Nat) : (x * 2 ^ p).testBit k = (decide (p ≤ k) && x.testBit (k - p)) := by
  rw [← Nat.shiftLeft_eq, Nat.testBit_shiftLeft]
theorem nm_or (g : Nat → Bool) (p m x : Nat) (hx : x < 2 ^ m) (h : ∀ k, k < m → x.testBit k = g (p + k)) : nm g p ||| x * 2 ^ p = nm g (p + m) := by
  apply Nat.eq_of_testBit_eq
  intro k
  rw [Nat.testBit_or, nm_bit, nm_bit, mul_bit]
  by_cases h1 : k < p
  · simp [h1, show k < p + m by omega, show ¬ p ≤ k by omega]
  · by_cases h2 : k < p + m
    · have := h (k - p) (by omega)
      rw [show p + (k - p) = k by omega] at this
      simp [h1, h2, show p ≤ k by omega, this]
    · have hz : x.testBit (k - p) = false := Nat.testBit_lt_two_pow (Nat.lt_of_lt_of_le hx (Nat.pow_le_pow_right (by omega) (by omega)))
      simp [h1, h2, hz]
theorem st_lay (z : List Nat) (g : Nat → Bool) (p m N : Nat) (hz : ∀ x ∈ z, x < 256) (h : ∀ k, k < m → N.testBit k = g (p + k)) : st (lay z false 0 p g) false p m N = lay z false 0 (p + m) g := by
  have hl : (lay z false 0 p g).length = z.length := lay_length _ _ _ _ _
  refine ext_bits false (by unfold st; rw [lay_length, hl, lay_length]) (lay_lt _ _ _ _ _) (lay_lt _ _ _ _ _) fun i hi => ?_
  have hi' : i < 8 * z.length := by unfold st at hi; rwa [lay_length, hl] at hi
  unfold st
  rw [lay_bit _ _ _ _ _ _ (by rw [hl]; exact hi'), lay_bit _ _ _ _ _ _ hi', lay_bit _ _ _ _ _ _ hi']
  by_cases h1 : p ≤ i ∧ i < p + m
  · rw [if_pos h1]
    simp only [Bool.false_eq_true, if_false]
    rw [if_pos (by omega)]
    have := h (i - p) (by omega)
    rw [show p + (i - p) = i by omega] at this
    simpa using this
  · rw [if_neg h1]
    by_cases h2 : i < p
    · rw [if_pos (by omega), if_pos (by omega)]
    · rw [if_neg (by omega), if_neg (by omega)]
theorem st_all (g : Nat → Bool) : st z8 false 0 64 (nm g 64) = lay z8 false 0 64 g := by
  rw [← low_lay]
  exact lay_congr z8_lt fun k hk => by rw [nm_bit]; simp [hk]
section
variable {a b : Int} {W : List Int}
theorem nat_lt {a : Int} {k : Nat} (h : 0 ≤ a ∧ a < 2 ^ k) : a.toNat < 2 ^ k := by
  have e : ((2 ^ k : Nat) : Int) = 2 ^ k := by simp
  omega
theorem jb_first (ha : 0 ≤ a ∧ a < 65536) : nm (jb a b W) 16 = a.toNat := by
  have h := nat_lt (k := 16) ha
  exact (nm_eq h fun k hk => by simp [jb, hk]).symm
theorem jb_second (ha : 0 ≤ a ∧ a < 65536) (hb : 0 ≤ b ∧ b < 65536) : a.toNat ||| b.toNat * 2 ^ 16 = nm (jb a b W) 32 := by
  rw [← jb_first (b := b) (W := W) ha]
  exact nm_or _ 16 16 _ (nat_lt (k := 16) hb) fun k hk => by
    unfold jb
    rw [if_neg (by omega), if_pos (by omega), show 16 + k - 16 = k by omega]
theorem jb_index (i k : Nat) (hk : k < 2) : (W.getD i 0).toNat.testBit k = jb a b W (32 + 2 * i + k) := by
  unfold jb
  rw [if_neg (by omega), if_neg (by omega), show (32 + 2 * i + k - 32) / 2 = i by omega, show (32 + 2 * i + k - 32) % 2 = k by omega]
theorem jb_step (i : Nat) (hw : 0 ≤ W.getD i 0 ∧ W.getD i 0 < 4) : nm (jb a b W) (32 + 2 * i) ||| (W.getD i 0).toNat * 2 ^ (32 + 2 * i) = nm (jb a b W) (32 + 2 * (i + 1)) :=
  nm_or _ (32 + 2 * i) 2 _ (nat_lt (k := 2) hw) (jb_index i)
theorem lay_first : st z8 false 0 16 a.toNat = lay z8 false 0 16 (jb a b W) := by
  rw [← low_lay]
  exact lay_congr z8_lt fun k hk => by simp [jb, hk]
theorem lay_second : st (lay z8 false 0 16 (jb a b W)) false 16 16 b.toNat = lay z8 false 0 32 (jb a b W) :=
  st_lay z8 _ 16 16 _ z8_lt fun k hk => by
    unfold jb
    rw [if_neg (by omega), if_pos (by omega), show 16 + k - 16 = k by omega]
theorem lay_step (i : Nat) : st (lay z8 false 0 (32 + 2 * i) (jb a b W)) false (32 + 2 * i) 2 (W.getD i 0).toNat = lay z8 false 0 (32 + 2 * (i + 1)) (jb a b W) :=
  st_lay z8 _ (32 + 2 * i) 2 _ z8_lt (jb_index i)
end
end Go.Proofs.YtnoailihkjccbaaDoor.Bc
set_option linter.all false
namespace Go.Proofs.YtnoailihkjccbaaDoor.Bf
open Bi Lv Bc

/-! Ramps. -/
def rz (a b : Int) : List Int := [a, b, 0, 0, 0, 0, 0, 0]
def rz2 (a b : Int) : List Int := [a, b, 0, 0, 0, 0, 0, 255]
/-- A ramp, the first k numbers between laid. -/
def rpP (z : List Int) (a b o : Int) : Nat → List Int
  | 0 => z
  | k + 1 => (rpP z a b o k).set (2 + k) (mixV a b (k + 1) o 0)
theorem rpP_length (z : List Int) (a b o : Int) : ∀ k, (rpP z a b o k).length = z.length
  | 0 => rfl
  | k + 1 => by rw [rpP, List.length_set, rpP_length z a b o k]
def rampV (a b : Int) : List Int := if b < a then rpP (rz a b) a b 7 6 else rpP (rz2 a b) a b 5 4
theorem rampV_many {a b : Int} (h : b < a) : rampV a b = rpP (rz a b) a b 7 6 := if_pos h
theorem rampV_few {a b : Int} (h : ¬ b < a) : rampV a b = rpP (rz2 a b) a b 5 4 := if_neg h
theorem rampV_length (a b : Int) : (rampV a b).length = 8 := by
  unfold rampV
  split <;> rw [rpP_length] <;> rfl
theorem rp_last (a b : Int) : (rpP (rz a b) a b 5 4).set 7 255 = rpP (rz2 a b) a b 5 4 := rfl

/-! Parts. -/
def pA (xs : List Nat) : Int := ((xs.getD 0 0 : Nat) : Int)
def pB (xs : List Nat) : Int := ((xs.getD 1 0 : Nat) : Int)
def pW (xs : List Nat) : List Int := lowsL xs 16 3 16
def pF (xs : List Nat) : List Int := lowsL xs 0 4 16
theorem pW_length (xs : List Nat) : (pW xs).length = 16 := lowsL_length _ _ _ _
theorem pF_length (xs : List Nat) : (pF xs).length = 16 := lowsL_length _ _ _ _
theorem lows_bd (xs : List Nat) (p m K : Nat) (hm : m ≤ 16) (i : Nat) : 0 ≤ (lowsL xs p m K).getD i 0 ∧ (lowsL xs p m K).getD i 0 < 2 ^ m := by
  have h2 : (0 : Int) < 2 ^ m := Int.pow_pos (by omega)
  by_cases h : i < K
  · have e : (lowsL xs p m K).getD i 0 = ((getN xs false (p + i * m) m : Nat) : Int) := by simp [lowsL, h]
    have hb := getN_lt xs false (p + i * m) m m (by omega)
    have e2 : ((2 ^ m : Nat) : Int) = 2 ^ m := by simp
    rw [e]
    omega
  · rw [List.getD_eq_getElem?_getD, List.getElem?_eq_none (by rw [lowsL_length]; omega)]
    simp only [Option.getD_none]
    omega
theorem pW_bd (xs : List Nat) (i : Nat) : 0 ≤ (pW xs).getD i 0 ∧ (pW xs).getD i 0 < 8 := lows_bd xs 16 3 16 (by omega) i
theorem pF_bd (xs : List Nat) (i : Nat) : 0 ≤ (pF xs).getD i 0 ∧ (pF xs).getD i 0 < 16 := lows_bd xs 0 4 16 (by omega) i
theorem byte_bd {xs : List Nat} (h : ∀ x ∈ xs, x < 256) (i : Nat) : xs.getD i 0 < 256 := getD_lt' h i

/-! Numbers chosen by others, the first k of them laid. -/
def seP (z : List Int) (f : Int → Int) (W : List Int) : Nat → List Int
  | 0 => z
  | k + 1 => (seP z f W k).set k (f (W.getD k 0))
theorem seP_length (z : List Int) (f : Int → Int) (W : List Int) : ∀ k, (seP z f W k).length = z.length
  | 0 => rfl
  | k + 1 => by rw [seP, List.length_set, seP_length z f W k]
theorem seP_getD (z : List Int) (f : Int → Int) (W : List Int) : ∀ k j, k ≤ z.length → (seP z f W k).getD j 0 = if j < k then f (W.getD j 0) else z.getD j 0
  | 0, j, _ => by simp [seP]
  | k + 1, j, h => by
    rw [seP, List.getD_eq_getElem?_getD, List.getElem?_set]
    by_cases hj : k = j
    · subst hj
      rw [if_pos rfl, if_pos (by rw [seP_length]; omega), if_pos (by omega)]
      rfl
    · rw [if_neg hj, ← List.getD_eq_getElem?_getD, seP_getD z f W k j (by omega)]
      by_cases h1 : j < k
      · rw [if_pos h1, if_pos (by omega)]
      · rw [if_neg h1, if_neg (by omega)]
/-- All of them: what lay there before does not matter. -/
theorem seP_any (n : Nat) (y z : List Int) (f : Int → Int) (W : List Int) (hy : y.length = n) (hz : z.length = n) : seP y f W n = seP z f W n := by
  apply List.ext_getElem (by rw [seP_length, seP_length, hy, hz])
  intro j h1 h2
  have e1 : (seP y f W n).getD j 0 = (seP y f W n)[j] := by rw [List.getD_eq_getElem?_getD, List.getElem?_eq_getElem h1]; rfl
  have e2 : (seP z f W n).getD j 0 = (seP z f W n)[j] := by rw [List.getD_eq_getElem?_getD, List.getElem?_eq_getElem h2]; rfl
  rw [← e1, ← e2]
  rw [seP_length, hy] at h1
  rw [seP_getD _ _ _ _ _ (by omega), seP_getD _ _ _ _ _ (by omega), if_pos h1, if_pos h1]
theorem seP_all (y z : List Int) (f : Int → Int) (W : List Int) (hy : y.length = 16) (hz : z.length = 16) : seP y f W 16 = seP z f W 16 := seP_any 16 y z f W hy hz
theorem seP_gets (n : Nat) (z : List Int) (f : Int → Int) (W : List Int) (hz : z.length = n) (j : Nat) (h : j < n) : (seP z f W n).getD j 0 = f (W.getD j 0) := by
  rw [seP_getD _ _ _ _ _ (by omega), if_pos h]
theorem seP_get (z : List Int) (f : Int → Int) (W : List Int) (hz : z.length = 16) (j : Nat) (h : j < 16) : (seP z f W 16).getD j 0 = f (W.getD j 0) := seP_gets 16 z f W hz j h
/-- A block's numbers, by its ramp. -/
def deF (xs : List Nat) (n : Int) : Int := (rampV (pA xs) (pB xs)).getD n.toNat 0
def deV (xs : List Nat) : List Int := seP z16 (deF xs) (pW xs) 16
theorem deV_length (xs : List Nat) : (deV xs).length = 16 := seP_length _ _ _ _
/-- A block of four-bit numbers. -/
def foV (xs : List Nat) : List Int := seP z16 (fun n => wideV n 4) (pF xs) 16
theorem foV_length (xs : List Nat) : (foV xs).length = 16 := seP_length _ _ _ _

/-! Blocks. -/
def okW (W : List Int) (m : Nat) : Prop := ∀ i, i < 16 → 0 ≤ W.getD i 0 ∧ W.getD i 0 < 2 ^ m
instance (W : List Int) (m : Nat) : Decidable (okW W m) := inferInstanceAs (Decidable (∀ i, i < 16 → _))
/-- The numbers' bits, one behind the other. -/
def pk (W : List Int) (m k : Nat) : Bool := ((W.getD (k / m) 0).toNat).testBit (k % m)
theorem pk_index (W : List Int) (m i k : Nat) (hk : k < m) : (W.getD i 0).toNat.testBit k = pk W m (i * m + k) := by
  unfold pk
  rw [show (i * m + k) / m = i from by rw [Nat.mul_comm, Nat.mul_add_div (by omega), Nat.div_eq_of_lt hk]; omega, show (i * m + k) % m = k from by rw [Nat.mul_comm, Nat.mul_add_mod]; exact Nat.mod_eq_of_lt hk]
theorem pk_step (W : List Int) (m i : Nat) (h : 0 ≤ W.getD i 0 ∧ W.getD i 0 < 2 ^ m) : nm (pk W m) (i * m) ||| (W.getD i 0).toNat * 2 ^ (i * m) = nm (pk W m) ((i + 1) * m) := by
  rw [Nat.succ_mul]
  exact nm_or _ (i * m) m _ (nat_lt (k := m) h) fun k hk => pk_index W m i k hk
/-- The block's bits: two bytes, and the indices. -/
def jb7 (a b : Int) (W : List Int) (k : Nat) : Bool := if k < 8 then a.toNat.testBit k else if k < 16 then b.toNat.testBit (k - 8) else pk W 3 (k - 16)
def jOk7 (a b : Int) (W : List Int) : Prop := (0 ≤ a ∧ a < 256) ∧ (0 ≤ b ∧ b < 256) ∧ okW W 3
instance (a b : Int) (W : List Int) : Decidable (jOk7 a b W) := inferInstanceAs (Decidable (_ ∧ _ ∧ _))
def jE7 (a b : Int) (W : List Int) : Int := if jOk7 a b W then 0 else 1
def jV7 (a b : Int) (W : List Int) : List Nat := if jOk7 a b W then lay z8 false 0 64 (jb7 a b W) else []
def fE (W : List Int) : Int := if okW W 4 then 0 else 1
def fV (W : List Int) : List Nat := if okW W 4 then lay z8 false 0 64 (pk W 4) else []
section
variable {a b : Int} {W : List Int}
theorem jE7_ok (h : jOk7 a b W) : jE7 a b W = 0 := if_pos h
theorem jE7_no (h : ¬ jOk7 a b W) : jE7 a b W = 1 := if_neg h
theorem jV7_ok (h : jOk7 a b W) : jV7 a b W = lay z8 false 0 64 (jb7 a b W) := if_pos h
theorem jV7_no (h : ¬ jOk7 a b W) : jV7 a b W = [] := if_neg h
theorem fE_ok (h : okW W 4) : fE W = 0 := if_pos h
theorem fE_no (h : ¬ okW W 4) : fE W = 1 := if_neg h
theorem fV_ok (h : okW W 4) : fV W = lay z8 false 0 64 (pk W 4) := if_pos h
theorem fV_no (h : ¬ okW W 4) : fV W = [] := if_neg h
theorem jb7_first (ha : 0 ≤ a ∧ a < 256) : nm (jb7 a b W) 8 = a.toNat := by
  have h := nat_lt (k := 8) ha
  exact (nm_eq h fun k hk => by simp [jb7, hk]).symm
theorem jb7_second (ha : 0 ≤ a ∧ a < 256) (hb : 0 ≤ b ∧ b < 256) : a.toNat ||| b.toNat * 2 ^ 8 = nm (jb7 a b W) 16 := by
  rw [← jb7_first (b := b) (W := W) ha]
  exact nm_or _ 8 8 _ (nat_lt (k := 8) hb) fun k hk => by
    unfold jb7
    rw [if_neg (by omega), if_pos (by omega), show 8 + k - 8 = k by omega]
theorem jb7_third (ha : 0 ≤ a ∧ a < 256) (hb : 0 ≤ b ∧ b < 256) : (a.toNat ||| b.toNat * 2 ^ 8) ||| nm (pk W 3) 48 * 2 ^ 16 = nm (jb7 a b W) 64 := by
  rw [jb7_second (W := W) ha hb]
  exact nm_or _ 16 48 _ (nm_lt _ _) fun k hk => by
    unfold jb7
    rw [if_neg (by omega), if_neg (by omega), show 16 + k - 16 = k by omega, nm_bit]
    simp [hk]
theorem lay7_step (i : Nat) : st (lay z8 false 0 (16 + 3 * i) (jb7 a b W)) false (16 + 3 * i) 3 (W.getD i 0).toNat = lay z8 false 0 (16 + 3 * (i + 1)) (jb7 a b W) :=
  st_lay z8 _ (16 + 3 * i) 3 _ z8_lt fun k hk => by
    unfold jb7
    rw [if_neg (by omega), if_neg (by omega), pk_index W 3 i k hk, show 16 + 3 * i + k - 16 = i * 3 + k by omega]
theorem lay4_step (i : Nat) : st (lay z8 false 0 (4 * i) (pk W 4)) false (4 * i) 4 (W.getD i 0).toNat = lay z8 false 0 (4 * (i + 1)) (pk W 4) :=
  st_lay z8 _ (4 * i) 4 _ z8_lt fun k hk => by
    rw [pk_index W 4 i k hk, show 4 * i + k = i * 4 + k by omega]
/-- Two bytes and six of 0. -/
theorem lay7_two (ha : 0 ≤ a ∧ a < 256) (hb : 0 ≤ b ∧ b < 256) : [a.toNat, b.toNat, 0, 0, 0, 0, 0, 0] = lay z8 false 0 16 (jb7 a b W) := by
  have ha' : a.toNat < 256 := by omega
  have hb' : b.toNat < 256 := by omega
  refine ext_bits false (by rw [lay_length]; rfl) (fun x hx => ?_) (lay_lt _ _ _ _ _) fun i hi => ?_
  · simp only [List.mem_cons, List.not_mem_nil, or_false] at hx
    omega
  · have hi' : i < 64 := hi
    rw [lay_bit _ _ _ _ _ _ (by show i < 8 * 8; omega)]
    have h8 : i % 8 < 8 := Nat.mod_lt _ (by omega)
    unfold bt jb7 pl
    simp only [Bool.false_eq_true, if_false, Nat.sub_zero]
    by_cases h1 : i < 8
    · rw [if_pos (by omega), if_pos h1, show i / 8 = 0 by omega, show i % 8 = i by omega]
      rfl
    · by_cases h2 : i < 16
      · rw [if_pos (by omega), if_neg h1, if_pos h2, show i / 8 = 1 by omega, show i % 8 = i - 8 by omega]
        rfl
      · rw [if_neg (by omega)]
        have hq : i / 8 = 2 ∨ i / 8 = 3 ∨ i / 8 = 4 ∨ i / 8 = 5 ∨ i / 8 = 6 ∨ i / 8 = 7 := by omega
        rcases hq with q | q | q | q | q | q <;> rw [q] <;> rfl
end
end Go.Proofs.YtnoailihkjccbaaDoor.Bf
set_option linter.all false
namespace Go.Proofs.YtnoailihkjccbaaDoor
open Go.RowKit
open Bi Lv Bc Bf

theorem mix_at (a b : Int) (ha : sm a) (hb : sm b) (k : Nat) (hk : k < 6) (o K O : Int) (ho : sm o) (hK : K = (k : Int) + 1) (hO : O = o) (u : World) :
    Calls Tryd.prog 64 #[.int .i64 a, .int .i64 b, .int .i64 K, .int .i64 O, .int .i64 0] u (fun e w' => e = .returned (.int .i64 (mixV a b ((k : Int) + 1) o 0)) ∧ u = w') := by
  subst hK hO
  exact mix_any a b ((k : Int) + 1) O 0 u ha hb (by unfold sm; omega) ho (by unfold sm; omega)
theorem rmix_at (a b : Int) (ha : sm a) (hb : sm b) (k : Nat) (hk : k < 6) (o K : Int) (ho : sm o) (hK : K = (k : Int) + 1) (u : World) :
    Calls Tryd.prog 55 #[.int .i64 a, .int .i64 b, .int .i64 K, .int .i64 o, .int .i64 0] u (fun e w' => e = .returned (.int .i64 (mixV a b ((k : Int) + 1) o 0)) ∧ u = w') := by
  subst hK
  exact rmix_any a b ((k : Int) + 1) o 0 u ha hb (by unfold sm; omega) ho (by unfold sm; omega)

end Go.Proofs.YtnoailihkjccbaaDoor
set_option linter.all false
namespace Go.Proofs.YtnoailihkjccbaaDoor
open Go.RowKit
open Bi Lv Bc Bf

theorem low_at (A : Option Addr) (c : Nat) (P : Int) (p m : Nat) (hP : P = (p : Int)) (xs : List Nat) (u : World) (h : Bs u u.heap.size A 8 xs) (hm : m ≤ 16) (hp : p + m ≤ 64) :
    Calls Tryd.prog 49 #[.slice A 8 c, .int .i64 P, .int .i64 (m : Int)] u (Got u ((getN xs false p m : Nat) : Int) 0) := by
  subst hP
  exact low_ok A 8 c p m xs u h (by omega) (by omega) (by omega)
theorem yield_byte {w : World} {R : List Res} {F : List (World → Prop)} {ops : Array Oper} {o : Oper} {a : Act} (hw : Region.wanted o (yielded ops a.tmps) = true) {ty : TypeId} {x : Operand} (ho : o.op = .load ty x) {b off P n : Nat} (hx : a.eval x = .pointer (some ⟨b, P, none⟩)) {xs : List Nat} (hm : bsF (some ⟨b, off, none⟩) n xs ∈ F) {i : Nat} (hP : P = off + i) (hi : i < n) {v : Nat} (hv : xs.getD i 0 = v) [A : Scal ty] :
    YieldsIf Tryd.prog ops (Kn w R F) o (.int .u8 (v : Int)) a :=
  .inl ⟨hw, fun u E => by
    obtain ⟨b', off', e, _, hc⟩ := (E.bs hm).2.2 (by omega)
    have hb : b' = b := by injection e with e; injection e with e1 e2 e3; exact e1.symm
    have ho' : off' = off := by injection e with e; injection e with e1 e2 e3; exact e2.symm
    subst hb ho'
    have hcell := hc i hi
    rw [hv, ← hP] at hcell
    unfold execOp
    simp only [ho, hx, Instr.loadAt, Instr.sureAddr, loadVar, Sem.run_bind, Sem.run_pure, run_isAgg_no, Result.andThen_ok, Bool.false_eq_true, if_false, run_load, hcell]⟩

end Go.Proofs.YtnoailihkjccbaaDoor
set_option linter.all false
namespace Go.Proofs.YtnoailihkjccbaaDoor
open Go.RowKit
open Bi Lv Bc Bf

/-- 'make' of eight bytes. -/
theorem kn_make8 {w u : World} {R : List Res} {F : List (World → Prop)} {ops : Array Oper} {rest : List Oper} {o : Oper} {a : Act} {Q : Exit → Act → World → Prop} (E : Kn w R F u) (hgd : o.guard = none) {l c : Operand} (ho : o.op = .makeSlice 22 l c) (hl : a.eval l = .int .i64 8) (hc : a.eval c = .int .i64 8)
    (h : ∀ g u', Kn w (.row g 5 (u8s z8) :: R) F u' → Bs u' u'.heap.size (some ⟨g, 0, none⟩) 8 z8 → wpList Tryd.prog ops Q rest (a.put o.dst (.slice (some ⟨g, 0, none⟩) 8 8)) u') : wpList Tryd.prog ops Q (o :: rest) a u := by
  have hrun := run_make_row' (P := Tryd.prog) 22 5 (.int .u8 0) 1 Tryd.underlying22 info_u8 rfl .i64 .i64 8 (by omega) (by omega) u
  refine wpList_plain hgd fun _ hK => ?_
  unfold Oper.wp execOp
  simp only [ho, hl, hc, Sem.run_bind]
  have hrun' : (Instr.makeSlice 22 (.int .i64 8) (.int .i64 8)).run Tryd.prog u = .ok (.slice (some ⟨u.heap.size, 0, none⟩) 8 8) (u.alloc (.cells (u8s z8).toArray 5)) := by
    rw [show madeCells #[Value.int .u8 0] 8 = (u8s z8).toArray from by kernel_rfl] at hrun
    exact hrun
  simp only [hrun', Result.andThen_ok, Sem.run_pure]
  exact hK _ _ (h _ _ (E.new 5 (u8s z8)) (Blk.bs (t := 5) (Blk.new' u 5 z8) z8_lt 8 rfl))
section
variable {w u : World} {R R' : List Res} {F : List (World → Prop)} {ops : Array Oper} {rest : List Oper} {o : Oper} {a : Act} {Q : Exit → Act → World → Prop}
theorem kn_loadi_if (E : Kn w R F u) (hw : Region.wanted o (yielded ops a.tmps) = true) {ty : TypeId} {x : Operand} (ho : o.op = .load ty x) {g i : Nat} (hx : a.eval x = .pointer (some ⟨g, i, none⟩)) {t : TypeId} {zs : List Int} [Sees R F g t (i64s zs)] [Scal ty] (hi : i < zs.length)
    (h : wpList Tryd.prog ops Q rest (a.put o.dst (.int .i64 (zs.getD i 0))) u) : wpList Tryd.prog ops Q (o :: rest) a u := kn_load_if E hw ho hx (i64s_get zs i hi) h
end

theorem setlow8 (gg N : Nat) (u : World) (hu : Bs u u.heap.size (some ⟨gg, 0, none⟩) 8 z8) (hN : N < 2 ^ 64) : Calls Tryd.prog 20 #[.slice (some ⟨gg, 0, none⟩) 8 8, .int .i64 0, .int .i64 64, .int .u64 (N : Int)] u (Laid u (st z8 false 0 64 N) 0) := by
  have h := setLow_any (some ⟨gg, 0, none⟩) 8 8 0 64 N z8 u hu (by omega) (by omega) hN
  have e0 : setE 8 0 64 N = 0 := by
    unfold setE
    rw [if_pos (by decide), if_pos (show N < 2 ^ Int.toNat 64 from hN)]
  rw [e0] at h
  have e1 : setV z8 false 0 64 N = st z8 false 0 64 N := by
    unfold setV
    rw [if_pos (show setE z8.length 0 64 N = 0 from e0)]
    rfl
  rw [e1] at h
  exact h
end Go.Proofs.YtnoailihkjccbaaDoor
