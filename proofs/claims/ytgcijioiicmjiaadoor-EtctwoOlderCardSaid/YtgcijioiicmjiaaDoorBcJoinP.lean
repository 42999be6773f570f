/- The block of two colours and sixteen indices, as a plain function. -/
import Derived.Test.YtgcijioiicmjiaaDoorG3
set_option linter.all false
namespace Go.Proofs.YtgcijioiicmjiaaDoor.Bc
open Bi Lv

def z8 : List Nat := [0, 0, 0, 0, 0, 0, 0, 0]
theorem z8_lt : ∀ x ∈ z8, x < 256 := by decide
/-- A block's bits. -/
def jb (a b : Int) (W : List Int) (k : Nat) : Bool := if k < 16 then a.toNat.testBit k else if k < 32 then b.toNat.testBit (k - 16) else ((W.getD ((k - 32) / 2) 0).toNat).testBit ((k - 32) % 2)
def jOk (a b : Int) (W : List Int) : Prop := (0 ≤ a ∧ a < 65536) ∧ (0 ≤ b ∧ b < 65536) ∧ ∀ i, i < 16 → 0 ≤ W.getD i 0 ∧ W.getD i 0 < 4
instance (a b : Int) (W : List Int) : Decidable (jOk a b W) := inferInstanceAs (Decidable (_ ∧ _ ∧ _))
def jE (a b : Int) (W : List Int) : Int := if jOk a b W then 0 else 1
def jB (a b : Int) (W : List Int) : List Nat := lay z8 false 0 64 (jb a b W)
def jV (a b : Int) (W : List Int) : List Nat := if jOk a b W then jB a b W else []
theorem jE_ok {a b : Int} {W : List Int} (h : jOk a b W) : jE a b W = 0 := if_pos h
theorem jE_no {a b : Int} {W : List Int} (h : ¬ jOk a b W) : jE a b W = 1 := if_neg h
theorem jV_ok {a b : Int} {W : List Int} (h : jOk a b W) : jV a b W = jB a b W := if_pos h
theorem jV_no {a b : Int} {W : List Int} (h : ¬ jOk a b W) : jV a b W = [] := if_neg h
theorem mul_bit (x p k : Nat) : (x * 2 ^ p).testBit k = (decide (p ≤ k) && x.testBit (k - p)) := by
  rw [← Nat.shiftLeft_eq, Nat.testBit_shiftLeft]
theorem nm_or (g : Nat → Bool) (p m x : Nat) (hx : x < 2 ^ m) (h : ∀ k, k < m → x.testBit k = g (p + k)) : nm g p ||| x * 2 ^ p = nm g (p + m) := by
  apply Nat.eq_of_testBit_eq
  intro k
  rw [Nat.testBit_or, nm_bit, nm_bit, mul_bit]
  by_cases h1 : k < p
  · simp [h1, show k < p + m by omega, show ¬ p ≤ k by omega]
  · by_cases h2 : k < p + m
    · have := h (k - p) (by omega)
      rw [show p + (k - p) = k by omega] at this
      simp [h1, h2, show p ≤ k by omega, this]
    · have hz : x.testBit (k - p) = false := Nat.testBit_lt_two_pow (Nat.lt_of_lt_of_le hx (Nat.pow_le_pow_right (by omega) (by omega)))
      simp [h1, h2, hz]
theorem st_lay (z : List Nat) (g : Nat → Bool) (p m N : Nat) (hz : ∀ x ∈ z, x < 256) (h : ∀ k, k < m → N.testBit k = g (p + k)) : st (lay z false 0 p g) false p m N = lay z false 0 (p + m) g := by
  have hl : (lay z false 0 p g).length = z.length := lay_length _ _ _ _ _
  refine ext_bits false (by unfold st; rw [lay_length, hl, lay_length]) (lay_lt _ _ _ _ _) (lay_lt _ _ _ _ _) fun i hi => ?_
  have hi' : i < 8 * z.length := by unfold st at hi; rwa [lay_length, hl] at hi
  unfold st
  rw [lay_bit _ _ _ _ _ _ (by rw [hl]; exact hi'), lay_bit _ _ _ _ _ _ hi', lay_bit _ _ _ _ _ _ hi']
  by_cases h1 : p ≤ i ∧ i < p + m
  · rw [if_pos h1]
    simp only [Bool.false_eq_true, if_false]
    rw [if_pos (by omega)]
    have := h (i - p) (by omega)
    rw [show p + (i - p) = i by omega] at this
    simpa using this
  · rw [if_neg h1]
    by_cases h2 : i < p
    · rw [if_pos (by omega), if_pos (by omega)]
    · rw [if_neg (by omega), if_neg (by omega)]
theorem st_all (g : Nat → Bool) : st z8 false 0 64 (nm g 64) = lay z8 false 0 64 g := by
  rw [← low_lay]
  exact lay_congr z8_lt fun k hk => by rw [nm_bit]; simp [hk]
section
variable {a b : Int} {W : List Int}
theorem nat_lt {a : Int} {k : Nat} (h : 0 ≤ a ∧ a < 2 ^ k) : a.toNat < 2 ^ k := by
  have e : ((2 ^ k : Nat) : Int) = 2 ^ k := by simp
  omega
theorem jb_first (ha : 0 ≤ a ∧ a < 65536) : nm (jb a b W) 16 = a.toNat := by
  have h := nat_lt (k := 16) ha
  exact (nm_eq h fun k hk => by simp [jb, hk]).symm
theorem jb_second (ha : 0 ≤ a ∧ a < 65536) (hb : 0 ≤ b ∧ b < 65536) : a.toNat ||| b.toNat * 2 ^ 16 = nm (jb a b W) 32 := by
  rw [← jb_first (b := b) (W := W) ha]
  exact nm_or _ 16 16 _ (nat_lt (k := 16) hb) fun k hk => by
    unfold jb
    rw [if_neg (by omega), if_pos (by omega), show 16 + k - 16 = k by omega]
theorem jb_index (i k : Nat) (hk : k < 2) : (W.getD i 0).toNat.testBit k = jb a b W (32 + 2 * i + k) := by
  unfold jb
  rw [if_neg (by omega), if_neg (by omega), show (32 + 2 * i + k - 32) / 2 = i by omega, show (32 + 2 * i + k - 32) % 2 = k by omega]
theorem jb_step (i : Nat) (hw : 0 ≤ W.getD i 0 ∧ W.getD i 0 < 4) : nm (jb a b W) (32 + 2 * i) ||| (W.getD i 0).toNat * 2 ^ (32 + 2 * i) = nm (jb a b W) (32 + 2 * (i + 1)) :=
  nm_or _ (32 + 2 * i) 2 _ (nat_lt (k := 2) hw) (jb_index i)
theorem lay_first : st z8 false 0 16 a.toNat = lay z8 false 0 16 (jb a b W) := by
  rw [← low_lay]
  exact lay_congr z8_lt fun k hk => by simp [jb, hk]
theorem lay_second : st (lay z8 false 0 16 (jb a b W)) false 16 16 b.toNat = lay z8 false 0 32 (jb a b W) :=
  st_lay z8 _ 16 16 _ z8_lt fun k hk => by
    unfold jb
    rw [if_neg (by omega), if_pos (by omega), show 16 + k - 16 = k by omega]
theorem lay_step (i : Nat) : st (lay z8 false 0 (32 + 2 * i) (jb a b W)) false (32 + 2 * i) 2 (W.getD i 0).toNat = lay z8 false 0 (32 + 2 * (i + 1)) (jb a b W) :=
  st_lay z8 _ (32 + 2 * i) 2 _ z8_lt (jb_index i)
end
end Go.Proofs.YtgcijioiicmjiaaDoor.Bc
