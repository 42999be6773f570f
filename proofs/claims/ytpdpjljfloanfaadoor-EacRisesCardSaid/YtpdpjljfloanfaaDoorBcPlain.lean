/- Colour blocks of two colours, as plain functions: colours, palettes, parts, blocks. -/
import Derived.Test.YtpdpjljfloanfaaDoorBitPlain
import Derived.Test.YtpdpjljfloanfaaDoorLvPlain
set_option linter.all false
namespace Go.Proofs.YtpdpjljfloanfaaDoor.Bc
open Bi Lv

theorem wideV_congr {v v' b : Int} (h : v % 2 ^ b.toNat = v' % 2 ^ b.toNat) : wideV v b = wideV v' b := by unfold wideV; rw [h]
def rV (n : Int) : Int := wideV (n / 2048) 5
def gV (n : Int) : Int := wideV (n / 32) 6
def bV (n : Int) : Int := wideV n 5
def colV (n : Int) : List Int := [rV n, gV n, bV n, 255]
theorem rV_mod (n : Int) : wideV (n % 65536 / 2048) 5 = rV n := wideV_congr (by show n % 65536 / 2048 % 32 = n / 2048 % 32; omega)
theorem gV_mod (n : Int) : wideV (n % 65536 / 32) 6 = gV n := wideV_congr (by show n % 65536 / 32 % 64 = n / 32 % 64; omega)
theorem bV_mod (n : Int) : wideV (n % 65536) 5 = bV n := wideV_congr (by show n % 65536 % 32 = n % 32; omega)
theorem rV_bd (n : Int) : 0 ≤ rV n ∧ rV n < 256 := wideV_bd _ _
theorem gV_bd (n : Int) : 0 ≤ gV n ∧ gV n < 256 := wideV_bd _ _
theorem bV_bd (n : Int) : 0 ≤ bV n ∧ bV n < 256 := wideV_bd _ _
/-- The three numbers of a texel. -/
def p5 (n : Int) : Int := nearV n 5
def p6 (n : Int) : Int := nearV n 6
theorem nearV_bd (n : Int) (b : Nat) (h1 : 1 ≤ b) (h8 : b ≤ 8) : 0 ≤ nearV n b ∧ nearV n b < 2 ^ b := by
  have e : nearV n b = (argm (nearC n b) (2 ^ b) : Int) := if_pos ⟨by omega, by omega⟩
  have h := argm_lt (nearC n b) (2 ^ b) (Nat.pow_pos (by omega))
  have e2 : ((2 ^ b : Nat) : Int) = 2 ^ b := by simp
  rw [e]
  omega
theorem p5_bd (n : Int) : 0 ≤ p5 n ∧ p5 n < 32 := nearV_bd n 5 (by omega) (by omega)
theorem p6_bd (n : Int) : 0 ≤ p6 n ∧ p6 n < 64 := nearV_bd n 6 (by omega) (by omega)
def pkV (r g b : Int) : Int := 2048 * p5 r + 32 * p6 g + p5 b
/-- What stands between two colours. -/
def mx (x y k o : Int) : Int := mixV x y k o 0
def betV (a b : List Int) (k o : Int) : List Int := [mx (a.getD 0 0) (b.getD 0 0) k o, mx (a.getD 1 0) (b.getD 1 0) k o, mx (a.getD 2 0) (b.getD 2 0) k o, mx (a.getD 3 0) (b.getD 3 0) k o]
/-- The first c of its four numbers, the others as they were. -/
def betP (a b z : List Int) (k o : Int) (c : Nat) : List Int := (List.range 4).map fun j => if j < c then mx (a.getD j 0) (b.getD j 0) k o else z.getD j 0
theorem betP_length (a b z : List Int) (k o : Int) (c : Nat) : (betP a b z k o c).length = 4 := by simp [betP]
theorem betP_zero (a b z : List Int) (k o : Int) (hz : z.length = 4) : betP a b z k o 0 = z := by
  match z, hz with
  | [z0, z1, z2, z3], _ => rfl
theorem betP_set (a b z : List Int) (k o : Int) (c : Nat) (_ : c < 4) : (betP a b z k o c).set c (mx (a.getD c 0) (b.getD c 0) k o) = betP a b z k o (c + 1) := by
  refine List.ext_getElem? fun i => ?_
  simp only [betP, List.getElem?_set, List.length_map, List.length_range, List.getElem?_map]
  by_cases e : c = i
  · subst e
    rw [if_pos rfl, if_pos (by omega), List.getElem?_range (by omega)]
    simp
  · rw [if_neg e]
    by_cases hi : i < 4
    · rw [List.getElem?_range hi]
      simp only [Option.map_some]
      by_cases h : i < c
      · rw [if_pos h, if_pos (by omega)]
      · rw [if_neg h, if_neg (by omega)]
    · rw [List.getElem?_eq_none (by simp; omega)]
      simp
theorem betP_four (a b z : List Int) (k o : Int) : betP a b z k o 4 = betV a b k o := rfl
theorem betP_three (a b z : List Int) (k o : Int) : betP a b z k o 3 = [mx (a.getD 0 0) (b.getD 0 0) k o, mx (a.getD 1 0) (b.getD 1 0) k o, mx (a.getD 2 0) (b.getD 2 0) k o, z.getD 3 0] := rfl
theorem mx255 (k o : Int) (ho : 1 ≤ o) : mx 255 255 k o = 255 := by
  unfold mx mixV
  rw [if_neg (by omega), show 255 * (o - k) + 255 * k + 0 = 255 * o from by rw [Int.mul_sub]; omega]
  exact Int.mul_ediv_cancel 255 (by omega)
/-- The palette. -/
def manyP (a b : Int) (four : Bool) : Prop := four = true ∨ b < a
instance (a b : Int) (four : Bool) : Decidable (manyP a b four) := inferInstanceAs (Decidable (_ ∨ _))
def t3 (x y : Int) (k o : Int) : List Int := [mx (rV x) (rV y) k o, mx (gV x) (gV y) k o, mx (bV x) (bV y) k o, 255]
def palV (a b : Int) (four : Bool) : List Int := if manyP a b four then colV a ++ colV b ++ t3 a b 1 3 ++ t3 a b 2 3 else colV a ++ colV b ++ t3 a b 1 2 ++ [0, 0, 0, 0]
theorem palV_length (a b : Int) (four : Bool) : (palV a b four).length = 16 := by unfold palV; split <;> rfl
theorem bet_col (x y k o : Int) (ho : 1 ≤ o) : betV (colV x) (colV y) k o = t3 x y k o := by
  show [mx (rV x) (rV y) k o, mx (gV x) (gV y) k o, mx (bV x) (bV y) k o, mx 255 255 k o] = _
  rw [mx255 k o ho]
  rfl
end Go.Proofs.YtpdpjljfloanfaaDoor.Bc
