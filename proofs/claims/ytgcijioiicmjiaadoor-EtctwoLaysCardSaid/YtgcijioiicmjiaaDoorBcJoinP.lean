/- The block of two colours and sixteen indices, as a plain function. -/
import Derived.Test.YtgcijioiicmjiaaDoorG3
set_option linter.all false
namespace Go.Proofs.YtgcijioiicmjiaaDoor.Bc
open Bi Lv

def z8 : List Nat := [0, 0, 0, 0, 0, 0, 0, 0]
theorem z8_lt : ∀ x ∈ z8, x < 256 := by decide
/-- A block's bits. -/
def jb (a b : Int) (W : List Int) (k : Nat) : Bool := if k < 16 then a.toNat.testBit k else if k < 32 then b.toNat.testBit (k - 16) else ((W.getD ((k - 32) / 2) 0).toNat).testBit ((k - 32) % 2)
def jOk (a b : Int) (W : List Int) : Prop := (0 ≤ a ∧ a < 65536) ∧ (0 ≤ b ∧ b < 65536) ∧ ∀ i, i < 16 → 0 ≤ W.getD i 0 ∧ W.getD i 0 < 4
instance (a b : Int) (W : List Int) : Decidable (jOk a b W) := inferInstanceAs (Decidable (_ ∧ _ ∧ _))
def jE (a b : Int) (W : List Int) : Int := if jOk a b W then 0 else 1
def jB (a b : Int) (W : List Int) : List Nat := lay z8 false 0 64 (jb a b W)
def jV (a b : Int) (W : List Int) : List Nat := if jOk a b W then jB a b W else []
theorem jE_ok {a b : Int} {W : List Int} (h : jOk a b W) : jE a b W = 0 := if_pos h
theorem jE_no {a b : Int} {W : List Int} (h : ¬ jOk a b W) : jE a b W = 1 := if_neg h
theorem jV_ok {a b : Int} {W : List Int} (h : jOk a b W) : jV a b W = jB a b W := if_pos h
theorem jV_no {a b : Int} {W : List Int} (h : ¬ jOk a b W) : jV a b W = [] := if_neg h
theorem st_all (g : Nat → Bool) : st z8 false 0 64 (nm g 64) = lay z8 false 0 64 g := by
  rw [← low_lay]
  exact lay_congr z8_lt fun k hk => by rw [nm_bit]; simp [hk]
section
variable {a b : Int} {W : List Int}
end
end Go.Proofs.YtgcijioiicmjiaaDoor.Bc
