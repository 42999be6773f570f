/- BcPlain, LvFirst, LvNear, BcCol, BcBet, BcPal: merged. -/
import Derived.Test.YtgcijioiicmjiaaDoorG2
import Derived.Test.YtgcijioiicmjiaaDoorG1
import Derived.Deep.QuietTactic
import Derived.BigQuiet
import Derived.Below
import Derived.IntWalk
set_option linter.all false
namespace Go.Proofs.YtgcijioiicmjiaaDoor.Bc
open Bi Lv

def rV (n : Int) : Int := wideV (n / 2048) 5
def gV (n : Int) : Int := wideV (n / 32) 6
def bV (n : Int) : Int := wideV n 5
/-- The three numbers of a texel. -/
def p5 (n : Int) : Int := nearV n 5
def p6 (n : Int) : Int := nearV n 6
/-- What stands between two colours. -/
def mx (x y k o : Int) : Int := mixV x y k o 0
/-- The palette. -/
def manyP (a b : Int) (four : Bool) : Prop := four = true ∨ b < a
instance (a b : Int) (four : Bool) : Decidable (manyP a b four) := inferInstanceAs (Decidable (_ ∨ _))
def t3 (x y : Int) (k o : Int) : List Int := [mx (rV x) (rV y) k o, mx (gV x) (gV y) k o, mx (bV x) (bV y) k o, 255]
end Go.Proofs.YtgcijioiicmjiaaDoor.Bc
set_option linter.all false
namespace Go.Proofs.YtgcijioiicmjiaaDoor
open Go.RowKit
open Lv

/-- It answers v, and only draws. -/
def Tells (v : Value) (w : World) (e : Ending) (w' : World) : Prop := e = .returned v ∧ ∃ q, w' = w.drewN q
theorem Tells.below {v : Value} {w : World} {e : Ending} {w' : World} (h : Tells v w e w') : Below w.heap.size w w' := by
  obtain ⟨_, q, rfl⟩ := h
  exact ⟨rfl, rfl, rfl, Nat.le_refl _, fun _ _ => rfl⟩
end Go.Proofs.YtgcijioiicmjiaaDoor
set_option linter.all false
namespace Go.Proofs.YtgcijioiicmjiaaDoor
open Go.RowKit
open Lv

end Go.Proofs.YtgcijioiicmjiaaDoor
set_option linter.all false
namespace Go.Proofs.YtgcijioiicmjiaaDoor
open Go.RowKit
open Bi Lv Bc

theorem or_add (x b y : Nat) (h : y < 2 ^ b) : x * 2 ^ b ||| y = x * 2 ^ b + y := by
  rw [Nat.mul_comm]
  exact (Nat.two_pow_add_eq_or_of_lt h x).symm
end Go.Proofs.YtgcijioiicmjiaaDoor
set_option linter.all false
namespace Go.Proofs.YtgcijioiicmjiaaDoor
open Go.RowKit
open Bi Lv Bc

section
variable {w u : World} {R R' : List Res} {F : List (World → Prop)} {o : Oper} {a : Act} {Q : Exit → Act → World → Prop} {K : Act → World → Prop}
/-- A number into an array of numbers, at the single operation. -/
theorem wp_kn_storei (E : Kn w R F u) {ty : TypeId} {x y : Operand} (ho : o.op = .store ty x y) (hd : o.dst = none) {g i : Nat} (hx : a.eval x = .pointer (some ⟨g, i, none⟩)) {z : Int} (hy : a.eval y = .int .i64 z) {t : TypeId} {zs : List Int} [H : HasRow R g t (i64s zs)] [S : Scal ty] (hi : i < zs.length)
    [T : Turn R (.row g t (i64s zs)) (.row g t (i64s (zs.set i z))) R'] (h : ∀ u', Kn w R' F u' → K a u') : o.wp Tryd.prog a u K Q := by
  have T' : Turn R (.row g t (i64s zs)) (.row g t ((i64s zs).set i (.int .i64 z))) R' := by rw [i64s_set]; exact T
  exact wp_kn_store (T := T') E ho hd hx hy rfl (by rw [i64s_length]; exact hi) h
end

end Go.Proofs.YtgcijioiicmjiaaDoor
set_option linter.all false
namespace Go.Proofs.YtgcijioiicmjiaaDoor
open Go.RowKit
open Bi Lv Bc

namespace Bc
end Bc
end Go.Proofs.YtgcijioiicmjiaaDoor
