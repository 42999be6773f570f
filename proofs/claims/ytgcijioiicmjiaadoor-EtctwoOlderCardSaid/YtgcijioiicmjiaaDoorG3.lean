/- BcPlain, LvFirst, LvNear, BcCol, BcBet, BcPal: merged. -/
import Derived.Test.YtgcijioiicmjiaaDoorG2
import Derived.Test.YtgcijioiicmjiaaDoorG1
import Derived.Deep.QuietTactic
import Derived.BigQuiet
import Derived.Below
import Derived.IntWalk
set_option linter.all false
namespace Go.Proofs.YtgcijioiicmjiaaDoor.Bc
open Bi Lv

theorem wideV_congr {v v' b : Int} (h : v % 2 ^ b.toNat = v' % 2 ^ b.toNat) : wideV v b = wideV v' b := by unfold wideV; rw [h]
def rV (n : Int) : Int := wideV (n / 2048) 5
def gV (n : Int) : Int := wideV (n / 32) 6
def bV (n : Int) : Int := wideV n 5
def colV (n : Int) : List Int := [rV n, gV n, bV n, 255]
theorem rV_mod (n : Int) : wideV (n % 65536 / 2048) 5 = rV n := wideV_congr (by show n % 65536 / 2048 % 32 = n / 2048 % 32; omega)
theorem gV_mod (n : Int) : wideV (n % 65536 / 32) 6 = gV n := wideV_congr (by show n % 65536 / 32 % 64 = n / 32 % 64; omega)
theorem bV_mod (n : Int) : wideV (n % 65536) 5 = bV n := wideV_congr (by show n % 65536 % 32 = n % 32; omega)
theorem rV_bd (n : Int) : 0 ≤ rV n ∧ rV n < 256 := wideV_bd _ _
theorem gV_bd (n : Int) : 0 ≤ gV n ∧ gV n < 256 := wideV_bd _ _
theorem bV_bd (n : Int) : 0 ≤ bV n ∧ bV n < 256 := wideV_bd _ _
/-- The three numbers of a texel. -/
def p5 (n : Int) : Int := nearV n 5
def p6 (n : Int) : Int := nearV n 6
theorem nearV_bd (n : Int) (b : Nat) (h1 : 1 ≤ b) (h8 : b ≤ 8) : 0 ≤ nearV n b ∧ nearV n b < 2 ^ b := by
  have e : nearV n b = (argm (nearC n b) (2 ^ b) : Int) := if_pos ⟨by omega, by omega⟩
  have h := argm_lt (nearC n b) (2 ^ b) (Nat.pow_pos (by omega))
  have e2 : ((2 ^ b : Nat) : Int) = 2 ^ b := by simp
  rw [e]
  omega
theorem p5_bd (n : Int) : 0 ≤ p5 n ∧ p5 n < 32 := nearV_bd n 5 (by omega) (by omega)
theorem p6_bd (n : Int) : 0 ≤ p6 n ∧ p6 n < 64 := nearV_bd n 6 (by omega) (by omega)
def pkV (r g b : Int) : Int := 2048 * p5 r + 32 * p6 g + p5 b
/-- What stands between two colours. -/
def mx (x y k o : Int) : Int := mixV x y k o 0
def betV (a b : List Int) (k o : Int) : List Int := [mx (a.getD 0 0) (b.getD 0 0) k o, mx (a.getD 1 0) (b.getD 1 0) k o, mx (a.getD 2 0) (b.getD 2 0) k o, mx (a.getD 3 0) (b.getD 3 0) k o]
/-- The first c of its four numbers, the others as they were. -/
def betP (a b z : List Int) (k o : Int) (c : Nat) : List Int := (List.range 4).map fun j => if j < c then mx (a.getD j 0) (b.getD j 0) k o else z.getD j 0
theorem betP_length (a b z : List Int) (k o : Int) (c : Nat) : (betP a b z k o c).length = 4 := by simp [betP]
theorem betP_zero (a b z : List Int) (k o : Int) (hz : z.length = 4) : betP a b z k o 0 = z := by
  match z, hz with
  | [z0, z1, z2, z3], _ => rfl
theorem betP_set (a b z : List Int) (k o : Int) (c : Nat) (_ : c < 4) : (betP a b z k o c).set c (mx (a.getD c 0) (b.getD c 0) k o) = betP a b z k o (c + 1) := by
  refine List.ext_getElem? fun i => ?_
  simp only [betP, List.getElem?_set, List.length_map, List.length_range, List.getElem?_map]
  by_cases e : c = i
  · subst e
    rw [if_pos rfl, if_pos (by omega), List.getElem?_range (by omega)]
    simp
  · rw [if_neg e]
    by_cases hi : i < 4
    · rw [List.getElem?_range hi]
      simp only [Option.map_some]
      by_cases h : i < c
      · rw [if_pos h, if_pos (by omega)]
      · rw [if_neg h, if_neg (by omega)]
    · rw [List.getElem?_eq_none (by simp; omega)]
      simp
theorem betP_four (a b z : List Int) (k o : Int) : betP a b z k o 4 = betV a b k o := rfl
theorem betP_three (a b z : List Int) (k o : Int) : betP a b z k o 3 = [mx (a.getD 0 0) (b.getD 0 0) k o, mx (a.getD 1 0) (b.getD 1 0) k o, mx (a.getD 2 0) (b.getD 2 0) k o, z.getD 3 0] := rfl
theorem mx255 (k o : Int) (ho : 1 ≤ o) : mx 255 255 k o = 255 := by
  unfold mx mixV
  rw [if_neg (by omega), show 255 * (o - k) + 255 * k + 0 = 255 * o from by rw [Int.mul_sub]; omega]
  exact Int.mul_ediv_cancel 255 (by omega)
/-- The palette. -/
def manyP (a b : Int) (four : Bool) : Prop := four = true ∨ b < a
instance (a b : Int) (four : Bool) : Decidable (manyP a b four) := inferInstanceAs (Decidable (_ ∨ _))
def t3 (x y : Int) (k o : Int) : List Int := [mx (rV x) (rV y) k o, mx (gV x) (gV y) k o, mx (bV x) (bV y) k o, 255]
def palV (a b : Int) (four : Bool) : List Int := if manyP a b four then colV a ++ colV b ++ t3 a b 1 3 ++ t3 a b 2 3 else colV a ++ colV b ++ t3 a b 1 2 ++ [0, 0, 0, 0]
theorem palV_length (a b : Int) (four : Bool) : (palV a b four).length = 16 := by unfold palV; split <;> rfl
theorem bet_col (x y k o : Int) (ho : 1 ≤ o) : betV (colV x) (colV y) k o = t3 x y k o := by
  show [mx (rV x) (rV y) k o, mx (gV x) (gV y) k o, mx (bV x) (bV y) k o, mx 255 255 k o] = _
  rw [mx255 k o ho]
  rfl
end Go.Proofs.YtgcijioiicmjiaaDoor.Bc
set_option linter.all false
namespace Go.Proofs.YtgcijioiicmjiaaDoor
open Go.RowKit
open Lv

/-- It answers v, and only draws. -/
def Tells (v : Value) (w : World) (e : Ending) (w' : World) : Prop := e = .returned v ∧ ∃ q, w' = w.drewN q
theorem Tells.below {v : Value} {w : World} {e : Ending} {w' : World} (h : Tells v w e w') : Below w.heap.size w w' := by
  obtain ⟨_, q, rfl⟩ := h
  exact ⟨rfl, rfl, rfl, Nat.le_refl _, fun _ _ => rfl⟩
theorem quiet_same {P : Program} {f : FuncId} {args : Array Value} {w : World} {n : Nat} {v : Value}
    (h : Calls P f args (w.drewN n) fun e w' => e = .returned v ∧ w.drewN n = w') : Calls P f args (w.drewN n) fun e w'' => e = .returned v ∧ ∃ m, w'' = w.drewN m :=
  h.mono fun _ _ ⟨he, hm⟩ => ⟨he, n, hm.symm⟩

end Go.Proofs.YtgcijioiicmjiaaDoor
set_option linter.all false
namespace Go.Proofs.YtgcijioiicmjiaaDoor
open Go.RowKit
open Lv

/-- Two boxes, one after the other. -/
theorem two_cells (w : World) (x y : Value) (t u : TypeId) : ((w.alloc (.cells #[x] t)).alloc (.cells #[y] u)).cell? ⟨w.heap.size, 0, none⟩ = some x ∧ ((w.alloc (.cells #[x] t)).alloc (.cells #[y] u)).cell? ⟨w.heap.size + 1, 0, none⟩ = some y := by
  constructor
  · have h : Row ((w.alloc (.cells #[x] t)).alloc (.cells #[y] u)) w.heap.size t [x] := (Below.heap_alloc _ _ _ (by simp)).trans (Row.new w t [x])
    exact h.cell 0 x rfl
  · have h := Row.new (w.alloc (.cells #[x] t)) u [y]
    rw [World.size_alloc] at h
    exact h.cell 0 y rfl
theorem two_below (w : World) (x y : Value) (t u : TypeId) (r : Nat) : Below w.heap.size w (((w.alloc (.cells #[x] t)).alloc (.cells #[y] u)).drewN r) :=
  (((Below.refl w.heap.size w).alloc (Nat.le_refl _) _).alloc (by simp) _).trans ⟨rfl, rfl, rfl, Nat.le_refl _, fun _ _ => rfl⟩

end Go.Proofs.YtgcijioiicmjiaaDoor
set_option linter.all false
namespace Go.Proofs.YtgcijioiicmjiaaDoor
open Go.RowKit
open Bi Lv Bc

theorem or_add (x b y : Nat) (h : y < 2 ^ b) : x * 2 ^ b ||| y = x * 2 ^ b + y := by
  rw [Nat.mul_comm]
  exact (Nat.two_pow_add_eq_or_of_lt h x).symm
/-- Three small numbers side by side. -/
theorem pk_or (x y z : Int) (hx : 0 ≤ x ∧ x < 32) (hy : 0 ≤ y ∧ y < 64) (hz : 0 ≤ z ∧ z < 32) :
    bits .or .i64 (bits .or .i64 (IntKind.i64.wrap (x * 2048)) (IntKind.i64.wrap (y * 32))) z = 2048 * x + 32 * y + z := by
  obtain ⟨a, rfl⟩ := Int.eq_ofNat_of_zero_le hx.1
  obtain ⟨b, rfl⟩ := Int.eq_ofNat_of_zero_le hy.1
  obtain ⟨c, rfl⟩ := Int.eq_ofNat_of_zero_le hz.1
  rw [IntWalk.i64_in ((a : Int) * 2048) (by omega), IntWalk.i64_in ((b : Int) * 32) (by omega)]
  rw [show (a : Int) * 2048 = ((a * 2 ^ 11 : Nat) : Int) from by simp, show (b : Int) * 32 = ((b * 2 ^ 5 : Nat) : Int) from by simp]
  have o1 : a * 2 ^ 11 ||| b * 2 ^ 5 = (a * 64 + b) * 2 ^ 5 := by
    rw [or_add a 11 (b * 2 ^ 5) (by omega)]; omega
  have o2 : (a * 64 + b) * 2 ^ 5 ||| c = (a * 64 + b) * 2 ^ 5 + c := or_add _ 5 c (by omega)
  rw [i64_or_nat _ _ (by omega) (by omega), o1, i64_or_nat _ _ (by omega) (by omega), o2]
  omega

end Go.Proofs.YtgcijioiicmjiaaDoor
set_option linter.all false
namespace Go.Proofs.YtgcijioiicmjiaaDoor
open Go.RowKit
open Bi Lv Bc

section
variable {w u : World} {R R' : List Res} {F : List (World → Prop)} {o : Oper} {a : Act} {Q : Exit → Act → World → Prop} {K : Act → World → Prop}
/-- A number into an array of numbers, at the single operation. -/
theorem wp_kn_storei (E : Kn w R F u) {ty : TypeId} {x y : Operand} (ho : o.op = .store ty x y) (hd : o.dst = none) {g i : Nat} (hx : a.eval x = .pointer (some ⟨g, i, none⟩)) {z : Int} (hy : a.eval y = .int .i64 z) {t : TypeId} {zs : List Int} [H : HasRow R g t (i64s zs)] [S : Scal ty] (hi : i < zs.length)
    [T : Turn R (.row g t (i64s zs)) (.row g t (i64s (zs.set i z))) R'] (h : ∀ u', Kn w R' F u' → K a u') : o.wp Tryd.prog a u K Q := by
  have T' : Turn R (.row g t (i64s zs)) (.row g t ((i64s zs).set i (.int .i64 z))) R' := by rw [i64s_set]; exact T
  exact wp_kn_store (T := T') E ho hd hx hy rfl (by rw [i64s_length]; exact hi) h
end

end Go.Proofs.YtgcijioiicmjiaaDoor
set_option linter.all false
namespace Go.Proofs.YtgcijioiicmjiaaDoor
open Go.RowKit
open Bi Lv Bc

namespace Bc
theorem colV_sm (n : Int) (i : Nat) : sm ((colV n).getD i 0) := by
  have h1 := rV_bd n; have h2 := gV_bd n; have h3 := bV_bd n
  match i with
  | 0 => show sm (rV n); unfold sm; omega
  | 1 => show sm (gV n); unfold sm; omega
  | 2 => show sm (bV n); unfold sm; omega
  | 3 => show sm 255; unfold sm; omega
  | i + 4 => show sm 0; unfold sm; omega
end Bc
theorem palV_many {a b : Int} {four : Bool} (h : manyP a b four) : palV a b four = colV a ++ colV b ++ t3 a b 1 3 ++ t3 a b 2 3 := if_pos h
theorem palV_few {a b : Int} {four : Bool} (h : ¬ manyP a b four) : palV a b four = colV a ++ colV b ++ t3 a b 1 2 ++ [0, 0, 0, 0] := if_neg h
theorem built_many (a b : Int) (u : World) : (Instr.build 69 #[(0, arr (colV a)), (1, arr (colV b)), (2, arr (t3 a b 1 3)), (3, arr (t3 a b 2 3))]).run Tryd.prog u = .ok (arr (colV a ++ colV b ++ t3 a b 1 3 ++ t3 a b 2 3)) u := run_build u _ _ _ (by kernel_rfl)
theorem built_three (a b : Int) (u : World) : (Instr.build 69 #[(0, arr (colV a)), (1, arr (colV b)), (2, arr (t3 a b 1 2))]).run Tryd.prog u = .ok (arr (colV a ++ colV b ++ t3 a b 1 2 ++ [0, 0, 0, 0])) u := run_build u _ _ _ (by kernel_rfl)
theorem built_few (a b : Int) (u : World) : (Instr.build 69 #[(0, arr (colV a)), (1, arr (colV b)), (2, arr (t3 a b 1 2)), (3, arr [0, 0, 0, 0])]).run Tryd.prog u = .ok (arr (colV a ++ colV b ++ t3 a b 1 2 ++ [0, 0, 0, 0])) u := run_build u _ _ _ (by kernel_rfl)
theorem built_tex0 (u : World) : (Instr.build 25 #[]).run Tryd.prog u = .ok (arr [0, 0, 0, 0]) u := run_build u _ _ _ (by kernel_rfl)
theorem yield_build {S : World → Prop} {ops : Array Oper} {o : Oper} {a : Act} (hw : Region.wanted o (yielded ops a.tmps) = true) {ty : TypeId} {parts : Array (Nat × Operand)} (ho : o.op = .build ty parts) {ps : Array (Nat × Value)} {v : Value} (hb : ∀ u, (Instr.build ty ps).run Tryd.prog u = .ok v u) (hps : parts.map (fun p => (p.1, a.eval p.2)) = ps) :
    YieldsIf Tryd.prog ops S o v a :=
  .inl ⟨hw, fun u _ => by
    unfold execOp
    simp only [ho, hps, hb, Sem.run_bind, Sem.run_pure, Result.andThen_ok]⟩

end Go.Proofs.YtgcijioiicmjiaaDoor
