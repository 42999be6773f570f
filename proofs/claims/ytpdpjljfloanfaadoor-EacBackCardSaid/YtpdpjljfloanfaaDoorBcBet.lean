/- What stands between two colours, and the palette of two: the program's and the reference's. -/
import Derived.Test.YtpdpjljfloanfaaDoorBcCol
set_option linter.all false
namespace Go.Proofs.YtpdpjljfloanfaaDoor
open Go.RowKit
open Bi Lv Bc

section
variable {w u : World} {R R' : List Res} {F : List (World → Prop)} {o : Oper} {a : Act} {Q : Exit → Act → World → Prop} {K : Act → World → Prop}
/-- A number into an array of numbers, at the single operation. -/
theorem wp_kn_storei (E : Kn w R F u) {ty : TypeId} {x y : Operand} (ho : o.op = .store ty x y) (hd : o.dst = none) {g i : Nat} (hx : a.eval x = .pointer (some ⟨g, i, none⟩)) {z : Int} (hy : a.eval y = .int .i64 z) {t : TypeId} {zs : List Int} [H : HasRow R g t (i64s zs)] [S : Scal ty] (hi : i < zs.length)
    [T : Turn R (.row g t (i64s zs)) (.row g t (i64s (zs.set i z))) R'] (h : ∀ u', Kn w R' F u' → K a u') : o.wp Tryd.prog a u K Q := by
  have T' : Turn R (.row g t (i64s zs)) (.row g t ((i64s zs).set i (.int .i64 z))) R' := by rw [i64s_set]; exact T
  exact wp_kn_store (T := T') E ho hd hx hy rfl (by rw [i64s_length]; exact hi) h
end

end Go.Proofs.YtpdpjljfloanfaaDoor
