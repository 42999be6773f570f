/- The palette of two colours: the program's and the reference's. -/
import Derived.Test.YtpdpjljfloanfaaDoorBcBet
set_option linter.all false
namespace Go.Proofs.YtpdpjljfloanfaaDoor
open Go.RowKit
open Bi Lv Bc

namespace Bc
theorem colV_sm (n : Int) (i : Nat) : sm ((colV n).getD i 0) := by
  have h1 := rV_bd n; have h2 := gV_bd n; have h3 := bV_bd n
  match i with
  | 0 => show sm (rV n); unfold sm; omega
  | 1 => show sm (gV n); unfold sm; omega
  | 2 => show sm (bV n); unfold sm; omega
  | 3 => show sm 255; unfold sm; omega
  | i + 4 => show sm 0; unfold sm; omega
end Bc
theorem palV_many {a b : Int} {four : Bool} (h : manyP a b four) : palV a b four = colV a ++ colV b ++ t3 a b 1 3 ++ t3 a b 2 3 := if_pos h
theorem palV_few {a b : Int} {four : Bool} (h : ¬ manyP a b four) : palV a b four = colV a ++ colV b ++ t3 a b 1 2 ++ [0, 0, 0, 0] := if_neg h
theorem yield_build {S : World → Prop} {ops : Array Oper} {o : Oper} {a : Act} (hw : Region.wanted o (yielded ops a.tmps) = true) {ty : TypeId} {parts : Array (Nat × Operand)} (ho : o.op = .build ty parts) {ps : Array (Nat × Value)} {v : Value} (hb : ∀ u, (Instr.build ty ps).run Tryd.prog u = .ok v u) (hps : parts.map (fun p => (p.1, a.eval p.2)) = ps) :
    YieldsIf Tryd.prog ops S o v a :=
  .inl ⟨hw, fun u _ => by
    unfold execOp
    simp only [ho, hps, hb, Sem.run_bind, Sem.run_pure, Result.andThen_ok]⟩

end Go.Proofs.YtpdpjljfloanfaaDoor
