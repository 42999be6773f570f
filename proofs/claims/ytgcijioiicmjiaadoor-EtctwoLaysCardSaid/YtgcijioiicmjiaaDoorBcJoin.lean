/- The block of two colours and sixteen indices: the program's and the reference's. -/
import Derived.Test.YtgcijioiicmjiaaDoorBcJoinP
import Derived.Test.YtgcijioiicmjiaaDoorG5
import Derived.Test.YtgcijioiicmjiaaDoorG4
import Derived.Deep.OwnRows
set_option linter.all false
namespace Go.Proofs.YtgcijioiicmjiaaDoor
open Go.RowKit
open Bi Lv Bc

/-- 'make' of eight bytes. -/
theorem kn_make8 {w u : World} {R : List Res} {F : List (World → Prop)} {ops : Array Oper} {rest : List Oper} {o : Oper} {a : Act} {Q : Exit → Act → World → Prop} (E : Kn w R F u) (hgd : o.guard = none) {l c : Operand} (ho : o.op = .makeSlice 22 l c) (hl : a.eval l = .int .i64 8) (hc : a.eval c = .int .i64 8)
    (h : ∀ g u', Kn w (.row g 5 (u8s z8) :: R) F u' → Bs u' u'.heap.size (some ⟨g, 0, none⟩) 8 z8 → wpList Tryd.prog ops Q rest (a.put o.dst (.slice (some ⟨g, 0, none⟩) 8 8)) u') : wpList Tryd.prog ops Q (o :: rest) a u := by
  have hrun := run_make_row' (P := Tryd.prog) 22 5 (.int .u8 0) 1 Tryd.underlying22 info_u8 rfl .i64 .i64 8 (by omega) (by omega) u
  refine wpList_plain hgd fun _ hK => ?_
  unfold Oper.wp execOp
  simp only [ho, hl, hc, Sem.run_bind]
  have hrun' : (Instr.makeSlice 22 (.int .i64 8) (.int .i64 8)).run Tryd.prog u = .ok (.slice (some ⟨u.heap.size, 0, none⟩) 8 8) (u.alloc (.cells (u8s z8).toArray 5)) := by
    rw [show madeCells #[Value.int .u8 0] 8 = (u8s z8).toArray from by kernel_rfl] at hrun
    exact hrun
  simp only [hrun', Result.andThen_ok, Sem.run_pure]
  exact hK _ _ (h _ _ (E.new 5 (u8s z8)) (Blk.bs (t := 5) (Blk.new' u 5 z8) z8_lt 8 rfl))

/-! The reference's. -/
section
variable {w u : World} {R R' : List Res} {F : List (World → Prop)} {ops : Array Oper} {rest : List Oper} {o : Oper} {a : Act} {Q : Exit → Act → World → Prop}
theorem kn_loadi_if (E : Kn w R F u) (hw : Region.wanted o (yielded ops a.tmps) = true) {ty : TypeId} {x : Operand} (ho : o.op = .load ty x) {g i : Nat} (hx : a.eval x = .pointer (some ⟨g, i, none⟩)) {t : TypeId} {zs : List Int} [Sees R F g t (i64s zs)] [Scal ty] (hi : i < zs.length)
    (h : wpList Tryd.prog ops Q rest (a.put o.dst (.int .i64 (zs.getD i 0))) u) : wpList Tryd.prog ops Q (o :: rest) a u := kn_load_if E hw ho hx (i64s_get zs i hi) h
end

end Go.Proofs.YtgcijioiicmjiaaDoor
