/- The document's Decode: what its walk needs of blocks. -/
import Derived.Test.YtnoailihkjccbaaDoorB7Rtake
set_option linter.all false
namespace Go.Proofs.YtnoailihkjccbaaDoor
open Go.RowKit
open Bi Lv Bt B7

instance : Scal 60 := ⟨⟨_, Tryd.underlying60, rfl⟩, by kernel_rfl⟩
theorem info_tx : ((Tryd.prog.info? 25).map fun i => (i.zero.map (·.cells), i.size, i.bytes)) = some (some (i64s [0, 0, 0, 0]).toArray, 4, 32) := by kernel_rfl
theorem made_tx : ∀ n, n ≤ 6 → madeCells (i64s [0, 0, 0, 0]).toArray (n * 4) = (i64s (List.replicate (n * 4) 0)).toArray := by
  intro n hn
  obtain rfl | rfl | rfl | rfl | rfl | rfl | rfl : n = 0 ∨ n = 1 ∨ n = 2 ∨ n = 3 ∨ n = 4 ∨ n = 5 ∨ n = 6 := by omega
  all_goals kernel_rfl
/-- 'make' of some texels. -/
theorem kn_maketx {w u : World} {R : List Res} {F : List (World → Prop)} {ops : Array Oper} {rest : List Oper} {o : Oper} {a : Act} {Q : Exit → Act → World → Prop} (E : Kn w R F u) (hgd : o.guard = none) {l c : Operand} (ho : o.op = .makeSlice 60 l c) {n : Nat} (hl : a.eval l = .int .i64 (n : Int)) (hc : a.eval c = .int .i64 (n : Int)) (hn : n ≤ 6)
    (h : ∀ g u', Kn w (.row g 25 (i64s (List.replicate (n * 4) 0)) :: R) F u' → wpList Tryd.prog ops Q rest (a.put o.dst (.slice (some ⟨g, 0, none⟩) n n)) u') : wpList Tryd.prog ops Q (o :: rest) a u := by
  have hi := info_tx
  cases hie : Tryd.prog.info? 25 with
  | none => simp [hie] at hi
  | some ie =>
    cases hz : ie.zero with
    | none => simp [hie, hz] at hi
    | some z =>
      simp only [hie, hz, Option.map_some, Option.some.injEq, Prod.mk.injEq] at hi
      obtain ⟨h1, h2, h3⟩ := hi
      have hrun := run_makeSlice (P := Tryd.prog) u 60 25 ie z Tryd.underlying60 hie hz .i64 .i64 (n : Int) (n : Int) (by omega) (by omega) (by rw [h2]; omega) (by rw [h3]; omega) (by omega)
      rw [h1, h2, Int.toNat_natCast, made_tx n hn] at hrun
      refine wpList_plain hgd fun _ hK => ?_
      unfold Oper.wp execOp
      simp only [ho, hl, hc, Sem.run_bind]
      simp only [hrun, Result.andThen_ok, Sem.run_pure]
      exact hK _ _ (h _ _ (E.new 25 (i64s (List.replicate (n * 4) 0))))
end Go.Proofs.YtnoailihkjccbaaDoor
