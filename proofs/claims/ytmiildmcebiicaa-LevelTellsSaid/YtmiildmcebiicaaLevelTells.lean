/- LevelTells: any number as a level, the nearest one, a number up to another one, what stands between two: the program's are the reference's; no condition. -/
import Derived.Test.YtmiildmcebiicaaRows
import Derived.Test.YtmiildmcebiicaaLvAwake
import Derived.Test.YtmiildmcebiicaaOpenArr
import Derived.OpenShut
import Derived.ShutString
import Derived.ChangeOld
import Derived.Below
import Derived.Deep.RegionHeld3
namespace Go.Proofs.Ytmiildmcebiicaa.levelTells
open Go.ChangeShapes Go.WideShapes Go.ChangeAt Go.RowKit
open Lv

theorem hB_drew {B : Nat} {w u : World} (h : Hid (Below B w u)) : Hid (Below B w u.drew) := Below.trans h.out ⟨rfl, rfl, rfl, Nat.le_refl _, fun _ _ => rfl⟩

set_option maxHeartbeats 4000000 in
set_option maxRecDepth 100000 in
theorem walk (v bits x0 x1 x2 x3 x4 : Int) (w : World) :
    Calls Try.prog 3 #[.int .i64 v, .int .i64 bits, .agg #[.int .i64 x0, .int .i64 x1, .int .i64 x2, .int .i64 x3, .int .i64 x4]] w fun e w' => e = .returned (.bool true) ∧ Below w.heap.size w w' := by
  have R0 := Lib.hid (Row.new w 22 [.int .i64 x0, .int .i64 x1, .int .i64 x2, .int .i64 x3, .int .i64 x4])
  have B0 := Lib.hid ((Below.refl w.heap.size w).alloc (Nat.le_refl _) (.cells #[.int .i64 x0, .int .i64 x1, .int .i64 x2, .int .i64 x3, .int .i64 x4] 22))
  go_enter Try.func3, Try.ntmps3
  go_wp2_with fail
  refine (awake_any _).mono ?_
  rintro e w1 ⟨rfl, hb1⟩
  have R1 := R0.out.below hb1 R0.out.lt
  have B1 := Lib.hid (B0.out.trans (hb1.mono B0.out.size))
  have c0 : w1.cell? ⟨w.heap.size, 0, none⟩ = some (.int .i64 x0) := R1.cell 0 _ rfl
  have c1 : w1.cell? ⟨w.heap.size, 1, none⟩ = some (.int .i64 x1) := R1.cell 1 _ rfl
  have c2 : w1.cell? ⟨w.heap.size, 2, none⟩ = some (.int .i64 x2) := R1.cell 2 _ rfl
  have c3 : w1.cell? ⟨w.heap.size, 3, none⟩ = some (.int .i64 x3) := R1.cell 3 _ rfl
  have c4 : w1.cell? ⟨w.heap.size, 4, none⟩ = some (.int .i64 x4) := R1.cell 4 _ rfl
  have R1' := Lib.hid R1
  clear R0 B0 hb1 R1
  go_wp2_with fail
  have hI := Lib.hid (Row.is (Row.newInts w1 3 [v, bits, x0, x1, x2, x3, x4]) 7 rfl)
  refine (smalls_any _ 7 7 [v, bits, x0, x1, x2, x3, x4] _ _ hI.out (by omega)).mono ?_
  rintro e w2 ⟨rfl, hw2⟩
  subst hw2
  have R2 := R1'.out.old (.cells (i64s [v, bits, x0, x1, x2, x3, x4]).toArray 3)
  have B2 := Lib.hid (B1.out.alloc B1.out.size (.cells (i64s [v, bits, x0, x1, x2, x3, x4]).toArray 3))
  clear hI B1 R1' c0 c1 c2 c3 c4
  generalize w1.alloc (.cells (i64s [v, bits, x0, x1, x2, x3, x4]).toArray 3) = w2 at *
  by_cases hs : smB [v, bits, x0, x1, x2, x3, x4] = true
  · obtain ⟨hall, -⟩ := smB_all hs
    rw [hs]
    have hv : sm v := hall v (by simp)
    have h0 : sm x0 := hall x0 (by simp)
    have h1 : sm x1 := hall x1 (by simp)
    have h2 : sm x2 := hall x2 (by simp)
    have h3 : sm x3 := hall x3 (by simp)
    have h4 : sm x4 := hall x4 (by simp)
    have hS2 : w2.cell? ⟨w.heap.size, 0, none⟩ = some (.int .i64 x0) ∧ w2.cell? ⟨w.heap.size, 1, none⟩ = some (.int .i64 x1) ∧ w2.cell? ⟨w.heap.size, 2, none⟩ = some (.int .i64 x2) ∧ w2.cell? ⟨w.heap.size, 3, none⟩ = some (.int .i64 x3) ∧ w2.cell? ⟨w.heap.size, 4, none⟩ = some (.int .i64 x4) ∧ Hid (Below w.heap.size w w2) := ⟨R2.cell 0 _ rfl, R2.cell 1 _ rfl, R2.cell 2 _ rfl, R2.cell 3 _ rfl, R2.cell 4 _ rfl, B2⟩
    have hN := Lib.hid (show ∀ u : World, u.cell? ⟨w.heap.size, 0, none⟩ = some (.int .i64 x0) ∧ u.cell? ⟨w.heap.size, 1, none⟩ = some (.int .i64 x1) ∧ u.cell? ⟨w.heap.size, 2, none⟩ = some (.int .i64 x2) ∧ u.cell? ⟨w.heap.size, 3, none⟩ = some (.int .i64 x3) ∧ u.cell? ⟨w.heap.size, 4, none⟩ = some (.int .i64 x4) ∧ Hid (Below w.heap.size w u) → Calls Try.prog 11 #[.int .i64 v, .int .i64 bits] u fun e u' => e = .returned (.int .i64 (nearV v bits)) ∧ u'.cell? ⟨w.heap.size, 0, none⟩ = some (.int .i64 x0) ∧ u'.cell? ⟨w.heap.size, 1, none⟩ = some (.int .i64 x1) ∧ u'.cell? ⟨w.heap.size, 2, none⟩ = some (.int .i64 x2) ∧ u'.cell? ⟨w.heap.size, 3, none⟩ = some (.int .i64 x3) ∧ u'.cell? ⟨w.heap.size, 4, none⟩ = some (.int .i64 x4) ∧ Hid (Below w.heap.size w u') from by
      intro u ⟨k0, k1, k2, k3, k4, kB⟩
      refine (near_any v bits u hv).mono ?_
      rintro e u' ⟨rfl, hb⟩
      exact ⟨rfl, (hb.cell (block_lt_of_cell k0)).trans k0, (hb.cell (block_lt_of_cell k1)).trans k1, (hb.cell (block_lt_of_cell k2)).trans k2, (hb.cell (block_lt_of_cell k3)).trans k3, (hb.cell (block_lt_of_cell k4)).trans k4, kB.out.trans (hb.mono kB.out.size)⟩)
    have hM := Lib.hid (fun w => mix_any x0 x1 x2 x3 x4 w h0 h1 h2 h3 h4)
    have hN' := Lib.hid (fun w => rnear_any v bits w hv)
    have hM' := Lib.hid (fun w => rmix_any x0 x1 x2 x3 x4 w h0 h1 h2 h3 h4)
    clear hall hs hv h0 h1 h2 h3 h4 R2 B2
    obtain ⟨c0, c1, c2, c3, c4, hB⟩ := hS2
    go_wp2_with fail
    simp only [List.append]
    go_region_held3 (fun u => u.cell? ⟨w.heap.size, 0, none⟩ = some (.int .i64 x0) ∧ u.cell? ⟨w.heap.size, 1, none⟩ = some (.int .i64 x1) ∧ u.cell? ⟨w.heap.size, 2, none⟩ = some (.int .i64 x2) ∧ u.cell? ⟨w.heap.size, 3, none⟩ = some (.int .i64 x3) ∧ u.cell? ⟨w.heap.size, 4, none⟩ = some (.int .i64 x4) ∧ Hid (Below w.heap.size w u)) (first | exact ⟨c0, c1, c2, c3, c4, hB_drew hB⟩ | exact ⟨k0, k1, k2, k3, k4, kB⟩ | go_keep)
      (first
      | (go_at_call 9; refine (wide_any v bits _).mono ?_; rintro e w' ⟨rfl, rfl⟩)
      | (go_at_call 10; refine (rwide_any v bits _).mono ?_; rintro e w' ⟨rfl, rfl⟩)
      | (go_at_call 11; refine (hN.out _ ?_).mono ?_; assumption; rintro e w3 ⟨rfl, k0, k1, k2, k3, k4, kB⟩)
      | (go_at_call 12; refine (hN'.out _).mono ?_; rintro e w' ⟨rfl, rfl⟩)
      | (go_at_call 13; refine (clamp_any _ _ _).mono ?_; rintro e w' ⟨rfl, rfl⟩)
      | (go_at_call 14; refine (rclamp_any _ _ _).mono ?_; rintro e w' ⟨rfl, rfl⟩)
      | (go_at_call 15; refine (hM.out _).mono ?_; rintro e w' ⟨rfl, rfl⟩)
      | (go_at_call 16; refine (hM'.out _).mono ?_; rintro e w' ⟨rfl, rfl⟩))
    go_wp2
    go_ret
    exact ⟨rfl, kB.out⟩
  · have hs' : smB [v, bits, x0, x1, x2, x3, x4] = false := by simpa using hs
    rw [hs']
    go_wp2_with fail
    go_ret
    exact ⟨rfl, B2.out⟩


theorem own : ownKnob Try.prog.godebug = none := by kernel_rfl
theorem laidOut : laidOutB Try.prog = true := by kernel_rfl

set_option maxRecDepth 100000 in
theorem lifted (os : Os) (started : os.Started) (H : Type) (enc : TypeId × Value → H) :
    ReturnsInHanded {} Try.checked os 3 .any (Rows.levelTellsSpec.pre6 enc Try.prog Try.f3 Rows.levelTellsRow.domain false) (Rows.levelTellsSpec.post enc Try.prog Try.f3 false true false false) := by
  refine returnsInHanded_of_change (C := Try.checked) own started (by kernel_rfl) Try.func3
    (ChangeSpec.witness6 (enc := enc) (C := Try.checked) false ⟨#[], #[.int .i64 0, .int .i64 0, .agg #[.int .i64 0, .int .i64 0, .int .i64 0, .int .i64 0, .int .i64 0]], []⟩ 8 (by kernel_rfl) (by kernel_rfl) (by kernel_rfl) (by kernel_rfl)) ?_
  intro W base args ds gs before hval0 hW hcnd _
  have hval : ∀ (j : Nat) t v, Try.f3.params[j]? = some t → args[j]? = some v → Value.okWide Try.prog W .any base t v := hval0
  have hW' := hW
  obtain ⟨p, q, hA0, hV, rfl, hfz, hnd⟩ := hW
  have hA : DataW.TrodAll enc Try.prog W 0 (fun _ => true) true Try.f3.params.toList args.toList ds p := hA0
  rw [Try.params3] at hA hval
  obtain ⟨v0, vs0, d0, ds0, p0, q0, hargs, rfl, rfl, h0, r0⟩ := trodAll_cons hA
  obtain ⟨v1, vs1, d1, ds1, p1, q1, rfl, rfl, rfl, h1, r1⟩ := trodAll_cons r0
  obtain ⟨v2, vs2, d2, ds2, p2, q2, rfl, rfl, rfl, h2, r2⟩ := trodAll_cons r1
  obtain ⟨rfl, rfl, rfl⟩ := trodAll_nil r2
  obtain rfl : args = #[v0, v1, v2] := by cases args; simp_all
  have lt2 : ∀ x ∈ p2, x.block < W.heap.size := by obtain ⟨m, hm⟩ := h2; exact DataW.trod_lt m _ _ _ hm
  obtain ⟨rfl, rfl⟩ := trodVars_none hV
  obtain ⟨a0, rfl, rfl, rfl, w0⟩ := open_int Try.underlying3 (hval 0 3 v0 rfl rfl) h0
  have hm0 := bounds_i64 w0
  obtain ⟨a1, rfl, rfl, rfl, w1⟩ := open_int Try.underlying3 (hval 1 3 v1 rfl rfl) h1
  have hm1 := bounds_i64 w1
  obtain ⟨x20, x21, x22, x23, x24, rfl, b20, b21, b22, b23, b24⟩ := open_arr5 Try.underlying22 Try.underlying3 (by kernel_rfl) (by kernel_rfl) (hval 2 22 v2 rfl rfl) h2
  clear hA0 hval0
  refine (walk a0 a1 x20 x21 x22 x23 x24 W).mono fun e W' ⟨he, bel⟩ => ?_
  subst he
  exact ⟨_, rfl, _, _, _, [], _, [], hW', trodAll_mk1 (shut_bool Try.underlying4 _), (trodAll_cons_mk (shut_int Try.underlying3 w0) (trodAll_cons_mk (shut_int Try.underlying3 w1) (trodAll_cons_mk (Below.trod laidOut (by kernel_rfl) (of_decide_eq_true (by kernel_rfl)) h2 bel lt2) trodAll_mk0))), rfl, bel.frame _, fun h => by cases h⟩

theorem over : Rows.levelTellsRow.holds Try.pinned (OpenSpec.ofChange Rows.levelTellsSpec) :=
  OpenClaim.holds_of_wide 3 Try.f3 rfl rfl rfl rfl rfl rfl rfl ⟨rfl, rfl, rfl, rfl, rfl⟩ rfl rfl rfl rfl rfl (by kernel_rfl) Try.func3 (by kernel_rfl)
    (of_decide_eq_true (by kernel_rfl)) (by unfold Func.isWrapper; first | (rw [if_pos (by decide +kernel)]; kernel_rfl) | (rw [if_neg (by decide +kernel)]; exact ⟨rfl, rfl⟩))
    (fun os started H enc _ => lifted os started H enc)
end Go.Proofs.Ytmiildmcebiicaa.levelTells

namespace Go.Proofs.Ytmiildmcebiicaa
theorem levelTells_holds : Rows.LevelTellsSaid := levelTells.over
#print axioms levelTells_holds
end Go.Proofs.Ytmiildmcebiicaa
