/- FieldTells: at any place of any bytes, for any number, Get, Put and Part of package field answer just what the document's own answers are; no condition. -/
import Derived.Test.YtffcbfkdmenedaaRows
import Derived.Test.YtffcbfkdmenedaaAwake
import Derived.Test.YtffcbfkdmenedaaRput
import Derived.Test.YtffcbfkdmenedaaPart
import Derived.Test.YtffcbfkdmenedaaSame
import Derived.Test.YtffcbfkdmenedaaEnv
import Derived.Test.YtffcbfkdmenedaaOpen
import Derived.OpenShut
import Derived.ShutString
import Derived.ChangeOld
import Derived.Below
namespace Go.Proofs.Ytffcbfkdmenedaa.fieldTells
open Go.ChangeShapes Go.WideShapes Go.ChangeAt Go.RowKit
open Pl

set_option maxHeartbeats 4000000 in
set_option maxRecDepth 100000 in
theorem walk (A : Option Addr) (n c : Nat) (xs : List Nat) (x y z : Int) (big : Bool) (w : World) (h : Bs w w.heap.size A n xs) (hc : n ≤ c) (hcm : c ≤ 9223372036854775807)
    (x2 : x ≤ 9223372036854775807) (z2 : z ≤ 9223372036854775807) :
    Calls Try.prog 3 #[.slice A n c, .agg #[.int .i64 x, .int .i64 y, .int .i64 z], .bool big] w fun e w' => e = .returned (.bool true) ∧ Below w.heap.size w w' := by
  have E0 := Lib.hid (Env.start x y z 23 h)
  clear h
  go_enter Try.func3, Try.ntmps3
  go_wp2_with fail
  refine (awake_any _).mono ?_
  rintro e w1 ⟨rfl, hb1⟩
  have E1 := Lib.hid (E0.out.step hb1)
  clear hb1 E0
  have kx := E1.out.cx
  have ky := E1.out.cy
  have kz := E1.out.cz
  by_cases hlong : 300 < n
  · go_wp2_with fail
    go_ret
    exact ⟨rfl, E1.out.bel⟩
  · go_wp2_with fail
    refine (get_any A n c x y big xs w1 _ E1.out.bs hc hcm x2).mono ?_
    rintro e w' ⟨rfl, rfl⟩
    go_wp2_with fail
    refine (rget_any A n c x y big xs w1 _ E1.out.bs (by omega)).mono ?_
    rintro e w' ⟨rfl, rfl⟩
    go_wp2_with fail
    refine (put_any A n c x y z big xs w1 E1.out.bs (by omega) x2 z2).mono ?_
    rintro e w2 ⟨A2, n2, c2, rfl, hB2, -, -, hb2⟩
    have E2 := Lib.hid (E1.out.step hb2)
    clear hb2 E1 kx ky kz
    have kx := E2.out.cx
    have ky := E2.out.cy
    have kz := E2.out.cz
    have S2 := Lib.hid hB2
    clear hB2
    go_wp2_with fail
    refine (rput_any A n c x y z big xs w2 E2.out.bs (by omega)).mono ?_
    rintro e w3 ⟨A3, n3, c3, rfl, hB3, -, -, hb3⟩
    have S2' := Lib.hid (S2.out.later hb3)
    have E3 := Lib.hid (E2.out.step hb3)
    clear hb3 E2 kx ky kz S2
    have kx := E3.out.cx
    have ky := E3.out.cy
    have kz := E3.out.cz
    have S3 := Lib.hid hB3
    clear hB3
    go_wp2_with fail
    refine (part_any A n c x y xs w3 E3.out.bs (by omega) hc hcm x2).mono ?_
    rintro e w4 ⟨A4, n4, c4, rfl, hB4, -, -, hb4⟩
    have S2 := Lib.hid (S2'.out.later hb4)
    have S3' := Lib.hid (S3.out.later hb4)
    have E4 := Lib.hid (E3.out.step hb4)
    clear hb4 E3 kx ky kz S2' S3
    have kx := E4.out.cx
    have ky := E4.out.cy
    have kz := E4.out.cz
    have S4 := Lib.hid hB4
    clear hB4
    go_wp2_with fail
    refine (rpart_any A n c x y xs w4 E4.out.bs (by omega) hc hcm).mono ?_
    rintro e w5 ⟨A5, n5, c5, rfl, hB5, -, -, hb5⟩
    have S2' := Lib.hid (S2.out.later hb5)
    have S3 := Lib.hid (S3'.out.later hb5)
    have S4' := Lib.hid (S4.out.later hb5)
    have E5 := Lib.hid (E4.out.step hb5)
    clear hb5 E4 kx ky kz S2 S3' S4
    have S5 := Lib.hid hB5
    clear hB5
    go_wp2_with fail
    have p1 : n2 ≤ 9223372036854775807 := by have := S2'.out.1; have := putV_le xs x y big z; have := E5.out.bs.1; omega
    refine (same_any A2 A3 n2 n3 c2 c3 _ _ _ _ w5 S2'.out S3.out p1).mono ?_
    intro e w6 hT
    have b6 := hT.below
    obtain ⟨rfl, q, rfl⟩ := hT
    rw [decide_eq_true (rfl : putV xs x y big z = putV xs x y big z)]
    have S4 := Lib.hid (S4'.out.later b6)
    have S5' := Lib.hid (S5.out.later b6)
    have E6 := Lib.hid (E5.out.step b6)
    have p2 : n4 ≤ 9223372036854775807 := by have := S4.out.1; have := partV_le xs x y; have := E5.out.bs.1; omega
    clear E5 S4' S5 S2' S3 b6
    go_wp2_with fail
    refine (same_any A4 A5 n4 n5 c4 c5 _ _ _ _ _ S4.out S5'.out p2).mono ?_
    intro e w7 hT
    have b7 := hT.below
    obtain ⟨rfl, q', rfl⟩ := hT
    rw [decide_eq_true (rfl : partV xs x y = partV xs x y)]
    have E7 := Lib.hid (E6.out.step b7)
    clear E6 b7 S4 S5'
    go_wp2_with fail
    go_ret
    exact ⟨rfl, by rw [← World.drewN_drewN]; exact E7.out.bel⟩

theorem own : ownKnob Try.prog.godebug = none := by kernel_rfl
theorem laidOut : laidOutB Try.prog = true := by kernel_rfl

set_option maxRecDepth 100000 in
theorem lifted (os : Os) (started : os.Started) (H : Type) (enc : TypeId × Value → H) :
    ReturnsInHanded {} Try.checked os 3 .any (Rows.fieldTellsSpec.pre6 enc Try.prog Try.f3 Rows.fieldTellsRow.domain false) (Rows.fieldTellsSpec.post enc Try.prog Try.f3 false true false false) := by
  refine returnsInHanded_of_change (C := Try.checked) own started (by kernel_rfl) Try.func3
    (ChangeSpec.witness6 (enc := enc) (C := Try.checked) false ⟨#[], #[.slice none 0 0, .agg #[.int .i64 0, .int .i64 0, .int .i64 0], .bool false], []⟩ 8 (by kernel_rfl) (by kernel_rfl) (by kernel_rfl) (by kernel_rfl)) ?_
  intro W base args ds gs before hval0 hW hcnd _
  have hval : ∀ (j : Nat) t v, Try.f3.params[j]? = some t → args[j]? = some v → Value.okWide Try.prog W .any base t v := hval0
  have hW' := hW
  obtain ⟨p, q, hA0, hV, rfl, hfz, hnd⟩ := hW
  have hA : DataW.TrodAll enc Try.prog W 0 (fun _ => true) true Try.f3.params.toList args.toList ds p := hA0
  rw [Try.params3] at hA hval
  obtain ⟨v0, vs0, d0, ds0, p0, q0, hargs, rfl, rfl, h0, r0⟩ := trodAll_cons hA
  obtain ⟨v1, vs1, d1, ds1, p1, q1, rfl, rfl, rfl, h1, r1⟩ := trodAll_cons r0
  obtain ⟨v2, vs2, d2, ds2, p2, q2, rfl, rfl, rfl, h2, r2⟩ := trodAll_cons r1
  obtain ⟨rfl, rfl, rfl⟩ := trodAll_nil r2
  obtain rfl : args = #[v0, v1, v2] := by cases args; simp_all
  obtain ⟨rfl, rfl⟩ := trodVars_none hV
  have lt0 : ∀ x ∈ p0, x.block < W.heap.size := by obtain ⟨m, hm⟩ := h0; exact DataW.trod_lt m _ _ _ hm
  have lt1 : ∀ x ∈ p1, x.block < W.heap.size := by obtain ⟨m, hm⟩ := h1; exact DataW.trod_lt m _ _ _ hm
  obtain ⟨A, n, c, xs, rfl, hB, hc, hcm⟩ := open_bytes Try.underlying22 Try.underlying5 (by kernel_rfl) (hval 0 22 v0 rfl rfl) h0
  obtain ⟨x, y, z, rfl, bx, by', bz⟩ := open_three Try.underlying23 Try.underlying3 (by kernel_rfl) (by kernel_rfl) (hval 1 23 v1 rfl rfl) h1
  obtain ⟨big, rfl, rfl, rfl⟩ := open_bool Try.underlying4 (hval 2 4 v2 rfl rfl) h2
  clear hA0 hval0
  refine (walk A n c xs x y z big W hB hc hcm bx.2 bz.2).mono fun e W' ⟨he, bel⟩ => ?_
  subst he
  exact ⟨_, rfl, _, _, _, [], _, [], hW', trodAll_mk1 (shut_bool Try.underlying4 _), (trodAll_cons_mk (Below.trod laidOut (by kernel_rfl) (of_decide_eq_true (by kernel_rfl)) h0 bel lt0) (trodAll_cons_mk (Below.trod laidOut (by kernel_rfl) (of_decide_eq_true (by kernel_rfl)) h1 bel lt1) (trodAll_cons_mk (shut_bool Try.underlying4 _) trodAll_mk0))), rfl, bel.frame _, fun h => by cases h⟩

theorem over : Rows.fieldTellsRow.holds Try.pinned (OpenSpec.ofChange Rows.fieldTellsSpec) :=
  OpenClaim.holds_of_wide 3 Try.f3 rfl rfl rfl rfl rfl rfl rfl ⟨rfl, rfl, rfl, rfl, rfl⟩ rfl rfl rfl rfl rfl (by kernel_rfl) Try.func3 (by kernel_rfl)
    (of_decide_eq_true (by kernel_rfl)) (by unfold Func.isWrapper; first | (rw [if_pos (by decide +kernel)]; kernel_rfl) | (rw [if_neg (by decide +kernel)]; exact ⟨rfl, rfl⟩))
    (fun os started H enc _ => lifted os started H enc)
end Go.Proofs.Ytffcbfkdmenedaa.fieldTells

namespace Go.Proofs.Ytffcbfkdmenedaa
theorem fieldTells_holds : Rows.FieldTellsSaid := fieldTells.over
#print axioms fieldTells_holds
end Go.Proofs.Ytffcbfkdmenedaa
