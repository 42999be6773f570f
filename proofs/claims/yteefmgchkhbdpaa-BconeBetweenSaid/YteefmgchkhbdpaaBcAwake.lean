/- The law's first look: red and blue. -/
import Derived.Test.YteefmgchkhbdpaaBcEq
import Derived.Test.YteefmgchkhbdpaaBcDec
import Derived.Test.YteefmgchkhbdpaaBcJoin
namespace Go.Proofs.Yteefmgchkhbdpaa
open Go.RowKit
open Bi Lv Bc

namespace Bc
def awW : List Int := [0, 1, 2, 3, 0, 0, 0, 0, 0, 0, 0, 0, 0, 0, 0, 0]
def awX : List Nat := [0, 248, 31, 0, 228, 0, 0, 0]
def awY : List Nat := [0, 0, 0, 0, 255, 0, 0, 0]
theorem aw_join : jV 63488 31 awW = awX ∧ jE 63488 31 awW = 0 := by decide +kernel
theorem aw_tex : (decT awX false).take 4 = [255, 0, 0, 255] ∧ ((decT awX false).drop 4).take 4 = [0, 0, 255, 255] ∧ ((decT awX false).drop 8).take 4 = [170, 0, 85, 255] ∧ ((decT awX false).drop 12).take 4 = [85, 0, 170, 255] := by decide +kernel
theorem aw_two : (decT awY false).take 4 = [0, 0, 0, 0] ∧ ((decT awY false).drop 16).take 4 = [0, 0, 0, 255] := by decide +kernel
theorem aw_pack : pkV 250 1 1 = 61440 := by decide +kernel
end Bc
theorem built_awW (u : World) : (Instr.build 51 #[(0, .int .i64 0), (1, .int .i64 1), (2, .int .i64 2), (3, .int .i64 3)]).run Try.prog u = .ok (arr awW) u := run_build u _ _ _ (by kernel_rfl)

set_option maxHeartbeats 4000000 in
set_option maxRecDepth 100000 in
theorem awake_yes (w : World) : Calls Try.prog 19 #[] w fun e w' => e = .returned (.bool true) ∧ Below w.heap.size w w' := by
  have E := Lib.hid (Kn.start w)
  have hJ := Lib.hid (fun u => show Calls Try.prog 31 #[.int .i64 63488, .int .i64 31, .agg #[.int .i64 0, .int .i64 1, .int .i64 2, .int .i64 3, .int .i64 0, .int .i64 0, .int .i64 0, .int .i64 0, .int .i64 0, .int .i64 0, .int .i64 0, .int .i64 0, .int .i64 0, .int .i64 0, .int .i64 0, .int .i64 0]] u (Laid u awX 0) from by
    have h := bjoin_any 63488 31 awW u rfl
    rw [aw_join.1, aw_join.2] at h
    exact h)
  have hD1 := Lib.hid (fun A c u hu => decode_ok A c awX false u hu)
  have hD2 := Lib.hid (fun A c u hu => decode_ok A c awY false u hu)
  have hP := Lib.hid (fun u => show Calls Try.prog 23 #[.agg #[.int .i64 250, .int .i64 1, .int .i64 1, .int .i64 9]] u (fun e w' => e = .returned (.int .i64 61440) ∧ Below u.heap.size u w') from by
    have h := pack_any 250 1 1 9 u (by unfold sm; omega) (by unfold sm; omega) (by unfold sm; omega)
    rw [aw_pack] at h
    exact h)
  have l1 := decT_length awX false
  have l2 := decT_length awY false
  obtain ⟨e0, e1, e2, e3⟩ := aw_tex
  obtain ⟨f0, f1⟩ := aw_two
  have X8 : awX.length = 8 := rfl
  have Y8 : awY.length = 8 := rfl
  have hYl : ∀ x ∈ awY, x < 256 := by decide
  have hsz : (Try.prog.info? 5).map (·.size) = some 1 := by kernel_rfl
  have hzr : ((Try.prog.info? 5).bind (·.zero)).isSome = true := by kernel_rfl
  generalize decT awX false = T1 at *
  generalize decT awY false = T2 at *
  replace e0 := Lib.hid e0
  replace e1 := Lib.hid e1
  replace e2 := Lib.hid e2
  replace e3 := Lib.hid e3
  replace f0 := Lib.hid f0
  replace f1 := Lib.hid f1
  have q0 : ∀ u, (Op.equalIn 10000 26 (.agg #[.int .i64 255, .int .i64 0, .int .i64 0, .int .i64 255]) (.agg #[.int .i64 255, .int .i64 0, .int .i64 0, .int .i64 255])).run Try.prog u = .ok true u := fun u => eq_texel [255, 0, 0, 255] [255, 0, 0, 255] rfl rfl u
  have p0 : ∀ u, (Op.equalIn 10000 26 (arr [255, 0, 0, 255]) (.agg #[.int .i64 255, .int .i64 0, .int .i64 0, .int .i64 255])).run Try.prog u = .ok true u := fun u => eq_texel [255, 0, 0, 255] [255, 0, 0, 255] rfl rfl u
  have q1 : ∀ u, (Op.equalIn 10000 26 (.agg #[.int .i64 0, .int .i64 0, .int .i64 255, .int .i64 255]) (.agg #[.int .i64 0, .int .i64 0, .int .i64 255, .int .i64 255])).run Try.prog u = .ok true u := fun u => eq_texel [0, 0, 255, 255] [0, 0, 255, 255] rfl rfl u
  have p1 : ∀ u, (Op.equalIn 10000 26 (arr [0, 0, 255, 255]) (.agg #[.int .i64 0, .int .i64 0, .int .i64 255, .int .i64 255])).run Try.prog u = .ok true u := fun u => eq_texel [0, 0, 255, 255] [0, 0, 255, 255] rfl rfl u
  have q2 : ∀ u, (Op.equalIn 10000 26 (.agg #[.int .i64 170, .int .i64 0, .int .i64 85, .int .i64 255]) (.agg #[.int .i64 170, .int .i64 0, .int .i64 85, .int .i64 255])).run Try.prog u = .ok true u := fun u => eq_texel [170, 0, 85, 255] [170, 0, 85, 255] rfl rfl u
  have p2 : ∀ u, (Op.equalIn 10000 26 (arr [170, 0, 85, 255]) (.agg #[.int .i64 170, .int .i64 0, .int .i64 85, .int .i64 255])).run Try.prog u = .ok true u := fun u => eq_texel [170, 0, 85, 255] [170, 0, 85, 255] rfl rfl u
  have q3 : ∀ u, (Op.equalIn 10000 26 (.agg #[.int .i64 85, .int .i64 0, .int .i64 170, .int .i64 255]) (.agg #[.int .i64 85, .int .i64 0, .int .i64 170, .int .i64 255])).run Try.prog u = .ok true u := fun u => eq_texel [85, 0, 170, 255] [85, 0, 170, 255] rfl rfl u
  have p3 : ∀ u, (Op.equalIn 10000 26 (arr [85, 0, 170, 255]) (.agg #[.int .i64 85, .int .i64 0, .int .i64 170, .int .i64 255])).run Try.prog u = .ok true u := fun u => eq_texel [85, 0, 170, 255] [85, 0, 170, 255] rfl rfl u
  have q4 : ∀ u, (Op.equalIn 10000 26 (.agg #[.int .i64 0, .int .i64 0, .int .i64 0, .int .i64 0]) (.agg #[.int .i64 0, .int .i64 0, .int .i64 0, .int .i64 0])).run Try.prog u = .ok true u := fun u => eq_texel [0, 0, 0, 0] [0, 0, 0, 0] rfl rfl u
  have p4 : ∀ u, (Op.equalIn 10000 26 (arr [0, 0, 0, 0]) (.agg #[.int .i64 0, .int .i64 0, .int .i64 0, .int .i64 0])).run Try.prog u = .ok true u := fun u => eq_texel [0, 0, 0, 0] [0, 0, 0, 0] rfl rfl u
  have q5 : ∀ u, (Op.equalIn 10000 26 (.agg #[.int .i64 0, .int .i64 0, .int .i64 0, .int .i64 255]) (.agg #[.int .i64 0, .int .i64 0, .int .i64 0, .int .i64 255])).run Try.prog u = .ok true u := fun u => eq_texel [0, 0, 0, 255] [0, 0, 0, 255] rfl rfl u
  have p5 : ∀ u, (Op.equalIn 10000 26 (arr [0, 0, 0, 255]) (.agg #[.int .i64 0, .int .i64 0, .int .i64 0, .int .i64 255])).run Try.prog u = .ok true u := fun u => eq_texel [0, 0, 0, 255] [0, 0, 0, 255] rfl rfl u
  go_enter Try.func19, Try.ntmps19
  go_wp2_with (first
    | (go_at_call 31; refine (hJ.out _).mono ?_; clear hJ; rintro e w1 ⟨A1, n1, c1, rfl, hB1, hn1, hc1, hb⟩; obtain rfl : n1 = 8 := hB1.1.symm.trans X8; have E1 := Lib.hid (E.out.later hb); clear hb E; have E := E1; clear E1; have E1 := Lib.hid (E.out.new_bs hB1); clear E hB1; have E := E1; clear E1)
    | (go_at_call 29; first
      | (refine (hD1.out _ _ _ (E.out.bs (by simp))).mono ?_; clear hD1; rintro e w2 ⟨rfl, hb⟩; have E1 := Lib.hid (E.out.later hb); clear hb E; have E := E1; clear E1)
      | (refine (hD2.out _ _ _ (E.out.row_bs (g := g18) hYl 8 rfl)).mono ?_; clear hD2; rintro e w3 ⟨rfl, hb⟩; have E1 := Lib.hid (E.out.later hb); clear hb E; have E := E1; clear E1))
    | (go_at_call 23; refine (hP.out _).mono ?_; clear hP; rintro e w4 ⟨rfl, hb⟩; have E1 := Lib.hid (E.out.later hb); clear hb E; have E := E1; clear E1)
    | ((with_reducible refine kn_buildb E.out rfl rfl awY Try.underlying22 hsz hzr ?_ ?_ ?_ ?_ ?_); (focus (rfl)); (focus (omega)); (focus (omega)); (focus (rfl)); clear E; intro g18 u E0; have E := Lib.hid E0; clear E0)
    | ((with_reducible refine kn_loadp_if (g := g3) E.out rfl rfl rfl ?hl ?_); (case hl => omega); simp only [List.drop_zero]; first | rw [e0.out] | rw [e1.out] | rw [e2.out] | rw [e3.out])
    | ((with_reducible refine kn_loadp_if (g := g5) E.out rfl rfl rfl ?hl ?_); (case hl => omega); simp only [List.drop_zero]; first | rw [f0.out] | rw [f1.out])
    | ((with_reducible refine kn_load E.out rfl rfl rfl rfl ?_)) | ((with_reducible refine kn_load_if E.out rfl rfl rfl rfl ?_)) | ((with_reducible refine kn_loads E.out rfl rfl rfl ?_ ?_); (focus (first | rfl | (simp only [i64s_length, u8s_length]; first | rfl | assumption | omega)))) | ((with_reducible refine kn_loads_if E.out rfl rfl rfl ?_ ?_); (focus (first | rfl | (simp only [i64s_length, u8s_length]; first | rfl | assumption | omega)))) | ((with_reducible refine kn_store1_int E.out rfl rfl rfl rfl rfl ?_); clear E; intro u E0; have E := Lib.hid E0; clear E0) | ((with_reducible refine kn_store1_slice E.out rfl rfl rfl rfl rfl ?_); clear E; intro u E0; have E := Lib.hid E0; clear E0) | ((with_reducible refine kn_store1_bool E.out rfl rfl rfl rfl rfl ?_); clear E; intro u E0; have E := Lib.hid E0; clear E0) | ((with_reducible refine kn_stores E.out rfl rfl rfl rfl rfl ?_ ?_ ?_); (focus (first | exact ⟨rfl, rfl⟩ | (simp only [i64s_length, u8s_length]; refine ⟨?_, ?_⟩ <;> first | rfl | assumption | omega))); (focus (first | exact i64s_one _ | exact u8s_one _ | simp [Value.oneCell'])); clear E; intro u E0; have E := Lib.hid E0; clear E0) | ((with_reducible refine kn_alloc (o := ⟨some 3, _, _, _, _, _⟩) E.out rfl rfl ?_); clear E; intro g3 u E0 hb0; have E := Lib.hid E0; clear E0 hb0) | ((with_reducible refine kn_box (o := ⟨some 3, _, _, _, _, _⟩) E.out rfl rfl rfl ?_); clear E; intro g3 u E0 hb0; have E := Lib.hid E0; clear E0 hb0) | ((with_reducible refine kn_box_int (o := ⟨some 3, _, _, _, _, _⟩) E.out rfl rfl rfl ?_); clear E; intro g3 u E0 hb0; have E := Lib.hid E0; clear E0 hb0) | ((with_reducible refine kn_box_slice (o := ⟨some 3, _, _, _, _, _⟩) E.out rfl rfl rfl ?_); clear E; intro g3 u E0 hb0; have E := Lib.hid E0; clear E0 hb0) | ((with_reducible refine kn_box_bool (o := ⟨some 3, _, _, _, _, _⟩) E.out rfl rfl rfl ?_); clear E; intro g3 u E0 hb0; have E := Lib.hid E0; clear E0 hb0) | ((with_reducible refine kn_box_func (o := ⟨some 3, _, _, _, _, _⟩) E.out rfl rfl rfl ?_); clear E; intro g3 u E0 hb0; have E := Lib.hid E0; clear E0 hb0) | ((with_reducible refine kn_alloc (o := ⟨some 5, _, _, _, _, _⟩) E.out rfl rfl ?_); clear E; intro g5 u E0 hb0; have E := Lib.hid E0; clear E0 hb0) | ((with_reducible refine kn_box (o := ⟨some 5, _, _, _, _, _⟩) E.out rfl rfl rfl ?_); clear E; intro g5 u E0 hb0; have E := Lib.hid E0; clear E0 hb0) | ((with_reducible refine kn_box_int (o := ⟨some 5, _, _, _, _, _⟩) E.out rfl rfl rfl ?_); clear E; intro g5 u E0 hb0; have E := Lib.hid E0; clear E0 hb0) | ((with_reducible refine kn_box_slice (o := ⟨some 5, _, _, _, _, _⟩) E.out rfl rfl rfl ?_); clear E; intro g5 u E0 hb0; have E := Lib.hid E0; clear E0 hb0) | ((with_reducible refine kn_box_bool (o := ⟨some 5, _, _, _, _, _⟩) E.out rfl rfl rfl ?_); clear E; intro g5 u E0 hb0; have E := Lib.hid E0; clear E0 hb0) | ((with_reducible refine kn_box_func (o := ⟨some 5, _, _, _, _, _⟩) E.out rfl rfl rfl ?_); clear E; intro g5 u E0 hb0; have E := Lib.hid E0; clear E0 hb0) | ((with_reducible refine kn_alloc E.out rfl rfl ?_); clear E; intro g u E0 hb0; have E := Lib.hid E0; clear E0 hb0) | ((with_reducible refine kn_box E.out rfl rfl rfl ?_); clear E; intro g u E0 hb0; have E := Lib.hid E0; clear E0 hb0) | ((with_reducible refine kn_box_int E.out rfl rfl rfl ?_); clear E; intro g u E0 hb0; have E := Lib.hid E0; clear E0 hb0) | ((with_reducible refine kn_box_slice E.out rfl rfl rfl ?_); clear E; intro g u E0 hb0; have E := Lib.hid E0; clear E0 hb0) | ((with_reducible refine kn_box_bool E.out rfl rfl rfl ?_); clear E; intro g u E0 hb0; have E := Lib.hid E0; clear E0 hb0) | ((with_reducible refine kn_box_func E.out rfl rfl rfl ?_); clear E; intro g u E0 hb0; have E := Lib.hid E0; clear E0 hb0))
  go_ret
  exact ⟨rfl, E.out.bel⟩
end Go.Proofs.Yteefmgchkhbdpaa
