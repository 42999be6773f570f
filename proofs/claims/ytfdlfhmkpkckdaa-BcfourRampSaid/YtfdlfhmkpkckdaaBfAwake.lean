/- The law's first look: a ramp from 70 to 0. -/
import Derived.Test.YtfdlfhmkpkckdaaBfDec
import Derived.Test.YtfdlfhmkpkckdaaBfJoins
namespace Go.Proofs.Ytfdlfhmkpkckdaa
open Go.RowKit
open Bi Lv Bc Bf

namespace Bf
def awW : List Int := [0, 1, 2, 7, 0, 0, 0, 0, 0, 0, 0, 0, 0, 0, 0, 0]
def awX : List Nat := [70, 0, 136, 14, 0, 0, 0, 0]
def awV : List Int := [15, 1, 0, 0, 0, 0, 0, 0, 0, 0, 0, 0, 0, 0, 0, 0]
def awY : List Nat := [31, 0, 0, 0, 0, 0, 0, 0]
theorem aw_join : jV7 70 0 awW = awX ∧ jE7 70 0 awW = 0 := by decide +kernel
theorem aw_fours : fV awV = awY ∧ fE awV = 0 := by decide +kernel
theorem aw_dec : (deV awX).getD 0 0 = 70 ∧ (deV awX).getD 1 0 = 0 ∧ (deV awX).getD 2 0 = 60 ∧ (deV awX).getD 3 0 = 10 ∧ (deV awX).getD 4 0 = 70 := by decide +kernel
theorem aw_fo : (foV awY).getD 0 0 = 255 ∧ (foV awY).getD 1 0 = 17 := by decide +kernel
theorem aw_ramp : (rampV 0 10).getD 5 0 = 8 ∧ (rampV 0 10).getD 6 0 = 0 ∧ (rampV 0 10).getD 7 0 = 255 := by decide +kernel
end Bf
theorem kn_byte0_if {w u : World} {R : List Res} {F : List (World → Prop)} {ops : Array Oper} {rest : List Oper} {o : Oper} {a : Act} {Q : Exit → Act → World → Prop} (E : Kn w R F u) (hw : Region.wanted o (yielded ops a.tmps) = true) {ty : TypeId} {x : Operand} (ho : o.op = .load ty x) {b off n : Nat} (hx : a.eval x = .pointer (some ⟨b, off, none⟩)) {xs : List Nat} (hm : bsF (some ⟨b, off, none⟩) n xs ∈ F) (hi : 0 < n) {v : Nat} (hv : xs.getD 0 0 = v) [A : Scal ty]
    (h : wpList Try.prog ops Q rest (a.put o.dst (.int .u8 (v : Int))) u) : wpList Try.prog ops Q (o :: rest) a u :=
  wpList_wanted hw fun _ hK => by
    obtain ⟨b', off', e, _, hc⟩ := (E.bs hm).2.2 hi
    have hb : b' = b := by injection e with e; injection e with e1 e2 e3; exact e1.symm
    have ho' : off' = off := by injection e with e; injection e with e1 e2 e3; exact e2.symm
    subst hb ho'
    have hcell := hc 0 hi
    rw [hv, Nat.add_zero] at hcell
    unfold Oper.wp execOp
    simp only [ho, hx, Instr.loadAt, Instr.sureAddr, loadVar, Sem.run_bind, Sem.run_pure, Result.andThen_ok, run_isAgg_no, Bool.false_eq_true, if_false, run_load, hcell]
    exact hK _ _ h

set_option maxHeartbeats 8000000 in
set_option maxRecDepth 100000 in
theorem awake_yes (w : World) : Calls Try.prog 6 #[] w fun e w' => e = .returned (.bool true) ∧ Below w.heap.size w w' := by
  have E := Lib.hid (Kn.start w)
  have hJ := Lib.hid (fun u => show Calls Try.prog 13 #[.int .i64 70, .int .i64 0, .agg #[.int .i64 0, .int .i64 1, .int .i64 2, .int .i64 7, .int .i64 0, .int .i64 0, .int .i64 0, .int .i64 0, .int .i64 0, .int .i64 0, .int .i64 0, .int .i64 0, .int .i64 0, .int .i64 0, .int .i64 0, .int .i64 0]] u (Laid u awX 0) from by
    have h := bjoin_any 70 0 awW u rfl
    rw [aw_join.1, aw_join.2] at h
    exact h)
  have hK := Lib.hid (fun u => show Calls Try.prog 15 #[.agg #[.int .i64 15, .int .i64 1, .int .i64 0, .int .i64 0, .int .i64 0, .int .i64 0, .int .i64 0, .int .i64 0, .int .i64 0, .int .i64 0, .int .i64 0, .int .i64 0, .int .i64 0, .int .i64 0, .int .i64 0, .int .i64 0]] u (Laid u awY 0) from by
    have h := joinfours_any awV u rfl
    rw [aw_fours.1, aw_fours.2] at h
    exact h)
  have hD := Lib.hid (fun A c u hu => decode_ok A c awX u hu)
  have hF := Lib.hid (fun A c u hu => fours_ok A c awY u hu)
  have hR := Lib.hid (fun u => ramp_any 0 10 u (by unfold sm; omega) (by unfold sm; omega))
  have l1 := deV_length awX
  have l2 := foV_length awY
  have l3 := rampV_length 0 10
  obtain ⟨d0, d1, d2, d3, d4⟩ := aw_dec
  obtain ⟨f0, f1⟩ := aw_fo
  obtain ⟨r5, r6, r7⟩ := aw_ramp
  have X8 : awX.length = 8 := rfl
  have Y8 : awY.length = 8 := rfl
  have y0 := Lib.hid (show awY.getD 0 0 = 31 from rfl)
  generalize deV awX = D at *
  generalize foV awY = O at *
  generalize rampV 0 10 = P at *
  generalize awX = X at *
  generalize awY = Y at *
  replace d0 := Lib.hid d0
  replace d1 := Lib.hid d1
  replace d2 := Lib.hid d2
  replace d3 := Lib.hid d3
  replace d4 := Lib.hid d4
  replace f0 := Lib.hid f0
  replace f1 := Lib.hid f1
  replace r5 := Lib.hid r5
  replace r6 := Lib.hid r6
  replace r7 := Lib.hid r7
  go_enter Try.func6, Try.ntmps6
  go_wp2_with (first
    | (go_at_call 13; refine (hJ.out _).mono ?_; clear hJ; rintro e w1 ⟨A1, n1, c1, rfl, hB1, hn1, hc1, hb⟩; obtain rfl : n1 = 8 := hB1.1.symm.trans X8; have E1 := Lib.hid (E.out.later hb); clear hb E; have E := E1; clear E1; have E1 := Lib.hid (E.out.new_bs hB1); clear E hB1; have E := E1; clear E1)
    | (go_at_call 9; refine (hD.out _ _ _ (E.out.bs (by simp))).mono ?_; clear hD; rintro e w2 ⟨rfl, hb⟩; have E1 := Lib.hid (E.out.later hb); clear hb E; have E := E1; clear E1)
    | (go_at_call 15; refine (hK.out _).mono ?_; clear hK; rintro e w3 ⟨A2, n2, c2, rfl, hB1, hn2, hc2, hb⟩; obtain rfl : n2 = 8 := hB1.1.symm.trans Y8; obtain ⟨b2, o2, rfl, _, _⟩ := hB1.2.2 (by omega); have E1 := Lib.hid (E.out.later hb); clear hb E; have E := E1; clear E1; have E1 := Lib.hid (Kn.new_bs (E.out.rest g3) hB1); clear E hB1; have E := E1; clear E1)
    | (go_at_call 11; refine (hF.out _ _ _ (E.out.bs (by simp))).mono ?_; clear hF; rintro e w4 ⟨rfl, hb⟩; have E1 := Lib.hid (E.out.later hb); clear hb E; have E := E1; clear E1)
    | (go_at_call 18; refine (hR.out _).mono ?_; clear hR; rintro e w5 ⟨rfl, hb⟩; have E1 := Lib.hid (E.out.later hb); clear hb E; have E := E1; clear E1; simp only [List.append] at *)
    | ((with_reducible refine kn_byte0_if (b := b2) (off := o2) (n := 8) E.out rfl rfl rfl ?hm ?hi y0.out ?_); (case hm => simp); (case hi => omega))
    | ((with_reducible refine kn_loadi_if (g := g3) E.out rfl rfl rfl ?hi ?_); (case hi => omega); first | rw [d0.out] | rw [d1.out] | rw [d2.out] | rw [d3.out] | rw [d4.out])
    | ((with_reducible refine kn_loadi_if (g := g7) E.out rfl rfl rfl ?hi ?_); (case hi => omega); first | rw [f0.out] | rw [f1.out])
    | ((with_reducible refine kn_loadi_if (g := g9) E.out rfl rfl rfl ?hi ?_); (case hi => omega); first | rw [r5.out] | rw [r6.out] | rw [r7.out])
    | ((with_reducible refine kn_load E.out rfl rfl rfl rfl ?_)) | ((with_reducible refine kn_load_if E.out rfl rfl rfl rfl ?_)) | ((with_reducible refine kn_loads E.out rfl rfl rfl ?_ ?_); (focus (first | rfl | (simp only [i64s_length, u8s_length]; first | rfl | assumption | omega)))) | ((with_reducible refine kn_loads_if E.out rfl rfl rfl ?_ ?_); (focus (first | rfl | (simp only [i64s_length, u8s_length]; first | rfl | assumption | omega)))) | ((with_reducible refine kn_store1_int E.out rfl rfl rfl rfl rfl ?_); clear E; intro u E0; have E := Lib.hid E0; clear E0) | ((with_reducible refine kn_store1_slice E.out rfl rfl rfl rfl rfl ?_); clear E; intro u E0; have E := Lib.hid E0; clear E0) | ((with_reducible refine kn_store1_bool E.out rfl rfl rfl rfl rfl ?_); clear E; intro u E0; have E := Lib.hid E0; clear E0) | ((with_reducible refine kn_stores E.out rfl rfl rfl rfl rfl ?_ ?_ ?_); (focus (first | exact ⟨rfl, rfl⟩ | (simp only [i64s_length, u8s_length]; refine ⟨?_, ?_⟩ <;> first | rfl | assumption | omega))); (focus (first | exact i64s_one _ | exact u8s_one _ | simp [Value.oneCell'])); clear E; intro u E0; have E := Lib.hid E0; clear E0) | ((with_reducible refine kn_alloc (o := ⟨some 3, _, _, _, _, _⟩) E.out rfl rfl ?_); clear E; intro g3 u E0 hb0; have E := Lib.hid E0; clear E0 hb0) | ((with_reducible refine kn_box (o := ⟨some 3, _, _, _, _, _⟩) E.out rfl rfl rfl ?_); clear E; intro g3 u E0 hb0; have E := Lib.hid E0; clear E0 hb0) | ((with_reducible refine kn_box_int (o := ⟨some 3, _, _, _, _, _⟩) E.out rfl rfl rfl ?_); clear E; intro g3 u E0 hb0; have E := Lib.hid E0; clear E0 hb0) | ((with_reducible refine kn_box_slice (o := ⟨some 3, _, _, _, _, _⟩) E.out rfl rfl rfl ?_); clear E; intro g3 u E0 hb0; have E := Lib.hid E0; clear E0 hb0) | ((with_reducible refine kn_box_bool (o := ⟨some 3, _, _, _, _, _⟩) E.out rfl rfl rfl ?_); clear E; intro g3 u E0 hb0; have E := Lib.hid E0; clear E0 hb0) | ((with_reducible refine kn_box_func (o := ⟨some 3, _, _, _, _, _⟩) E.out rfl rfl rfl ?_); clear E; intro g3 u E0 hb0; have E := Lib.hid E0; clear E0 hb0) | ((with_reducible refine kn_alloc (o := ⟨some 7, _, _, _, _, _⟩) E.out rfl rfl ?_); clear E; intro g7 u E0 hb0; have E := Lib.hid E0; clear E0 hb0) | ((with_reducible refine kn_box (o := ⟨some 7, _, _, _, _, _⟩) E.out rfl rfl rfl ?_); clear E; intro g7 u E0 hb0; have E := Lib.hid E0; clear E0 hb0) | ((with_reducible refine kn_box_int (o := ⟨some 7, _, _, _, _, _⟩) E.out rfl rfl rfl ?_); clear E; intro g7 u E0 hb0; have E := Lib.hid E0; clear E0 hb0) | ((with_reducible refine kn_box_slice (o := ⟨some 7, _, _, _, _, _⟩) E.out rfl rfl rfl ?_); clear E; intro g7 u E0 hb0; have E := Lib.hid E0; clear E0 hb0) | ((with_reducible refine kn_box_bool (o := ⟨some 7, _, _, _, _, _⟩) E.out rfl rfl rfl ?_); clear E; intro g7 u E0 hb0; have E := Lib.hid E0; clear E0 hb0) | ((with_reducible refine kn_box_func (o := ⟨some 7, _, _, _, _, _⟩) E.out rfl rfl rfl ?_); clear E; intro g7 u E0 hb0; have E := Lib.hid E0; clear E0 hb0) | ((with_reducible refine kn_alloc (o := ⟨some 9, _, _, _, _, _⟩) E.out rfl rfl ?_); clear E; intro g9 u E0 hb0; have E := Lib.hid E0; clear E0 hb0) | ((with_reducible refine kn_box (o := ⟨some 9, _, _, _, _, _⟩) E.out rfl rfl rfl ?_); clear E; intro g9 u E0 hb0; have E := Lib.hid E0; clear E0 hb0) | ((with_reducible refine kn_box_int (o := ⟨some 9, _, _, _, _, _⟩) E.out rfl rfl rfl ?_); clear E; intro g9 u E0 hb0; have E := Lib.hid E0; clear E0 hb0) | ((with_reducible refine kn_box_slice (o := ⟨some 9, _, _, _, _, _⟩) E.out rfl rfl rfl ?_); clear E; intro g9 u E0 hb0; have E := Lib.hid E0; clear E0 hb0) | ((with_reducible refine kn_box_bool (o := ⟨some 9, _, _, _, _, _⟩) E.out rfl rfl rfl ?_); clear E; intro g9 u E0 hb0; have E := Lib.hid E0; clear E0 hb0) | ((with_reducible refine kn_box_func (o := ⟨some 9, _, _, _, _, _⟩) E.out rfl rfl rfl ?_); clear E; intro g9 u E0 hb0; have E := Lib.hid E0; clear E0 hb0) | ((with_reducible refine kn_alloc E.out rfl rfl ?_); clear E; intro g u E0 hb0; have E := Lib.hid E0; clear E0 hb0) | ((with_reducible refine kn_box E.out rfl rfl rfl ?_); clear E; intro g u E0 hb0; have E := Lib.hid E0; clear E0 hb0) | ((with_reducible refine kn_box_int E.out rfl rfl rfl ?_); clear E; intro g u E0 hb0; have E := Lib.hid E0; clear E0 hb0) | ((with_reducible refine kn_box_slice E.out rfl rfl rfl ?_); clear E; intro g u E0 hb0; have E := Lib.hid E0; clear E0 hb0) | ((with_reducible refine kn_box_bool E.out rfl rfl rfl ?_); clear E; intro g u E0 hb0; have E := Lib.hid E0; clear E0 hb0) | ((with_reducible refine kn_box_func E.out rfl rfl rfl ?_); clear E; intro g u E0 hb0; have E := Lib.hid E0; clear E0 hb0))
  go_ret
  exact ⟨rfl, E.out.bel⟩
end Go.Proofs.Ytfdlfhmkpkckdaa
