/- The law's first look at blocks of BC7. -/
import Derived.Test.YtnoailihkjccbaaDoorB7Dec
import Derived.Test.YtnoailihkjccbaaDoorB7Six
set_option linter.all false
namespace Go.Proofs.YtnoailihkjccbaaDoor
open Go.RowKit
open Bi Lv Bt B7

namespace B7
def awX : List Int := [127, 0, 64, 127, 0, 0, 64, 127]
def awM : List Int := [1, 0]
def awW : List Int := [0, 15, 8, 0, 0, 0, 0, 0, 0, 0, 0, 0, 0, 0, 0, 0]
def awB : List Nat := [192, 63, 0, 0, 0, 2, 255, 255, 240, 8, 0, 0, 0, 0, 0, 0]
theorem aw_six : siV awX awM awW = awB ∧ siE awX awM awW = 0 := by decide +kernel
theorem aw_dec : (decV awB).take 4 = [255, 1, 129, 255] ∧ ((decV awB).drop 4).take 4 = [0, 0, 128, 254] := by decide +kernel
theorem aw_zero : decV zz = Bc.z64 := by decide +kernel
theorem aw_mode : modeN (awB.getD 0 0) = 6 := by decide +kernel
theorem decV_length (xs : List Nat) : (decV xs).length = 64 := by
  unfold decV
  simp only
  split
  · simp
  · exact tileV_length _ _ _
theorem in64_at {l : List Int} (h : ∀ x ∈ l, in64 x) (i : Nat) : in64 (l.getD i 0) := by
  rcases Nat.lt_or_ge i l.length with h1 | h1
  · rw [List.getD_eq_getElem?_getD, List.getElem?_eq_getElem h1]
    exact h _ (List.getElem_mem h1)
  · rw [List.getD_eq_getElem?_getD, List.getElem?_eq_none h1]
    unfold in64
    exact ⟨by decide, by decide⟩
instance (n : Int) : Decidable (in64 n) := inferInstanceAs (Decidable (_ ∧ _))
end B7

set_option maxHeartbeats 8000000 in
set_option maxRecDepth 100000 in
theorem awake7 (w : World) (hT : Tabs w) : Calls Tryd.prog 8 #[] w fun e w' => e = .returned (.bool true) ∧ Below w.heap.size w w' := by
  have E := Lib.hid ((Kn.start w).arg_tabs hT)
  have hJ := Lib.hid (fun u => show Calls Tryd.prog 13 #[.agg #[.int .i64 127, .int .i64 0, .int .i64 64, .int .i64 127, .int .i64 0, .int .i64 0, .int .i64 64, .int .i64 127], .agg #[.int .i64 1, .int .i64 0], .agg #[.int .i64 0, .int .i64 15, .int .i64 8, .int .i64 0, .int .i64 0, .int .i64 0, .int .i64 0, .int .i64 0, .int .i64 0, .int .i64 0, .int .i64 0, .int .i64 0, .int .i64 0, .int .i64 0, .int .i64 0, .int .i64 0]] u (Laid u awB 0) from by
    have h := six_any awX awM awW u rfl rfl rfl (in64_at (by decide)) (in64_at (by decide)) (in64_at (by decide))
    rw [aw_six.1, aw_six.2] at h
    exact h)
  have hD1 := Lib.hid (fun A c u hT hu => show Calls Tryd.prog 9 #[.slice A 16 c] u (fun e w' => e = .returned (.tuple #[arr (decV awB), .int .i64 0]) ∧ Below u.heap.size u w') from decode7_any A 16 c awB u hT hu (by omega))
  have hD2 := Lib.hid (fun A c u hT hu => show Calls Tryd.prog 9 #[.slice A 16 c] u (fun e w' => e = .returned (.tuple #[arr Bc.z64, .int .i64 0]) ∧ Below u.heap.size u w') from by
    have h := decode7_any A 16 c zz u hT hu (by omega)
    rw [show deV7 16 zz = Bc.z64 from aw_zero] at h
    exact h)
  have hM1 := Lib.hid (fun A c u hu => show Calls Tryd.prog 11 #[.slice A 16 c] u (fun e w' => e = .returned (.int .i64 6) ∧ u = w') from by
    have h := mode_ok A c awB u hu
    rw [aw_mode] at h
    exact h)
  have hM2 := Lib.hid (fun u => mode_no none 0 0 u (by omega) (by omega))
  have l1 := decV_length awB
  obtain ⟨e0, e1⟩ := aw_dec
  have X16 : awB.length = 16 := rfl
  have hzl : Hid (∀ x ∈ zz, x < 256) := zz_lt
  have hz64 : Hid (Bc.z64.length = 64) := Bc.z64_length
  have hBu := built_z64
  have hQ : ∀ u, (Op.equalIn 10000 27 (.agg (i64s Bc.z64).toArray) (.agg #[.int .i64 0, .int .i64 0, .int .i64 0, .int .i64 0, .int .i64 0, .int .i64 0, .int .i64 0, .int .i64 0, .int .i64 0, .int .i64 0, .int .i64 0, .int .i64 0, .int .i64 0, .int .i64 0, .int .i64 0, .int .i64 0, .int .i64 0, .int .i64 0, .int .i64 0, .int .i64 0, .int .i64 0, .int .i64 0, .int .i64 0, .int .i64 0, .int .i64 0, .int .i64 0, .int .i64 0, .int .i64 0, .int .i64 0, .int .i64 0, .int .i64 0, .int .i64 0, .int .i64 0, .int .i64 0, .int .i64 0, .int .i64 0, .int .i64 0, .int .i64 0, .int .i64 0, .int .i64 0, .int .i64 0, .int .i64 0, .int .i64 0, .int .i64 0, .int .i64 0, .int .i64 0, .int .i64 0, .int .i64 0, .int .i64 0, .int .i64 0, .int .i64 0, .int .i64 0, .int .i64 0, .int .i64 0, .int .i64 0, .int .i64 0, .int .i64 0, .int .i64 0, .int .i64 0, .int .i64 0, .int .i64 0, .int .i64 0, .int .i64 0, .int .i64 0])).run Tryd.prog u = .ok true u := fun u => by
    have h := eq_tile Bc.z64 Bc.z64 Bc.z64_length Bc.z64_length u
    rw [beq_self_eq_true] at h
    exact h
  generalize decV awB = T1 at *
  generalize Bc.z64 = Z at *
  replace e0 := Lib.hid e0
  replace e1 := Lib.hid e1
  have q0 : ∀ u, (Op.equalIn 10000 25 (.agg #[.int .i64 255, .int .i64 1, .int .i64 129, .int .i64 255]) (.agg #[.int .i64 255, .int .i64 1, .int .i64 129, .int .i64 255])).run Tryd.prog u = .ok true u := fun u => eq_texel [255, 1, 129, 255] [255, 1, 129, 255] rfl rfl u
  have p0 : ∀ u, (Op.equalIn 10000 25 (arr [255, 1, 129, 255]) (.agg #[.int .i64 255, .int .i64 1, .int .i64 129, .int .i64 255])).run Tryd.prog u = .ok true u := fun u => eq_texel [255, 1, 129, 255] [255, 1, 129, 255] rfl rfl u
  have q1 : ∀ u, (Op.equalIn 10000 25 (.agg #[.int .i64 0, .int .i64 0, .int .i64 128, .int .i64 254]) (.agg #[.int .i64 0, .int .i64 0, .int .i64 128, .int .i64 254])).run Tryd.prog u = .ok true u := fun u => eq_texel [0, 0, 128, 254] [0, 0, 128, 254] rfl rfl u
  have p1 : ∀ u, (Op.equalIn 10000 25 (arr [0, 0, 128, 254]) (.agg #[.int .i64 0, .int .i64 0, .int .i64 128, .int .i64 254])).run Tryd.prog u = .ok true u := fun u => eq_texel [0, 0, 128, 254] [0, 0, 128, 254] rfl rfl u
  go_enter Tryd.func8, Tryd.ntmps8
  go_wp2_with (first
    | (go_at_call 13; refine (hJ.out _).mono ?_; clear hJ; rintro e w1 ⟨A1, n1, c1, rfl, hB1, hn1, hc1, hb⟩; obtain rfl : n1 = 16 := hB1.1.symm.trans X16; have E1 := Lib.hid (E.out.later hb); clear hb E; have E := E1; clear E1; have E1 := Lib.hid (E.out.new_bs hB1); clear E hB1; have E := E1; clear E1)
    | (go_at_call 9; first
      | (refine (hD1.out _ _ _ (E.out.get (by simp)) (E.out.bs (by simp))).mono ?_; clear hD1; rintro e w2 ⟨rfl, hb⟩; have E1 := Lib.hid (E.out.later hb); clear hb E; have E := E1; clear E1)
      | (refine (hD2.out _ _ _ (E.out.get (by simp)) (E.out.row_bs (g := g22) hzl.out 16 rfl)).mono ?_; clear hD2; rintro e w3 ⟨rfl, hb⟩; have E1 := Lib.hid (E.out.later hb); clear hb E; have E := E1; clear E1))
    | (go_at_call 11; first
      | (refine (hM1.out _ _ _ (E.out.bs (by simp))).mono ?_; clear hM1; rintro e w4 ⟨rfl, rfl⟩)
      | (refine (hM2.out _).mono ?_; clear hM2; rintro e w4 ⟨rfl, rfl⟩))
    | ((with_reducible refine kn_make16 E.out rfl rfl rfl rfl ?_); clear E; intro g22 u E0 hB; clear hB; have E := Lib.hid E0; clear E0)
    | ((with_reducible refine kn_loadp_if (g := g3) E.out rfl rfl rfl ?hl ?_); (case hl => omega); simp only [List.drop_zero]; first | rw [e0.out] | rw [e1.out])
    | ((with_reducible refine kn_loads_if (g := g5) E.out rfl rfl rfl ?hl ?_); (case hl => rw [i64s_length]; exact hz64.out))
    | ((with_reducible refine kn_load E.out rfl rfl rfl rfl ?_)) | ((with_reducible refine kn_load_if E.out rfl rfl rfl rfl ?_)) | ((with_reducible refine kn_loads E.out rfl rfl rfl ?_ ?_); (focus (first | rfl | (simp only [i64s_length, u8s_length]; first | rfl | assumption | omega)))) | ((with_reducible refine kn_loads_if E.out rfl rfl rfl ?_ ?_); (focus (first | rfl | (simp only [i64s_length, u8s_length]; first | rfl | assumption | omega)))) | ((with_reducible refine kn_store1_int E.out rfl rfl rfl rfl rfl ?_); clear E; intro u E0; have E := Lib.hid E0; clear E0) | ((with_reducible refine kn_store1_slice E.out rfl rfl rfl rfl rfl ?_); clear E; intro u E0; have E := Lib.hid E0; clear E0) | ((with_reducible refine kn_store1_bool E.out rfl rfl rfl rfl rfl ?_); clear E; intro u E0; have E := Lib.hid E0; clear E0) | ((with_reducible refine kn_stores E.out rfl rfl rfl rfl rfl ?_ ?_ ?_); (focus (first | exact ⟨rfl, rfl⟩ | (simp only [i64s_length, u8s_length]; refine ⟨?_, ?_⟩ <;> first | rfl | assumption | omega))); (focus (first | exact i64s_one _ | exact u8s_one _ | simp [Value.oneCell'])); clear E; intro u E0; have E := Lib.hid E0; clear E0) | ((with_reducible refine kn_alloc (o := ⟨some 3, _, _, _, _, _⟩) E.out rfl rfl ?_); clear E; intro g3 u E0 hb0; have E := Lib.hid E0; clear E0 hb0) | ((with_reducible refine kn_box (o := ⟨some 3, _, _, _, _, _⟩) E.out rfl rfl rfl ?_); clear E; intro g3 u E0 hb0; have E := Lib.hid E0; clear E0 hb0) | ((with_reducible refine kn_box_int (o := ⟨some 3, _, _, _, _, _⟩) E.out rfl rfl rfl ?_); clear E; intro g3 u E0 hb0; have E := Lib.hid E0; clear E0 hb0) | ((with_reducible refine kn_box_slice (o := ⟨some 3, _, _, _, _, _⟩) E.out rfl rfl rfl ?_); clear E; intro g3 u E0 hb0; have E := Lib.hid E0; clear E0 hb0) | ((with_reducible refine kn_box_bool (o := ⟨some 3, _, _, _, _, _⟩) E.out rfl rfl rfl ?_); clear E; intro g3 u E0 hb0; have E := Lib.hid E0; clear E0 hb0) | ((with_reducible refine kn_box_func (o := ⟨some 3, _, _, _, _, _⟩) E.out rfl rfl rfl ?_); clear E; intro g3 u E0 hb0; have E := Lib.hid E0; clear E0 hb0) | ((with_reducible refine kn_alloc (o := ⟨some 5, _, _, _, _, _⟩) E.out rfl rfl ?_); clear E; intro g5 u E0 hb0; have E := Lib.hid E0; clear E0 hb0) | ((with_reducible refine kn_box (o := ⟨some 5, _, _, _, _, _⟩) E.out rfl rfl rfl ?_); clear E; intro g5 u E0 hb0; have E := Lib.hid E0; clear E0 hb0) | ((with_reducible refine kn_box_int (o := ⟨some 5, _, _, _, _, _⟩) E.out rfl rfl rfl ?_); clear E; intro g5 u E0 hb0; have E := Lib.hid E0; clear E0 hb0) | ((with_reducible refine kn_box_slice (o := ⟨some 5, _, _, _, _, _⟩) E.out rfl rfl rfl ?_); clear E; intro g5 u E0 hb0; have E := Lib.hid E0; clear E0 hb0) | ((with_reducible refine kn_box_bool (o := ⟨some 5, _, _, _, _, _⟩) E.out rfl rfl rfl ?_); clear E; intro g5 u E0 hb0; have E := Lib.hid E0; clear E0 hb0) | ((with_reducible refine kn_box_func (o := ⟨some 5, _, _, _, _, _⟩) E.out rfl rfl rfl ?_); clear E; intro g5 u E0 hb0; have E := Lib.hid E0; clear E0 hb0) | ((with_reducible refine kn_alloc E.out rfl rfl ?_); clear E; intro g u E0 hb0; have E := Lib.hid E0; clear E0 hb0) | ((with_reducible refine kn_box E.out rfl rfl rfl ?_); clear E; intro g u E0 hb0; have E := Lib.hid E0; clear E0 hb0) | ((with_reducible refine kn_box_int E.out rfl rfl rfl ?_); clear E; intro g u E0 hb0; have E := Lib.hid E0; clear E0 hb0) | ((with_reducible refine kn_box_slice E.out rfl rfl rfl ?_); clear E; intro g u E0 hb0; have E := Lib.hid E0; clear E0 hb0) | ((with_reducible refine kn_box_bool E.out rfl rfl rfl ?_); clear E; intro g u E0 hb0; have E := Lib.hid E0; clear E0 hb0) | ((with_reducible refine kn_box_func E.out rfl rfl rfl ?_); clear E; intro g u E0 hb0; have E := Lib.hid E0; clear E0 hb0))
  go_ret
  exact ⟨rfl, E.out.bel⟩
end Go.Proofs.YtnoailihkjccbaaDoor
