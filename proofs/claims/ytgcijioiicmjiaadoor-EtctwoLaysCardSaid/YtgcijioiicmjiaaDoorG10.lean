/- E2Fit, E2Fin, E2LayP: merged. -/
import Derived.Test.YtgcijioiicmjiaaDoorE2Put
import Derived.Test.YtgcijioiicmjiaaDoorG8
import Derived.Test.YtgcijioiicmjiaaDoorG9
import Derived.Test.YtgcijioiicmjiaaDoorG7
set_option linter.all false
namespace Go.Proofs.YtgcijioiicmjiaaDoor
open Go.RowKit
open Bi Lv Eo Et

instance : Aggr 82 54 := ⟨⟨_, Tryd.underlying82, rfl⟩, by kernel_rfl⟩
instance : Aggr 35 9 := ⟨⟨_, Tryd.underlying35, rfl⟩, by kernel_rfl⟩
instance : ZeroV 81 (i64s [0, 0, 0, 0, 0, 0, 0, 0, 0, 0, 0, 0, 0, 0, 0, 0, 0, 0]) := .of (by kernel_rfl)
namespace Et
/-- A number of a planar colour may be. -/
def okC (zs : List Int) (i c : Nat) : Prop := 0 ≤ zs.getD (i * 3 + c) 0 ∧ zs.getD (i * 3 + c) 0 < ((2 ^ wdN (plM i c) 3 : Nat) : Int)
theorem plL_part (i : Nat) (hi : i < 3) : (plL.drop (i * 18)).take 18 = rV3 (plA i) (plM i) := by
  obtain rfl | rfl | rfl : i = 0 ∨ i = 1 ∨ i = 2 := by omega
  all_goals rfl
theorem pl_wd : ∀ i, i < 3 → ∀ c, c < 3 → wdN (plM i c) 3 ≤ 7 := by decide
end Et
set_option maxHeartbeats 4000000 in
set_option maxRecDepth 100000 in
theorem fit_yes (zs : List Int) (hz : zs.length = 9) (hok : ∀ i, i < 3 → ∀ c, c < 3 → okC zs i c) (w : World) (hP : cellsF 1 (i64s plL) w) :
    Calls Tryd.prog 33 #[arr zs] w fun e w' => e = .returned (.bool true) ∧ Below w.heap.size w w' := by
  have E := Lib.hid ((Kn.start w).arg_cells hP)
  have HI := Lib.hid (fun i (hi : i < 3) u => run_index_agg (P := Tryd.prog) 82 81 3 18 Tryd.underlying82 Tryd.underlying81 rfl (by kernel_rfl) plL i hi rfl u)
  have HIP := Lib.hid (fun i (hi : i < 3) => plL_part i hi)
  have HJ := Lib.hid (fun i c (hc : c < 3) u => run_index_agg (P := Tryd.prog) 81 80 3 6 Tryd.underlying81 Tryd.underlying80 rfl (by kernel_rfl) (rV3 (plA i) (plM i)) c hc rfl u)
  have HJP := Lib.hid (fun i c (hc : c < 3) => rV3_part (plA i) (plM i) c hc)
  have HW := Lib.hid (fun i (hi : i < 3) c (hc : c < 3) u => width3 (plA i c) (plM i c) u (pl_ok i hi c hc))
  have HO := Lib.hid hok
  have HWB := Lib.hid pl_wd
  have hpl : Hid ((i64s plL).length = 54) := rfl
  have HR3 : Hid (∀ i, (i64s (rV3 (plA i) (plM i))).length = 18) := Lib.hid (fun _ => rfl)
  have HR1 : Hid (∀ i c, (i64s (rV (plA i c) (plM i c))).length = 6) := Lib.hid (fun _ _ => rfl)
  clear hP hok
  generalize plL = PL at *
  go_enter Tryd.func33, Tryd.ntmps33
  go_wp2_with (first
    | ((with_reducible refine kn_gloads (g := 1) (vs := i64s PL) E.out rfl rfl ?hx ?h1 ?h2 ?_); (case hx => rfl); (case h1 => simp); (case h2 => exact hpl.out))
    | ((with_reducible refine kn_load E.out rfl rfl rfl rfl ?_)) | ((with_reducible refine kn_load_if E.out rfl rfl rfl rfl ?_)) | ((with_reducible refine kn_loads E.out rfl rfl rfl ?_ ?_); (focus (first | rfl | (simp only [i64s_length, u8s_length]; first | rfl | assumption | omega)))) | ((with_reducible refine kn_loads_if E.out rfl rfl rfl ?_ ?_); (focus (first | rfl | (simp only [i64s_length, u8s_length]; first | rfl | assumption | omega)))) | ((with_reducible refine kn_stores E.out rfl rfl rfl rfl rfl ?_ ?_ ?_); (focus (first | exact ⟨rfl, rfl⟩ | (simp only [i64s_length, u8s_length]; refine ⟨?_, ?_⟩ <;> first | rfl | assumption | omega))); (focus (first | exact i64s_one _ | exact u8s_one _ | simp [Value.oneCell'])); clear E; intro u E0; have E := Lib.hid E0; clear E0) | ((with_reducible refine kn_alloc (o := ⟨some 1, _, _, _, _, _⟩) E.out rfl rfl ?_); clear E; intro g1 u E0 hb0; have E := Lib.hid E0; clear E0 hb0) | ((with_reducible refine kn_box (o := ⟨some 1, _, _, _, _, _⟩) E.out rfl rfl rfl ?_); clear E; intro g1 u E0 hb0; have E := Lib.hid E0; clear E0 hb0) | ((with_reducible refine kn_box_int (o := ⟨some 1, _, _, _, _, _⟩) E.out rfl rfl rfl ?_); clear E; intro g1 u E0 hb0; have E := Lib.hid E0; clear E0 hb0) | ((with_reducible refine kn_box_slice (o := ⟨some 1, _, _, _, _, _⟩) E.out rfl rfl rfl ?_); clear E; intro g1 u E0 hb0; have E := Lib.hid E0; clear E0 hb0) | ((with_reducible refine kn_box_bool (o := ⟨some 1, _, _, _, _, _⟩) E.out rfl rfl rfl ?_); clear E; intro g1 u E0 hb0; have E := Lib.hid E0; clear E0 hb0) | ((with_reducible refine kn_box_func (o := ⟨some 1, _, _, _, _, _⟩) E.out rfl rfl rfl ?_); clear E; intro g1 u E0 hb0; have E := Lib.hid E0; clear E0 hb0))
  go_loopw [9] (fun ck wr => ∃ i : Nat, i ≤ 3 ∧ ck = .int .i64 (i : Int) ∧ Hid (Kn w [.row g1 35 (i64s zs)] [cellsF 1 (i64s PL)] wr)) (fun ck _ => 3 - (intOf ck).toNat)
  case atStart => exact ⟨0, by omega, rfl, E⟩
  case round =>
    clear E
    obtain ⟨i, hi, rfl, E⟩ := hrel
    by_cases hlt : i < 3
    · have hi3 : (i : Int) < 3 := by omega
      have hix : ∀ u, (Instr.index 82 (.agg (i64s PL).toArray) (.int .i64 (i : Int))).run Tryd.prog u = .ok (arr ((PL.drop (i * 18)).take 18)) u := fun u => HI.out i hlt u
      rw [HIP.out i hlt] at hix
      have hJ := Lib.hid (fun c (hc : c < 3) u => HJ.out i c hc u)
      have hJP := Lib.hid (fun c (hc : c < 3) => HJP.out i c hc)
      have hW := Lib.hid (fun c (hc : c < 3) u => HW.out i hlt c hc u)
      have hO := Lib.hid (fun c (hc : c < 3) => HO.out i hlt c hc)
      have hWB := Lib.hid (fun c (hc : c < 3) => HWB.out i hlt c hc)
      have hr3 := Lib.hid (HR3.out i)
      have hr1 := Lib.hid (fun c => HR1.out i c)
      clear HI HIP HJ HJP HW HO HWB HR3 HR1
      obtain ⟨R3, hR3⟩ : ∃ z, rV3 (plA i) (plM i) = z := ⟨_, rfl⟩
      rw [hR3] at hix hJ hJP hr3
      clear hR3
      go_wp2_with (first
        | ((with_reducible refine kn_stores (g := g4) (vs := i64s R3) E.out rfl rfl rfl rfl rfl ?hl ?h1 ?_); (case hl => exact ⟨rfl, hr3.out⟩); (case h1 => exact i64s_one _); clear E; intro u E0; have E := Lib.hid E0; clear E0)
        | ((with_reducible refine kn_loads (g := g4) E.out rfl rfl rfl ?hl ?_); (case hl => exact hr3.out))
        | ((with_reducible refine kn_load E.out rfl rfl rfl rfl ?_)) | ((with_reducible refine kn_load_if E.out rfl rfl rfl rfl ?_)) | ((with_reducible refine kn_loads E.out rfl rfl rfl ?_ ?_); (focus (first | rfl | (simp only [i64s_length, u8s_length]; first | rfl | assumption | omega)))) | ((with_reducible refine kn_loads_if E.out rfl rfl rfl ?_ ?_); (focus (first | rfl | (simp only [i64s_length, u8s_length]; first | rfl | assumption | omega)))) | ((with_reducible refine kn_stores E.out rfl rfl rfl rfl rfl ?_ ?_ ?_); (focus (first | exact ⟨rfl, rfl⟩ | (simp only [i64s_length, u8s_length]; refine ⟨?_, ?_⟩ <;> first | rfl | assumption | omega))); (focus (first | exact i64s_one _ | exact u8s_one _ | simp [Value.oneCell'])); clear E; intro u E0; have E := Lib.hid E0; clear E0) | ((with_reducible refine kn_alloc (o := ⟨some 4, _, _, _, _, _⟩) E.out rfl rfl ?_); clear E; intro g4 u E0 hb0; have E := Lib.hid E0; clear E0 hb0) | ((with_reducible refine kn_box (o := ⟨some 4, _, _, _, _, _⟩) E.out rfl rfl rfl ?_); clear E; intro g4 u E0 hb0; have E := Lib.hid E0; clear E0 hb0) | ((with_reducible refine kn_box_int (o := ⟨some 4, _, _, _, _, _⟩) E.out rfl rfl rfl ?_); clear E; intro g4 u E0 hb0; have E := Lib.hid E0; clear E0 hb0) | ((with_reducible refine kn_box_slice (o := ⟨some 4, _, _, _, _, _⟩) E.out rfl rfl rfl ?_); clear E; intro g4 u E0 hb0; have E := Lib.hid E0; clear E0 hb0) | ((with_reducible refine kn_box_bool (o := ⟨some 4, _, _, _, _, _⟩) E.out rfl rfl rfl ?_); clear E; intro g4 u E0 hb0; have E := Lib.hid E0; clear E0 hb0) | ((with_reducible refine kn_box_func (o := ⟨some 4, _, _, _, _, _⟩) E.out rfl rfl rfl ?_); clear E; intro g4 u E0 hb0; have E := Lib.hid E0; clear E0 hb0))
      go_loopw [14] (fun ck wr => ∃ c : Nat, c ≤ 3 ∧ ck = .int .i64 (c : Int) ∧ Hid (Kn w [.row g4 81 (i64s R3), .row g1 35 (i64s zs)] [cellsF 1 (i64s PL)] wr)) (fun ck _ => 3 - (intOf ck).toNat)
      case atStart => exact ⟨0, by omega, rfl, E⟩
      case round =>
        clear E
        obtain ⟨c, hc, rfl, E⟩ := hrel
        by_cases hltc : c < 3
        · have hc3 : (c : Int) < 3 := by omega
          have hjx : ∀ u, (Instr.index 81 (.agg (i64s R3).toArray) (.int .i64 (c : Int))).run Tryd.prog u = .ok (arr ((R3.drop (c * 6)).take 6)) u := fun u => hJ.out c hltc u
          rw [hJP.out c hltc] at hjx
          have hWc := Lib.hid (fun u => hW.out c hltc u)
          have ho := hO.out c hltc
          have hwb := hWB.out c hltc
          have hrc := Lib.hid (hr1.out c)
          unfold okC at ho
          clear hJ hJP hW hO hWB hr1
          obtain ⟨R1, hR1⟩ : ∃ z, rV (plA i c) (plM i c) = z := ⟨_, rfl⟩
          rw [hR1] at hjx hWc hrc
          clear hR1
          generalize wdN (plM i c) 3 = wv at *
          have hzi := i64s_get zs (i * 3 + c) (by omega)
          obtain ⟨nv, hnv⟩ : ∃ z, zs.getD (i * 3 + c) 0 = z := ⟨_, rfl⟩
          rw [hnv] at ho hzi
          replace hzi := Lib.hid hzi
          clear hnv
          have h2 : 2 ^ wv ≤ 2 ^ 7 := Nat.pow_le_pow_right (by omega) hwb
          have e2 : (2 : Int) ^ wv = ((2 ^ wv : Nat) : Int) := by simp
          obtain ⟨pw, hpw⟩ : ∃ z, 2 ^ wv = z := ⟨_, rfl⟩
          rw [hpw] at ho h2
          have s1 : wrap64 (2 ^ wv) = (pw : Int) := by rw [e2, hpw, wrap64_small _ (by omega) (by omega)]
          have s2 : wrap64 (1 * 2 ^ wv) = (pw : Int) := by rw [Int.one_mul]; exact s1
          have n1 : ¬ (nv < 0) := by omega
          have n1b : decide (nv < 0) = false := decide_eq_false n1
          have n2 : ¬ ((pw : Int) ≤ nv) := by omega
          have n2b : decide (nv ≥ (pw : Int)) = false := decide_eq_false (by omega)
          clear hpw e2
          go_wp2_with (first
            | (go_at_call 67; (with_reducible refine (hWc.out _).mono ?_); clear hWc; rintro e w1 ⟨rfl, hb⟩; have E1 := Lib.hid (E.out.later hb); clear hb E; have E := E1; clear E1)
            | ((with_reducible refine kn_stores (g := g6) (vs := i64s R1) E.out rfl rfl rfl rfl rfl ?hl ?h1 ?_); (case hl => exact ⟨rfl, hrc.out⟩); (case h1 => exact i64s_one _); clear E; intro u E0; have E := Lib.hid E0; clear E0)
            | ((with_reducible refine kn_loads_if (g := g6) E.out rfl rfl rfl ?hl ?_); (case hl => exact hrc.out))
            | ((with_reducible refine kn_load (g := g1) (i := i * 3 + c) E.out rfl rfl rfl hzi.out ?_))
            | ((with_reducible refine kn_load E.out rfl rfl rfl rfl ?_)) | ((with_reducible refine kn_load_if E.out rfl rfl rfl rfl ?_)) | ((with_reducible refine kn_loads E.out rfl rfl rfl ?_ ?_); (focus (first | rfl | (simp only [i64s_length, u8s_length]; first | rfl | assumption | omega)))) | ((with_reducible refine kn_loads_if E.out rfl rfl rfl ?_ ?_); (focus (first | rfl | (simp only [i64s_length, u8s_length]; first | rfl | assumption | omega)))) | ((with_reducible refine kn_stores E.out rfl rfl rfl rfl rfl ?_ ?_ ?_); (focus (first | exact ⟨rfl, rfl⟩ | (simp only [i64s_length, u8s_length]; refine ⟨?_, ?_⟩ <;> first | rfl | assumption | omega))); (focus (first | exact i64s_one _ | exact u8s_one _ | simp [Value.oneCell'])); clear E; intro u E0; have E := Lib.hid E0; clear E0) | ((with_reducible refine kn_alloc (o := ⟨some 6, _, _, _, _, _⟩) E.out rfl rfl ?_); clear E; intro g6 u E0 hb0; have E := Lib.hid E0; clear E0 hb0) | ((with_reducible refine kn_box (o := ⟨some 6, _, _, _, _, _⟩) E.out rfl rfl rfl ?_); clear E; intro g6 u E0 hb0; have E := Lib.hid E0; clear E0 hb0) | ((with_reducible refine kn_box_int (o := ⟨some 6, _, _, _, _, _⟩) E.out rfl rfl rfl ?_); clear E; intro g6 u E0 hb0; have E := Lib.hid E0; clear E0 hb0) | ((with_reducible refine kn_box_slice (o := ⟨some 6, _, _, _, _, _⟩) E.out rfl rfl rfl ?_); clear E; intro g6 u E0 hb0; have E := Lib.hid E0; clear E0 hb0) | ((with_reducible refine kn_box_bool (o := ⟨some 6, _, _, _, _, _⟩) E.out rfl rfl rfl ?_); clear E; intro g6 u E0 hb0; have E := Lib.hid E0; clear E0 hb0) | ((with_reducible refine kn_box_func (o := ⟨some 6, _, _, _, _, _⟩) E.out rfl rfl rfl ?_); clear E; intro g6 u E0 hb0; have E := Lib.hid E0; clear E0 hb0))
          go_roundw
          case rel => exact ⟨c + 1, by omega, by go_num, E.out.part _ _ (by repeat (first | exact List.Sublist.refl _ | apply List.Sublist.cons_cons | apply List.Sublist.cons)) (by simp)⟩
          case measure => simp [intOf]; try omega
        · have hc3 : ¬ ((c : Int) < 3) := by omega
          clear hJ hJP hW hO hWB hr1
          go_wp2_with (first | ((with_reducible refine kn_load E.out rfl rfl rfl rfl ?_)) | ((with_reducible refine kn_load_if E.out rfl rfl rfl rfl ?_)) | ((with_reducible refine kn_loads E.out rfl rfl rfl ?_ ?_); (focus (first | rfl | (simp only [i64s_length, u8s_length]; first | rfl | assumption | omega)))) | ((with_reducible refine kn_loads_if E.out rfl rfl rfl ?_ ?_); (focus (first | rfl | (simp only [i64s_length, u8s_length]; first | rfl | assumption | omega)))) | ((with_reducible refine kn_stores E.out rfl rfl rfl rfl rfl ?_ ?_ ?_); (focus (first | exact ⟨rfl, rfl⟩ | (simp only [i64s_length, u8s_length]; refine ⟨?_, ?_⟩ <;> first | rfl | assumption | omega))); (focus (first | exact i64s_one _ | exact u8s_one _ | simp [Value.oneCell'])); clear E; intro u E0; have E := Lib.hid E0; clear E0))
          go_roundw
          case rel => exact ⟨i + 1, by omega, by go_num, E.out.part _ _ (by repeat (first | exact List.Sublist.refl _ | apply List.Sublist.cons_cons | apply List.Sublist.cons)) (by simp)⟩
          case measure => simp [intOf]; try omega
    · have hi3 : ¬ ((i : Int) < 3) := by omega
      clear HI HIP HJ HJP HW HO HWB HR3 HR1
      go_wp2_with (first | ((with_reducible refine kn_load E.out rfl rfl rfl rfl ?_)) | ((with_reducible refine kn_load_if E.out rfl rfl rfl rfl ?_)) | ((with_reducible refine kn_loads E.out rfl rfl rfl ?_ ?_); (focus (first | rfl | (simp only [i64s_length, u8s_length]; first | rfl | assumption | omega)))) | ((with_reducible refine kn_loads_if E.out rfl rfl rfl ?_ ?_); (focus (first | rfl | (simp only [i64s_length, u8s_length]; first | rfl | assumption | omega)))) | ((with_reducible refine kn_stores E.out rfl rfl rfl rfl rfl ?_ ?_ ?_); (focus (first | exact ⟨rfl, rfl⟩ | (simp only [i64s_length, u8s_length]; refine ⟨?_, ?_⟩ <;> first | rfl | assumption | omega))); (focus (first | exact i64s_one _ | exact u8s_one _ | simp [Value.oneCell'])); clear E; intro u E0; have E := Lib.hid E0; clear E0))
      go_ret
      exact ⟨rfl, E.out.bel⟩

end Go.Proofs.YtgcijioiicmjiaaDoor
set_option linter.all false
namespace Go.Proofs.YtgcijioiicmjiaaDoor
open Go.RowKit
open Bi Lv Eo Et

set_option maxHeartbeats 4000000 in
set_option maxRecDepth 100000 in
/-- The first number that may not be: that of row i0, place c0. -/
theorem fit_no (zs : List Int) (hz : zs.length = 9) (i0 c0 : Nat) (hi0 : i0 < 3) (hc0 : c0 < 3) (hok : ∀ i, i < 3 → ∀ c, c < 3 → i * 3 + c < i0 * 3 + c0 → okC zs i c) (hbad : ¬ okC zs i0 c0) (w : World) (hP : cellsF 1 (i64s plL) w) :
    Calls Tryd.prog 33 #[arr zs] w fun e w' => e = .returned (.bool false) ∧ Below w.heap.size w w' := by
  have E := Lib.hid ((Kn.start w).arg_cells hP)
  have HI := Lib.hid (fun i (hi : i < 3) u => run_index_agg (P := Tryd.prog) 82 81 3 18 Tryd.underlying82 Tryd.underlying81 rfl (by kernel_rfl) plL i hi rfl u)
  have HIP := Lib.hid (fun i (hi : i < 3) => plL_part i hi)
  have HJ := Lib.hid (fun i c (hc : c < 3) u => run_index_agg (P := Tryd.prog) 81 80 3 6 Tryd.underlying81 Tryd.underlying80 rfl (by kernel_rfl) (rV3 (plA i) (plM i)) c hc rfl u)
  have HJP := Lib.hid (fun i c (hc : c < 3) => rV3_part (plA i) (plM i) c hc)
  have HW := Lib.hid (fun i (hi : i < 3) c (hc : c < 3) u => width3 (plA i c) (plM i c) u (pl_ok i hi c hc))
  have HO := Lib.hid hok
  have HBad := Lib.hid hbad
  have HWB := Lib.hid pl_wd
  have hpl : Hid ((i64s plL).length = 54) := rfl
  have HR3 : Hid (∀ i, (i64s (rV3 (plA i) (plM i))).length = 18) := Lib.hid (fun _ => rfl)
  have HR1 : Hid (∀ i c, (i64s (rV (plA i c) (plM i c))).length = 6) := Lib.hid (fun _ _ => rfl)
  clear hP hok hbad
  generalize plL = PL at *
  go_enter Tryd.func33, Tryd.ntmps33
  go_wp2_with (first
    | ((with_reducible refine kn_gloads (g := 1) (vs := i64s PL) E.out rfl rfl ?hx ?h1 ?h2 ?_); (case hx => rfl); (case h1 => simp); (case h2 => exact hpl.out))
    | ((with_reducible refine kn_load E.out rfl rfl rfl rfl ?_)) | ((with_reducible refine kn_load_if E.out rfl rfl rfl rfl ?_)) | ((with_reducible refine kn_loads E.out rfl rfl rfl ?_ ?_); (focus (first | rfl | (simp only [i64s_length, u8s_length]; first | rfl | assumption | omega)))) | ((with_reducible refine kn_loads_if E.out rfl rfl rfl ?_ ?_); (focus (first | rfl | (simp only [i64s_length, u8s_length]; first | rfl | assumption | omega)))) | ((with_reducible refine kn_stores E.out rfl rfl rfl rfl rfl ?_ ?_ ?_); (focus (first | exact ⟨rfl, rfl⟩ | (simp only [i64s_length, u8s_length]; refine ⟨?_, ?_⟩ <;> first | rfl | assumption | omega))); (focus (first | exact i64s_one _ | exact u8s_one _ | simp [Value.oneCell'])); clear E; intro u E0; have E := Lib.hid E0; clear E0) | ((with_reducible refine kn_alloc (o := ⟨some 1, _, _, _, _, _⟩) E.out rfl rfl ?_); clear E; intro g1 u E0 hb0; have E := Lib.hid E0; clear E0 hb0) | ((with_reducible refine kn_box (o := ⟨some 1, _, _, _, _, _⟩) E.out rfl rfl rfl ?_); clear E; intro g1 u E0 hb0; have E := Lib.hid E0; clear E0 hb0) | ((with_reducible refine kn_box_int (o := ⟨some 1, _, _, _, _, _⟩) E.out rfl rfl rfl ?_); clear E; intro g1 u E0 hb0; have E := Lib.hid E0; clear E0 hb0) | ((with_reducible refine kn_box_slice (o := ⟨some 1, _, _, _, _, _⟩) E.out rfl rfl rfl ?_); clear E; intro g1 u E0 hb0; have E := Lib.hid E0; clear E0 hb0) | ((with_reducible refine kn_box_bool (o := ⟨some 1, _, _, _, _, _⟩) E.out rfl rfl rfl ?_); clear E; intro g1 u E0 hb0; have E := Lib.hid E0; clear E0 hb0) | ((with_reducible refine kn_box_func (o := ⟨some 1, _, _, _, _, _⟩) E.out rfl rfl rfl ?_); clear E; intro g1 u E0 hb0; have E := Lib.hid E0; clear E0 hb0))
  go_loopw [9] (fun ck wr => ∃ i : Nat, i ≤ i0 ∧ ck = .int .i64 (i : Int) ∧ Hid (Kn w [.row g1 35 (i64s zs)] [cellsF 1 (i64s PL)] wr)) (fun ck _ => 3 - (intOf ck).toNat)
  case atStart => exact ⟨0, by omega, rfl, E⟩
  case round =>
    clear E
    obtain ⟨i, hi, rfl, E⟩ := hrel
    have hlt : i < 3 := by omega
    · have hi3 : (i : Int) < 3 := by omega
      have hix : ∀ u, (Instr.index 82 (.agg (i64s PL).toArray) (.int .i64 (i : Int))).run Tryd.prog u = .ok (arr ((PL.drop (i * 18)).take 18)) u := fun u => HI.out i hlt u
      rw [HIP.out i hlt] at hix
      have hJ := Lib.hid (fun c (hc : c < 3) u => HJ.out i c hc u)
      have hJP := Lib.hid (fun c (hc : c < 3) => HJP.out i c hc)
      have hW := Lib.hid (fun c (hc : c < 3) u => HW.out i hlt c hc u)
      have hO := Lib.hid (fun c (hc : c < 3) => HO.out i hlt c hc)
      have hBd := Lib.hid (fun (h : i = i0) (c : Nat) (h2 : c = c0) => show ¬ okC zs i c from by rw [h, h2]; exact HBad.out)
      have hWB := Lib.hid (fun c (hc : c < 3) => HWB.out i hlt c hc)
      have hr3 := Lib.hid (HR3.out i)
      have hr1 := Lib.hid (fun c => HR1.out i c)
      clear HI HIP HJ HJP HW HO HWB HR3 HR1 HBad
      obtain ⟨R3, hR3⟩ : ∃ z, rV3 (plA i) (plM i) = z := ⟨_, rfl⟩
      rw [hR3] at hix hJ hJP hr3
      clear hR3
      go_wp2_with (first
        | ((with_reducible refine kn_stores (g := g4) (vs := i64s R3) E.out rfl rfl rfl rfl rfl ?hl ?h1 ?_); (case hl => exact ⟨rfl, hr3.out⟩); (case h1 => exact i64s_one _); clear E; intro u E0; have E := Lib.hid E0; clear E0)
        | ((with_reducible refine kn_loads (g := g4) E.out rfl rfl rfl ?hl ?_); (case hl => exact hr3.out))
        | ((with_reducible refine kn_load E.out rfl rfl rfl rfl ?_)) | ((with_reducible refine kn_load_if E.out rfl rfl rfl rfl ?_)) | ((with_reducible refine kn_loads E.out rfl rfl rfl ?_ ?_); (focus (first | rfl | (simp only [i64s_length, u8s_length]; first | rfl | assumption | omega)))) | ((with_reducible refine kn_loads_if E.out rfl rfl rfl ?_ ?_); (focus (first | rfl | (simp only [i64s_length, u8s_length]; first | rfl | assumption | omega)))) | ((with_reducible refine kn_stores E.out rfl rfl rfl rfl rfl ?_ ?_ ?_); (focus (first | exact ⟨rfl, rfl⟩ | (simp only [i64s_length, u8s_length]; refine ⟨?_, ?_⟩ <;> first | rfl | assumption | omega))); (focus (first | exact i64s_one _ | exact u8s_one _ | simp [Value.oneCell'])); clear E; intro u E0; have E := Lib.hid E0; clear E0) | ((with_reducible refine kn_alloc (o := ⟨some 4, _, _, _, _, _⟩) E.out rfl rfl ?_); clear E; intro g4 u E0 hb0; have E := Lib.hid E0; clear E0 hb0) | ((with_reducible refine kn_box (o := ⟨some 4, _, _, _, _, _⟩) E.out rfl rfl rfl ?_); clear E; intro g4 u E0 hb0; have E := Lib.hid E0; clear E0 hb0) | ((with_reducible refine kn_box_int (o := ⟨some 4, _, _, _, _, _⟩) E.out rfl rfl rfl ?_); clear E; intro g4 u E0 hb0; have E := Lib.hid E0; clear E0 hb0) | ((with_reducible refine kn_box_slice (o := ⟨some 4, _, _, _, _, _⟩) E.out rfl rfl rfl ?_); clear E; intro g4 u E0 hb0; have E := Lib.hid E0; clear E0 hb0) | ((with_reducible refine kn_box_bool (o := ⟨some 4, _, _, _, _, _⟩) E.out rfl rfl rfl ?_); clear E; intro g4 u E0 hb0; have E := Lib.hid E0; clear E0 hb0) | ((with_reducible refine kn_box_func (o := ⟨some 4, _, _, _, _, _⟩) E.out rfl rfl rfl ?_); clear E; intro g4 u E0 hb0; have E := Lib.hid E0; clear E0 hb0))
      go_loopw [14] (fun ck wr => ∃ c : Nat, c ≤ 3 ∧ (i = i0 → c ≤ c0) ∧ ck = .int .i64 (c : Int) ∧ Hid (Kn w [.row g4 81 (i64s R3), .row g1 35 (i64s zs)] [cellsF 1 (i64s PL)] wr)) (fun ck _ => 3 - (intOf ck).toNat)
      case atStart => exact ⟨0, by omega, by omega, rfl, E⟩
      case round =>
        clear E
        obtain ⟨c, hc, hci, rfl, E⟩ := hrel
        by_cases hltc : c < 3
        · have hc3 : (c : Int) < 3 := by omega
          have hjx : ∀ u, (Instr.index 81 (.agg (i64s R3).toArray) (.int .i64 (c : Int))).run Tryd.prog u = .ok (arr ((R3.drop (c * 6)).take 6)) u := fun u => hJ.out c hltc u
          rw [hJP.out c hltc] at hjx
          have hWc := Lib.hid (fun u => hW.out c hltc u)
          by_cases hq : i = i0 ∧ c = c0
          · have ho := hBd.out hq.1 c hq.2
            clear hq hci
            have hwb := hWB.out c hltc
            have hrc := Lib.hid (hr1.out c)
            unfold okC at ho
            clear hJ hJP hW hO hWB hr1 hBd
            obtain ⟨R1, hR1⟩ : ∃ z, rV (plA i c) (plM i c) = z := ⟨_, rfl⟩
            rw [hR1] at hjx hWc hrc
            clear hR1
            generalize wdN (plM i c) 3 = wv at *
            have hzi := i64s_get zs (i * 3 + c) (by omega)
            obtain ⟨nv, hnv⟩ : ∃ z, zs.getD (i * 3 + c) 0 = z := ⟨_, rfl⟩
            rw [hnv] at ho hzi
            replace hzi := Lib.hid hzi
            clear hnv
            have h2 : 2 ^ wv ≤ 2 ^ 7 := Nat.pow_le_pow_right (by omega) hwb
            have e2 : (2 : Int) ^ wv = ((2 ^ wv : Nat) : Int) := by simp
            obtain ⟨pw, hpw⟩ : ∃ z, 2 ^ wv = z := ⟨_, rfl⟩
            rw [hpw] at ho h2
            have s1 : wrap64 (2 ^ wv) = (pw : Int) := by rw [e2, hpw, wrap64_small _ (by omega) (by omega)]
            have s2 : wrap64 (1 * 2 ^ wv) = (pw : Int) := by rw [Int.one_mul]; exact s1
            clear hpw e2
            by_cases hneg : nv < 0
            · have n1b : decide (nv < 0) = true := decide_eq_true hneg
              clear ho
              go_wp2_with (first
                | (go_at_call 67; (with_reducible refine (hWc.out _).mono ?_); clear hWc; rintro e w1 ⟨rfl, hb⟩; have E1 := Lib.hid (E.out.later hb); clear hb E; have E := E1; clear E1)
                | ((with_reducible refine kn_stores (g := g6) (vs := i64s R1) E.out rfl rfl rfl rfl rfl ?hl ?h1 ?_); (case hl => exact ⟨rfl, hrc.out⟩); (case h1 => exact i64s_one _); clear E; intro u E0; have E := Lib.hid E0; clear E0)
                | ((with_reducible refine kn_loads_if (g := g6) E.out rfl rfl rfl ?hl ?_); (case hl => exact hrc.out))
                | ((with_reducible refine kn_load (g := g1) (i := i * 3 + c) E.out rfl rfl rfl hzi.out ?_))
                | ((with_reducible refine kn_load E.out rfl rfl rfl rfl ?_)) | ((with_reducible refine kn_load_if E.out rfl rfl rfl rfl ?_)) | ((with_reducible refine kn_loads E.out rfl rfl rfl ?_ ?_); (focus (first | rfl | (simp only [i64s_length, u8s_length]; first | rfl | assumption | omega)))) | ((with_reducible refine kn_loads_if E.out rfl rfl rfl ?_ ?_); (focus (first | rfl | (simp only [i64s_length, u8s_length]; first | rfl | assumption | omega)))) | ((with_reducible refine kn_stores E.out rfl rfl rfl rfl rfl ?_ ?_ ?_); (focus (first | exact ⟨rfl, rfl⟩ | (simp only [i64s_length, u8s_length]; refine ⟨?_, ?_⟩ <;> first | rfl | assumption | omega))); (focus (first | exact i64s_one _ | exact u8s_one _ | simp [Value.oneCell'])); clear E; intro u E0; have E := Lib.hid E0; clear E0) | ((with_reducible refine kn_alloc (o := ⟨some 6, _, _, _, _, _⟩) E.out rfl rfl ?_); clear E; intro g6 u E0 hb0; have E := Lib.hid E0; clear E0 hb0) | ((with_reducible refine kn_box (o := ⟨some 6, _, _, _, _, _⟩) E.out rfl rfl rfl ?_); clear E; intro g6 u E0 hb0; have E := Lib.hid E0; clear E0 hb0) | ((with_reducible refine kn_box_int (o := ⟨some 6, _, _, _, _, _⟩) E.out rfl rfl rfl ?_); clear E; intro g6 u E0 hb0; have E := Lib.hid E0; clear E0 hb0) | ((with_reducible refine kn_box_slice (o := ⟨some 6, _, _, _, _, _⟩) E.out rfl rfl rfl ?_); clear E; intro g6 u E0 hb0; have E := Lib.hid E0; clear E0 hb0) | ((with_reducible refine kn_box_bool (o := ⟨some 6, _, _, _, _, _⟩) E.out rfl rfl rfl ?_); clear E; intro g6 u E0 hb0; have E := Lib.hid E0; clear E0 hb0) | ((with_reducible refine kn_box_func (o := ⟨some 6, _, _, _, _, _⟩) E.out rfl rfl rfl ?_); clear E; intro g6 u E0 hb0; have E := Lib.hid E0; clear E0 hb0))
              go_ret
              exact ⟨rfl, E.out.bel⟩
            · have n1b : decide (nv < 0) = false := decide_eq_false hneg
              have n2 : (pw : Int) ≤ nv := by omega
              have n2b : decide (nv ≥ (pw : Int)) = true := decide_eq_true (by omega)
              clear ho
              go_wp2_with (first
                | (go_at_call 67; (with_reducible refine (hWc.out _).mono ?_); clear hWc; rintro e w1 ⟨rfl, hb⟩; have E1 := Lib.hid (E.out.later hb); clear hb E; have E := E1; clear E1)
                | ((with_reducible refine kn_stores (g := g6) (vs := i64s R1) E.out rfl rfl rfl rfl rfl ?hl ?h1 ?_); (case hl => exact ⟨rfl, hrc.out⟩); (case h1 => exact i64s_one _); clear E; intro u E0; have E := Lib.hid E0; clear E0)
                | ((with_reducible refine kn_loads_if (g := g6) E.out rfl rfl rfl ?hl ?_); (case hl => exact hrc.out))
                | ((with_reducible refine kn_load (g := g1) (i := i * 3 + c) E.out rfl rfl rfl hzi.out ?_))
                | ((with_reducible refine kn_load E.out rfl rfl rfl rfl ?_)) | ((with_reducible refine kn_load_if E.out rfl rfl rfl rfl ?_)) | ((with_reducible refine kn_loads E.out rfl rfl rfl ?_ ?_); (focus (first | rfl | (simp only [i64s_length, u8s_length]; first | rfl | assumption | omega)))) | ((with_reducible refine kn_loads_if E.out rfl rfl rfl ?_ ?_); (focus (first | rfl | (simp only [i64s_length, u8s_length]; first | rfl | assumption | omega)))) | ((with_reducible refine kn_stores E.out rfl rfl rfl rfl rfl ?_ ?_ ?_); (focus (first | exact ⟨rfl, rfl⟩ | (simp only [i64s_length, u8s_length]; refine ⟨?_, ?_⟩ <;> first | rfl | assumption | omega))); (focus (first | exact i64s_one _ | exact u8s_one _ | simp [Value.oneCell'])); clear E; intro u E0; have E := Lib.hid E0; clear E0) | ((with_reducible refine kn_alloc (o := ⟨some 6, _, _, _, _, _⟩) E.out rfl rfl ?_); clear E; intro g6 u E0 hb0; have E := Lib.hid E0; clear E0 hb0) | ((with_reducible refine kn_box (o := ⟨some 6, _, _, _, _, _⟩) E.out rfl rfl rfl ?_); clear E; intro g6 u E0 hb0; have E := Lib.hid E0; clear E0 hb0) | ((with_reducible refine kn_box_int (o := ⟨some 6, _, _, _, _, _⟩) E.out rfl rfl rfl ?_); clear E; intro g6 u E0 hb0; have E := Lib.hid E0; clear E0 hb0) | ((with_reducible refine kn_box_slice (o := ⟨some 6, _, _, _, _, _⟩) E.out rfl rfl rfl ?_); clear E; intro g6 u E0 hb0; have E := Lib.hid E0; clear E0 hb0) | ((with_reducible refine kn_box_bool (o := ⟨some 6, _, _, _, _, _⟩) E.out rfl rfl rfl ?_); clear E; intro g6 u E0 hb0; have E := Lib.hid E0; clear E0 hb0) | ((with_reducible refine kn_box_func (o := ⟨some 6, _, _, _, _, _⟩) E.out rfl rfl rfl ?_); clear E; intro g6 u E0 hb0; have E := Lib.hid E0; clear E0 hb0))
              go_ret
              exact ⟨rfl, E.out.bel⟩
          · have ho := hO.out c hltc (by omega)
            have hwb := hWB.out c hltc
            have hrc := Lib.hid (hr1.out c)
            unfold okC at ho
            clear hJ hJP hW hO hWB hr1 hBd
            obtain ⟨R1, hR1⟩ : ∃ z, rV (plA i c) (plM i c) = z := ⟨_, rfl⟩
            rw [hR1] at hjx hWc hrc
            clear hR1
            generalize wdN (plM i c) 3 = wv at *
            have hzi := i64s_get zs (i * 3 + c) (by omega)
            obtain ⟨nv, hnv⟩ : ∃ z, zs.getD (i * 3 + c) 0 = z := ⟨_, rfl⟩
            rw [hnv] at ho hzi
            replace hzi := Lib.hid hzi
            clear hnv
            have h2 : 2 ^ wv ≤ 2 ^ 7 := Nat.pow_le_pow_right (by omega) hwb
            have e2 : (2 : Int) ^ wv = ((2 ^ wv : Nat) : Int) := by simp
            obtain ⟨pw, hpw⟩ : ∃ z, 2 ^ wv = z := ⟨_, rfl⟩
            rw [hpw] at ho h2
            have s1 : wrap64 (2 ^ wv) = (pw : Int) := by rw [e2, hpw, wrap64_small _ (by omega) (by omega)]
            have s2 : wrap64 (1 * 2 ^ wv) = (pw : Int) := by rw [Int.one_mul]; exact s1
            have n1 : ¬ (nv < 0) := Int.not_lt.mpr ho.1
            have n1b : decide (nv < 0) = false := decide_eq_false n1
            have n2 : ¬ ((pw : Int) ≤ nv) := Int.not_le.mpr ho.2
            have n2b : decide (nv ≥ (pw : Int)) = false := decide_eq_false n2
            clear hpw e2
            go_wp2_with (first
              | (go_at_call 67; (with_reducible refine (hWc.out _).mono ?_); clear hWc; rintro e w1 ⟨rfl, hb⟩; have E1 := Lib.hid (E.out.later hb); clear hb E; have E := E1; clear E1)
              | ((with_reducible refine kn_stores (g := g6) (vs := i64s R1) E.out rfl rfl rfl rfl rfl ?hl ?h1 ?_); (case hl => exact ⟨rfl, hrc.out⟩); (case h1 => exact i64s_one _); clear E; intro u E0; have E := Lib.hid E0; clear E0)
              | ((with_reducible refine kn_loads_if (g := g6) E.out rfl rfl rfl ?hl ?_); (case hl => exact hrc.out))
              | ((with_reducible refine kn_load (g := g1) (i := i * 3 + c) E.out rfl rfl rfl hzi.out ?_))
              | ((with_reducible refine kn_load E.out rfl rfl rfl rfl ?_)) | ((with_reducible refine kn_load_if E.out rfl rfl rfl rfl ?_)) | ((with_reducible refine kn_loads E.out rfl rfl rfl ?_ ?_); (focus (first | rfl | (simp only [i64s_length, u8s_length]; first | rfl | assumption | omega)))) | ((with_reducible refine kn_loads_if E.out rfl rfl rfl ?_ ?_); (focus (first | rfl | (simp only [i64s_length, u8s_length]; first | rfl | assumption | omega)))) | ((with_reducible refine kn_stores E.out rfl rfl rfl rfl rfl ?_ ?_ ?_); (focus (first | exact ⟨rfl, rfl⟩ | (simp only [i64s_length, u8s_length]; refine ⟨?_, ?_⟩ <;> first | rfl | assumption | omega))); (focus (first | exact i64s_one _ | exact u8s_one _ | simp [Value.oneCell'])); clear E; intro u E0; have E := Lib.hid E0; clear E0) | ((with_reducible refine kn_alloc (o := ⟨some 6, _, _, _, _, _⟩) E.out rfl rfl ?_); clear E; intro g6 u E0 hb0; have E := Lib.hid E0; clear E0 hb0) | ((with_reducible refine kn_box (o := ⟨some 6, _, _, _, _, _⟩) E.out rfl rfl rfl ?_); clear E; intro g6 u E0 hb0; have E := Lib.hid E0; clear E0 hb0) | ((with_reducible refine kn_box_int (o := ⟨some 6, _, _, _, _, _⟩) E.out rfl rfl rfl ?_); clear E; intro g6 u E0 hb0; have E := Lib.hid E0; clear E0 hb0) | ((with_reducible refine kn_box_slice (o := ⟨some 6, _, _, _, _, _⟩) E.out rfl rfl rfl ?_); clear E; intro g6 u E0 hb0; have E := Lib.hid E0; clear E0 hb0) | ((with_reducible refine kn_box_bool (o := ⟨some 6, _, _, _, _, _⟩) E.out rfl rfl rfl ?_); clear E; intro g6 u E0 hb0; have E := Lib.hid E0; clear E0 hb0) | ((with_reducible refine kn_box_func (o := ⟨some 6, _, _, _, _, _⟩) E.out rfl rfl rfl ?_); clear E; intro g6 u E0 hb0; have E := Lib.hid E0; clear E0 hb0))
            go_roundw
            case rel => exact ⟨c + 1, by omega, by omega, by go_num, E.out.part _ _ (by repeat (first | exact List.Sublist.refl _ | apply List.Sublist.cons_cons | apply List.Sublist.cons)) (by simp)⟩
            case measure => simp [intOf]; try omega
        · have hc3 : ¬ ((c : Int) < 3) := by omega
          clear hJ hJP hW hO hWB hr1 hBd
          go_wp2_with (first | ((with_reducible refine kn_load E.out rfl rfl rfl rfl ?_)) | ((with_reducible refine kn_load_if E.out rfl rfl rfl rfl ?_)) | ((with_reducible refine kn_loads E.out rfl rfl rfl ?_ ?_); (focus (first | rfl | (simp only [i64s_length, u8s_length]; first | rfl | assumption | omega)))) | ((with_reducible refine kn_loads_if E.out rfl rfl rfl ?_ ?_); (focus (first | rfl | (simp only [i64s_length, u8s_length]; first | rfl | assumption | omega)))) | ((with_reducible refine kn_stores E.out rfl rfl rfl rfl rfl ?_ ?_ ?_); (focus (first | exact ⟨rfl, rfl⟩ | (simp only [i64s_length, u8s_length]; refine ⟨?_, ?_⟩ <;> first | rfl | assumption | omega))); (focus (first | exact i64s_one _ | exact u8s_one _ | simp [Value.oneCell'])); clear E; intro u E0; have E := Lib.hid E0; clear E0))
          go_roundw
          case rel => exact ⟨i + 1, by omega, by go_num, E.out.part _ _ (by repeat (first | exact List.Sublist.refl _ | apply List.Sublist.cons_cons | apply List.Sublist.cons)) (by simp)⟩
          case measure => simp [intOf]; try omega

end Go.Proofs.YtgcijioiicmjiaaDoor
set_option linter.all false
namespace Go.Proofs.YtgcijioiicmjiaaDoor
open Bi Lv
namespace Et
open Eo
open Bc (z8 z8_lt)

/-! The runs one behind the other. -/
def sA (s : Nat) : Nat := (runP (s / 3) (2 - s % 3)).1
def sM (s : Nat) : Nat := (runP (s / 3) (2 - s % 3)).2
/-- How many bits of the number have gone already. -/
def sh (s : Nat) : Nat := if s % 3 = 0 then 0 else if s % 3 = 1 then sM (s - 1) else sM (s - 1) + sM (s - 2)
/-- Which step lays a bit. -/
def sB (i : Nat) : Nat := ((List.range 27).find? fun s => decide (sA s ≤ i ∧ i < sA s + sM s)).getD 27
theorem st_no : ∀ s, s < 27 → sA s + sM s ≤ 64 ∧ sM s ≤ 7 ∧ sh s + sM s ≤ 7 := by decide +kernel
theorem st_tb : ∀ s, s < 27 → ∀ k, k < 7 → k < sM s → tb (sA s + k) = (s / 3, sh s + (sM s - 1 - k)) := by decide +kernel
theorem st_in : ∀ s, s < 27 → ∀ i, i < 64 → decide (sB i < s + 1) = (decide (sB i < s) || decide (sA s ≤ i ∧ i < sA s + sM s)) := by decide +kernel
theorem st_all : ∀ i, i < 64 → ((tb i).1 ≠ 9 → sB i < 27) ∧ ((tb i).1 < 9 ∨ (tb i).1 = 9) := by decide +kernel

/-- The bytes behind so many steps. -/
def ly (L : Nat → Int) (s : Nat) : List Nat := lz (lb L) fun i => decide (sB i < s)
theorem ly_length (L : Nat → Int) (s : Nat) : (ly L s).length = 8 := lz_length _ _
theorem ly_zero (L : Nat → Int) : ly L 0 = z8 := by
  rw [← lz_zero (lb L)]
  unfold ly lz
  exact lay_congr z8_lt fun k hk => by simp [sN]
/-- What is left of a number. -/
def qA (q k : Nat) : Nat := (runP q k).1
def qM (q k : Nat) : Nat := (runP q k).2
def shq (q j : Nat) : Nat := if j = 0 then 0 else if j = 1 then qM q 2 else if j = 2 then qM q 2 + qM q 1 else qM q 2 + qM q 1 + qM q 0
def nQ (L : Nat → Int) (q j : Nat) : Int := L q / ((2 ^ shq q j : Nat) : Int)
theorem shq_next : ∀ j, j < 3 → ∀ q, shq q (j + 1) = shq q j + qM q (2 - j)
  | 0, _, q => by simp [shq]
  | 1, _, q => by simp [shq]
  | 2, _, q => by simp [shq]
theorem nQ_zero (L : Nat → Int) (q : Nat) : nQ L q 0 = L q := Int.ediv_one _
theorem nQ_next (L : Nat → Int) (q j : Nat) (h : j < 3) : nQ L q j / ((2 ^ qM q (2 - j) : Nat) : Int) = nQ L q (j + 1) := by
  unfold nQ
  rw [shq_next j h q, Int.ediv_ediv_of_nonneg (Int.natCast_nonneg _), Nat.pow_add]
  congr 1
theorem sh_shq : ∀ q, q < 9 → ∀ j, j < 3 → sh (3 * q + j) = shq q j := by decide +kernel
theorem nQ_bd (L : Nat → Int) (q j : Nat) (h : 0 ≤ L q ∧ L q < 128) : 0 ≤ nQ L q j ∧ nQ L q j < 128 := by
  unfold nQ
  have h0 : 0 < 2 ^ shq q j := Nat.two_pow_pos _
  refine ⟨Int.ediv_nonneg h.1 (by omega), Int.lt_of_le_of_lt (Int.ediv_le_self _ h.1) h.2⟩
theorem ly_st (L : Nat → Int) (hL : ∀ k, k < 9 → 0 ≤ L k) (q j : Nat) (hq : q < 9) (hj : j < 3) : st (ly L (3 * q + j)) true (qA q (2 - j)) (qM q (2 - j)) (nQ L q j % ((2 ^ qM q (2 - j) : Nat) : Int)).toNat = ly L (3 * q + (j + 1)) := by
  obtain ⟨h1, h2, h3⟩ := st_no (3 * q + j) (by omega)
  have ea : sA (3 * q + j) = qA q (2 - j) := by unfold sA qA; rw [show (3 * q + j) / 3 = q by omega, show (3 * q + j) % 3 = j by omega]
  have em : sM (3 * q + j) = qM q (2 - j) := by unfold sM qM; rw [show (3 * q + j) / 3 = q by omega, show (3 * q + j) % 3 = j by omega]
  have es := sh_shq q hq j hj
  rw [← ea, ← em]
  refine lz_st _ h1 (fun k hk => ?_) (st_in (3 * q + j) (by omega))
  have e := st_tb (3 * q + j) (by omega) k (by omega) hk
  unfold lb
  rw [e, if_neg (by show ¬ (3 * q + j) / 3 = 9; omega)]
  show _ = (L ((3 * q + j) / 3)).toNat.testBit (sh (3 * q + j) + (sM (3 * q + j) - 1 - k))
  rw [show (3 * q + j) / 3 = q by omega, es]
  obtain ⟨z, hz⟩ := Int.eq_ofNat_of_zero_le (hL q hq)
  unfold nQ
  rw [hz, ← Int.natCast_ediv, ← Int.natCast_emod, Int.toNat_natCast, Int.toNat_natCast, Nat.testBit_mod_two_pow, decide_eq_true (by omega), Bool.true_and, Nat.testBit_div_two_pow, Nat.add_comm]

/-! The last bits. -/
def lA (L : Nat → Int) : List Nat := lay z8 true 0 64 (lb L)
theorem lay8_length (g : Nat → Bool) : (lay z8 true 0 64 g).length = 8 := by rw [lay_length]; rfl
theorem lay8_bit (g : Nat → Bool) (i : Nat) (h : i < 64) : bt (lay z8 true 0 64 g) true i = g i := by
  rw [lay_bit _ _ _ _ _ _ (by show i < 8 * 8; omega), if_pos (by omega), Nat.sub_zero]
theorem st8 (g g' : Nat → Bool) {p m N : Nat} (hp : p + m ≤ 64) (h : ∀ i, i < 64 → g' i = if p ≤ i ∧ i < p + m then N.testBit (m - 1 - (i - p)) else g i) : st (lay z8 true 0 64 g) true p m N = lay z8 true 0 64 g' := by
  refine ext_bits true (by unfold st; rw [lay_length, lay8_length, lay8_length]) (st_lt _ _ _ _ _) (lay_lt _ _ _ _ _) fun i hi => ?_
  have hi' : i < 8 * (lay z8 true 0 64 g).length := by unfold st at hi; rwa [lay_length] at hi
  have h64 : i < 64 := by rw [lay8_length] at hi'; omega
  unfold st
  rw [lay_bit _ _ _ _ _ _ hi', lay8_bit _ _ h64, lay8_bit _ _ h64, h i h64]
  by_cases h1 : p ≤ i ∧ i < p + m
  · rw [if_pos h1, if_pos h1, if_pos rfl]
  · rw [if_neg h1, if_neg h1]
theorem ly_diff (L : Nat → Int) : st (ly L 27) true 30 1 ((1 : Int) % ((2 ^ 1 : Nat) : Int)).toNat = lA L := by
  unfold ly lA
  rw [show lz (lb L) (fun i => decide (sB i < 27)) = lay z8 true 0 64 (fun i => decide (sB i < 27) && lb L i) from rfl]
  refine st8 _ _ (by omega) fun i hi => ?_
  by_cases h30 : i = 30
  · subst h30
    rfl
  · rw [if_neg (by omega)]
    obtain ⟨h1, h2⟩ := st_all i hi
    by_cases h9 : (tb i).1 = 9
    · unfold lb
      rw [if_pos h9, decide_eq_false h30, Bool.and_false]
    · rw [decide_eq_true (h1 h9), Bool.true_and]
def kpG (L : Nat → Int) (r g : Bool) (i : Nat) : Bool := if i = 0 then r else if i = 8 then g else if i = 16 ∨ i = 17 ∨ i = 18 then big L else if i = 21 then !big L else lb L i
def kpB (L : Nat → Int) (r g : Bool) : List Nat := lay z8 true 0 64 (kpG L r g)
theorem kpB_length (L : Nat → Int) (r g : Bool) : (kpB L r g).length = 8 := lay8_length _
theorem kpB_bit (L : Nat → Int) (r g : Bool) (i : Nat) (h : i < 64) : bt (kpB L r g) true i = kpG L r g i := lay8_bit _ _ h
theorem kpB_lB (L : Nat → Int) : kpB L (low L 0) (low L 8) = lB L := rfl
theorem lb_no (L : Nat → Int) : lb L 0 = false ∧ lb L 8 = false ∧ lb L 16 = false ∧ lb L 17 = false ∧ lb L 18 = false ∧ lb L 21 = false := ⟨rfl, rfl, rfl, rfl, rfl, rfl⟩
theorem above (L : Nat → Int) (h : big L = true) : st (lA L) true 16 3 ((7 : Int) % ((2 ^ 3 : Nat) : Int)).toNat = kpB L false false := by
  obtain ⟨l0, l8, l16, l17, l18, l21⟩ := lb_no L
  refine st8 _ _ (by omega) fun i hi => ?_
  have h7 : ∀ j, j < 3 → (((7 : Int) % ((2 ^ 3 : Nat) : Int)).toNat).testBit j = true := by decide
  unfold kpG
  by_cases c : 16 ≤ i ∧ i < 16 + 3
  · rw [if_pos c, if_neg (by omega), if_neg (by omega), if_pos (by omega), h7 _ (by omega), h]
  · rw [if_neg c]
    by_cases c0 : i = 0
    · subst c0; rw [if_pos rfl, l0]
    · rw [if_neg c0]
      by_cases c8 : i = 8
      · subst c8; rw [if_pos rfl, l8]
      · rw [if_neg c8, if_neg (by omega)]
        by_cases c21 : i = 21
        · subst c21; rw [if_pos rfl, l21, h]; rfl
        · rw [if_neg c21]
theorem below (L : Nat → Int) (h : big L = false) : st (lA L) true 21 1 ((1 : Int) % ((2 ^ 1 : Nat) : Int)).toNat = kpB L false false := by
  obtain ⟨l0, l8, l16, l17, l18, l21⟩ := lb_no L
  refine st8 _ _ (by omega) fun i hi => ?_
  unfold kpG
  by_cases c : 21 ≤ i ∧ i < 21 + 1
  · obtain rfl : i = 21 := by omega
    rw [if_pos c, if_neg (by omega), if_neg (by omega), if_neg (by omega), if_pos rfl, h]
    rfl
  · rw [if_neg c]
    by_cases c0 : i = 0
    · subst c0; rw [if_pos rfl, l0]
    · rw [if_neg c0]
      by_cases c8 : i = 8
      · subst c8; rw [if_pos rfl, l8]
      · rw [if_neg c8]
        by_cases c16 : i = 16 ∨ i = 17 ∨ i = 18
        · rw [if_pos c16, h]
          rcases c16 with rfl | rfl | rfl
          · exact l16.symm
          · exact l17.symm
          · exact l18.symm
        · rw [if_neg c16, if_neg (by omega)]
theorem keep_r (L : Nat → Int) (g : Bool) : st (kpB L false g) true 0 1 ((1 : Int) % ((2 ^ 1 : Nat) : Int)).toNat = kpB L true g := by
  refine st8 _ _ (by omega) fun i hi => ?_
  unfold kpG
  by_cases c : i = 0
  · subst c; rfl
  · rw [if_neg (show ¬ (0 ≤ i ∧ i < 0 + 1) by omega), if_neg c, if_neg c]
theorem keep_g (L : Nat → Int) (r : Bool) : st (kpB L r false) true 8 1 ((1 : Int) % ((2 ^ 1 : Nat) : Int)).toNat = kpB L r true := by
  refine st8 _ _ (by omega) fun i hi => ?_
  unfold kpG
  by_cases c : i = 8
  · subst c; rfl
  · rw [if_neg (show ¬ (8 ≤ i ∧ i < 8 + 1) by omega), if_neg c, if_neg c]
/-! The sum of blue's numbers. -/
theorem take_a (L : Nat → Int) : ((tkN (lA L) (fun j => (([(19, 2), (0, 0), (0, 0)] : List (Nat × Nat)).getD j (0, 0)).1) (fun j => (([(19, 2), (0, 0), (0, 0)] : List (Nat × Nat)).getD j (0, 0)).2) 3 : Nat) : Int) = n2 (lb L 19) (lb L 20) := by
  rw [tk_bits _ _ _ [19, 20] rfl]
  unfold bits lA
  simp only [bN, lay8_bit _ 19 (by omega), lay8_bit _ 20 (by omega), n2]
  omega
theorem take_b (L : Nat → Int) : ((tkN (lA L) (fun j => (([(22, 2), (0, 0), (0, 0)] : List (Nat × Nat)).getD j (0, 0)).1) (fun j => (([(22, 2), (0, 0), (0, 0)] : List (Nat × Nat)).getD j (0, 0)).2) 3 : Nat) : Int) = n2 (lb L 22) (lb L 23) := by
  rw [tk_bits _ _ _ [22, 23] rfl]
  unfold bits lA
  simp only [bN, lay8_bit _ 22 (by omega), lay8_bit _ 23 (by omega), n2]
  omega
theorem n2_bd (a b : Bool) : 0 ≤ n2 a b ∧ n2 a b ≤ 3 := by cases a <;> cases b <;> decide
/-! The channels that would go too far. -/
theorem kpB_D (L : Nat → Int) (r g : Bool) : pD (kpB L r g) = true := by unfold pD; rw [kpB_bit _ _ _ _ (by omega)]; rfl
theorem key_low : ∀ b1 b2 b3 b4 b5 b6 b7 : Bool, decide (0 ≤ sg true (n3 b5 b6 b7) + (16 * (((false).toNat : Nat) : Int) + n4 b1 b2 b3 b4) ∧ sg true (n3 b5 b6 b7) + (16 * (((false).toNat : Nat) : Int) + n4 b1 b2 b3 b4) < 32) = !decide (n4 b1 b2 b3 b4 + sg true (n3 b5 b6 b7) < 0) := by decide +kernel
theorem oob_r (L : Nat → Int) (g : Bool) : oob true (pZ (kpB L false g)) 0 = low L 0 := by
  have k := key_low (lb L 1) (lb L 2) (lb L 3) (lb L 4) (lb L 5) (lb L 6) (lb L 7)
  unfold oob
  rw [se_bits _ (kpB_D L false g) 0 (by omega), G5, G3, kpB_bit _ _ _ _ (by omega), kpB_bit _ _ _ _ (by omega), kpB_bit _ _ _ _ (by omega), kpB_bit _ _ _ _ (by omega), kpB_bit _ _ _ _ (by omega), kpB_bit _ _ _ _ (by omega), kpB_bit _ _ _ _ (by omega), kpB_bit _ _ _ _ (by omega)]
  rw [Bool.true_and]
  refine Eq.trans (congrArg not k) ?_
  rw [Bool.not_not]
  rfl
theorem oob_r2 (L : Nat → Int) (g : Bool) : oob true (pZ (kpB L (low L 0) g)) 0 = false := by
  have k := key_in (lb L 1) (lb L 2) (lb L 3) (lb L 4) (lb L 5) (lb L 6) (lb L 7)
  unfold oob
  rw [se_bits _ (kpB_D L (low L 0) g) 0 (by omega), G5, G3, kpB_bit _ _ _ _ (by omega), kpB_bit _ _ _ _ (by omega), kpB_bit _ _ _ _ (by omega), kpB_bit _ _ _ _ (by omega), kpB_bit _ _ _ _ (by omega), kpB_bit _ _ _ _ (by omega), kpB_bit _ _ _ _ (by omega), kpB_bit _ _ _ _ (by omega)]
  simp only [Bool.true_and, Bool.not_eq_false', decide_eq_true_eq]
  exact k
theorem oob_g (L : Nat → Int) (r : Bool) : oob true (pZ (kpB L r false)) 1 = low L 8 := by
  have k := key_low (lb L 9) (lb L 10) (lb L 11) (lb L 12) (lb L 13) (lb L 14) (lb L 15)
  unfold oob
  rw [se_bits _ (kpB_D L r false) 1 (by omega), G5, G3, kpB_bit _ _ _ _ (by omega), kpB_bit _ _ _ _ (by omega), kpB_bit _ _ _ _ (by omega), kpB_bit _ _ _ _ (by omega), kpB_bit _ _ _ _ (by omega), kpB_bit _ _ _ _ (by omega), kpB_bit _ _ _ _ (by omega), kpB_bit _ _ _ _ (by omega)]
  rw [Bool.true_and]
  refine Eq.trans (congrArg not k) ?_
  rw [Bool.not_not]
  rfl
theorem kd_r (L : Nat → Int) (g : Bool) : decide (kdN false (kpB L false g) = 1) = low L 0 := by
  unfold kdN
  rw [pxs_no, kpB_D]
  unfold farP farP farP farP
  rw [oob_r]
  cases low L 0
  · simp only [Bool.false_eq_true, and_false, if_false]
    split <;> (try split) <;> simp_all <;> (try split at * <;> simp_all) <;> (try omega)
  · simp
theorem kd_g (L : Nat → Int) : decide (kdN false (kpB L (low L 0) false) = 2) = low L 8 := by
  unfold kdN
  rw [pxs_no, kpB_D]
  unfold farP farP farP farP
  rw [oob_r2, oob_g]
  cases low L 8
  · simp only [Bool.false_eq_true, and_false, if_false]
    split <;> (try split) <;> simp_all
  · simp
/-- The bytes in the loop over red and green. -/
def kB (L : Nat → Int) (c : Nat) : List Nat := if c = 0 then kpB L false false else if c = 1 then kpB L (low L 0) false else lB L
theorem kB_length (L : Nat → Int) (c : Nat) : (kB L c).length = 8 := by
  unfold kB
  split
  · exact kpB_length _ _ _
  · split
    · exact kpB_length _ _ _
    · exact lB_length _
theorem kB_kind (L : Nat → Int) (c : Nat) (h : c < 2) : decide (kdN false (kB L c) = c + 1) = low L (8 * c) := by
  obtain rfl | rfl : c = 0 ∨ c = 1 := by omega
  · exact kd_r L false
  · exact kd_g L
theorem kB_st (L : Nat → Int) (c : Nat) (h : c < 2) (hl : low L (8 * c) = true) : st (kB L c) true (8 * c) 1 ((1 : Int) % ((2 ^ 1 : Nat) : Int)).toNat = kB L (c + 1) := by
  obtain rfl | rfl : c = 0 ∨ c = 1 := by omega
  · show st (kpB L false false) true 0 1 _ = kpB L (low L 0) false
    rw [keep_r, show low L 0 = true from hl]
  · show st (kpB L (low L 0) false) true 8 1 _ = lB L
    rw [keep_g, ← kpB_lB, show low L 8 = true from hl]
theorem kB_no (L : Nat → Int) (c : Nat) (h : c < 2) (hl : low L (8 * c) = false) : kB L c = kB L (c + 1) := by
  obtain rfl | rfl : c = 0 ∨ c = 1 := by omega
  · show kpB L false false = kpB L (low L 0) false
    rw [show low L 0 = false from hl]
  · show kpB L (low L 0) false = lB L
    rw [← kpB_lB, show low L 8 = false from hl]
end Et
end Go.Proofs.YtgcijioiicmjiaaDoor
