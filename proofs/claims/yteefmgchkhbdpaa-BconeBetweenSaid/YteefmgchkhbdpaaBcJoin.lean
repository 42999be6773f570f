/- The block of two colours and sixteen indices: the program's and the reference's. -/
import Derived.Test.YteefmgchkhbdpaaBcJoinP
import Derived.Test.YteefmgchkhbdpaaBcPart
import Derived.Test.YteefmgchkhbdpaaBitApi
import Derived.Deep.OwnRows
namespace Go.Proofs.Yteefmgchkhbdpaa
open Go.RowKit
open Bi Lv Bc

set_option maxHeartbeats 1000000 in
theorem fits16 (n : Int) (w : World) : Calls Try.prog 51 #[.int .i64 n, .int .i64 16] w fun e w' => e = .returned (.bool (decide (0 ≤ n ∧ n < 65536))) ∧ w = w' := by
  go_enter Try.func51, Try.ntmps51
  go_wp2
  go_ret
  exact ⟨ret_bool (by rw [Bool.eq_iff_iff]; simp; omega), rfl⟩
set_option maxHeartbeats 1000000 in
theorem fits2 (n : Int) (w : World) : Calls Try.prog 51 #[.int .i64 n, .int .i64 2] w fun e w' => e = .returned (.bool (decide (0 ≤ n ∧ n < 4))) ∧ w = w' := by
  go_enter Try.func51, Try.ntmps51
  go_wp2
  go_ret
  exact ⟨ret_bool (by rw [Bool.eq_iff_iff]; simp; omega), rfl⟩
/-- 'make' of eight bytes. -/
theorem kn_make8 {w u : World} {R : List Res} {F : List (World → Prop)} {ops : Array Oper} {rest : List Oper} {o : Oper} {a : Act} {Q : Exit → Act → World → Prop} (E : Kn w R F u) (hgd : o.guard = none) {l c : Operand} (ho : o.op = .makeSlice 22 l c) (hl : a.eval l = .int .i64 8) (hc : a.eval c = .int .i64 8)
    (h : ∀ g u', Kn w (.row g 5 (u8s z8) :: R) F u' → Bs u' u'.heap.size (some ⟨g, 0, none⟩) 8 z8 → wpList Try.prog ops Q rest (a.put o.dst (.slice (some ⟨g, 0, none⟩) 8 8)) u') : wpList Try.prog ops Q (o :: rest) a u := by
  have hrun := run_make_row' (P := Try.prog) 22 5 (.int .u8 0) 1 Try.underlying22 info_u8 rfl .i64 .i64 8 (by omega) (by omega) u
  refine wpList_plain hgd fun _ hK => ?_
  unfold Oper.wp execOp
  simp only [ho, hl, hc, Sem.run_bind]
  have hrun' : (Instr.makeSlice 22 (.int .i64 8) (.int .i64 8)).run Try.prog u = .ok (.slice (some ⟨u.heap.size, 0, none⟩) 8 8) (u.alloc (.cells (u8s z8).toArray 5)) := by
    rw [show madeCells #[Value.int .u8 0] 8 = (u8s z8).toArray from by kernel_rfl] at hrun
    exact hrun
  simp only [hrun', Result.andThen_ok, Sem.run_pure]
  exact hK _ _ (h _ _ (E.new 5 (u8s z8)) (Blk.bs (t := 5) (Blk.new' u 5 z8) z8_lt 8 rfl))

set_option maxHeartbeats 4000000 in
set_option maxRecDepth 100000 in
theorem join_far (a b : Int) (W : List Int) (w : World) (h : ¬ ((0 ≤ a ∧ a < 65536) ∧ (0 ≤ b ∧ b < 65536))) (hW : W.length = 16) :
    Calls Try.prog 31 #[.int .i64 a, .int .i64 b, arr W] w (Laid w (jV a b W) (jE a b W)) := by
  have hno : ¬ jOk a b W := fun k => h ⟨k.1, k.2.1⟩
  rw [jV_no hno, jE_no hno]
  have E := Lib.hid (Kn.start w)
  have h1 := Lib.hid (fun u => fits16 a u)
  have h2 := Lib.hid (fun u => fits16 b u)
  clear hno
  by_cases ha : 0 ≤ a ∧ a < 65536
  · have hb : ¬ (0 ≤ b ∧ b < 65536) := fun k => h ⟨ha, k⟩
    rw [decide_eq_true ha] at h1
    rw [decide_eq_false hb] at h2
    clear ha hb h
    go_enter Try.func31, Try.ntmps31
    go_wp2_with (first
      | (go_at_call 51; first | (refine (h1.out _).mono ?_; clear h1; rintro e w1 ⟨rfl, rfl⟩) | (refine (h2.out _).mono ?_; clear h2; rintro e w1 ⟨rfl, rfl⟩))
      | ((with_reducible refine kn_load E.out rfl rfl rfl rfl ?_)) | ((with_reducible refine kn_load_if E.out rfl rfl rfl rfl ?_)) | ((with_reducible refine kn_loads E.out rfl rfl rfl ?_ ?_); (focus (first | rfl | (simp only [i64s_length, u8s_length]; first | rfl | assumption | omega)))) | ((with_reducible refine kn_loads_if E.out rfl rfl rfl ?_ ?_); (focus (first | rfl | (simp only [i64s_length, u8s_length]; first | rfl | assumption | omega)))) | ((with_reducible refine kn_store1_int E.out rfl rfl rfl rfl rfl ?_); clear E; intro u E0; have E := Lib.hid E0; clear E0) | ((with_reducible refine kn_store1_slice E.out rfl rfl rfl rfl rfl ?_); clear E; intro u E0; have E := Lib.hid E0; clear E0) | ((with_reducible refine kn_store1_bool E.out rfl rfl rfl rfl rfl ?_); clear E; intro u E0; have E := Lib.hid E0; clear E0) | ((with_reducible refine kn_stores E.out rfl rfl rfl rfl rfl ?_ ?_ ?_); (focus (first | exact ⟨rfl, rfl⟩ | (simp only [i64s_length, u8s_length]; refine ⟨?_, ?_⟩ <;> first | rfl | assumption | omega))); (focus (first | exact i64s_one _ | exact u8s_one _ | simp [Value.oneCell'])); clear E; intro u E0; have E := Lib.hid E0; clear E0) | ((with_reducible refine kn_alloc (o := ⟨some 5, _, _, _, _, _⟩) E.out rfl rfl ?_); clear E; intro g5 u E0 hb0; have E := Lib.hid E0; clear E0 hb0) | ((with_reducible refine kn_box (o := ⟨some 5, _, _, _, _, _⟩) E.out rfl rfl rfl ?_); clear E; intro g5 u E0 hb0; have E := Lib.hid E0; clear E0 hb0) | ((with_reducible refine kn_box_int (o := ⟨some 5, _, _, _, _, _⟩) E.out rfl rfl rfl ?_); clear E; intro g5 u E0 hb0; have E := Lib.hid E0; clear E0 hb0) | ((with_reducible refine kn_box_slice (o := ⟨some 5, _, _, _, _, _⟩) E.out rfl rfl rfl ?_); clear E; intro g5 u E0 hb0; have E := Lib.hid E0; clear E0 hb0) | ((with_reducible refine kn_box_bool (o := ⟨some 5, _, _, _, _, _⟩) E.out rfl rfl rfl ?_); clear E; intro g5 u E0 hb0; have E := Lib.hid E0; clear E0 hb0) | ((with_reducible refine kn_box_func (o := ⟨some 5, _, _, _, _, _⟩) E.out rfl rfl rfl ?_); clear E; intro g5 u E0 hb0; have E := Lib.hid E0; clear E0 hb0) | ((with_reducible refine kn_alloc E.out rfl rfl ?_); clear E; intro g u E0 hb0; have E := Lib.hid E0; clear E0 hb0) | ((with_reducible refine kn_box E.out rfl rfl rfl ?_); clear E; intro g u E0 hb0; have E := Lib.hid E0; clear E0 hb0) | ((with_reducible refine kn_box_int E.out rfl rfl rfl ?_); clear E; intro g u E0 hb0; have E := Lib.hid E0; clear E0 hb0) | ((with_reducible refine kn_box_slice E.out rfl rfl rfl ?_); clear E; intro g u E0 hb0; have E := Lib.hid E0; clear E0 hb0) | ((with_reducible refine kn_box_bool E.out rfl rfl rfl ?_); clear E; intro g u E0 hb0; have E := Lib.hid E0; clear E0 hb0) | ((with_reducible refine kn_box_func E.out rfl rfl rfl ?_); clear E; intro g u E0 hb0; have E := Lib.hid E0; clear E0 hb0))
    go_ret2
    exact ⟨none, 0, 0, rfl, ⟨rfl, by simp, fun h => absurd h (by omega)⟩, by omega, by omega, E.out.bel⟩
  · rw [decide_eq_false ha] at h1
    clear ha h
    go_enter Try.func31, Try.ntmps31
    go_wp2_with (first
      | (go_at_call 51; (refine (h1.out _).mono ?_; clear h1; rintro e w1 ⟨rfl, rfl⟩))
      | ((with_reducible refine kn_load E.out rfl rfl rfl rfl ?_)) | ((with_reducible refine kn_load_if E.out rfl rfl rfl rfl ?_)) | ((with_reducible refine kn_loads E.out rfl rfl rfl ?_ ?_); (focus (first | rfl | (simp only [i64s_length, u8s_length]; first | rfl | assumption | omega)))) | ((with_reducible refine kn_loads_if E.out rfl rfl rfl ?_ ?_); (focus (first | rfl | (simp only [i64s_length, u8s_length]; first | rfl | assumption | omega)))) | ((with_reducible refine kn_store1_int E.out rfl rfl rfl rfl rfl ?_); clear E; intro u E0; have E := Lib.hid E0; clear E0) | ((with_reducible refine kn_store1_slice E.out rfl rfl rfl rfl rfl ?_); clear E; intro u E0; have E := Lib.hid E0; clear E0) | ((with_reducible refine kn_store1_bool E.out rfl rfl rfl rfl rfl ?_); clear E; intro u E0; have E := Lib.hid E0; clear E0) | ((with_reducible refine kn_stores E.out rfl rfl rfl rfl rfl ?_ ?_ ?_); (focus (first | exact ⟨rfl, rfl⟩ | (simp only [i64s_length, u8s_length]; refine ⟨?_, ?_⟩ <;> first | rfl | assumption | omega))); (focus (first | exact i64s_one _ | exact u8s_one _ | simp [Value.oneCell'])); clear E; intro u E0; have E := Lib.hid E0; clear E0) | ((with_reducible refine kn_alloc (o := ⟨some 5, _, _, _, _, _⟩) E.out rfl rfl ?_); clear E; intro g5 u E0 hb0; have E := Lib.hid E0; clear E0 hb0) | ((with_reducible refine kn_box (o := ⟨some 5, _, _, _, _, _⟩) E.out rfl rfl rfl ?_); clear E; intro g5 u E0 hb0; have E := Lib.hid E0; clear E0 hb0) | ((with_reducible refine kn_box_int (o := ⟨some 5, _, _, _, _, _⟩) E.out rfl rfl rfl ?_); clear E; intro g5 u E0 hb0; have E := Lib.hid E0; clear E0 hb0) | ((with_reducible refine kn_box_slice (o := ⟨some 5, _, _, _, _, _⟩) E.out rfl rfl rfl ?_); clear E; intro g5 u E0 hb0; have E := Lib.hid E0; clear E0 hb0) | ((with_reducible refine kn_box_bool (o := ⟨some 5, _, _, _, _, _⟩) E.out rfl rfl rfl ?_); clear E; intro g5 u E0 hb0; have E := Lib.hid E0; clear E0 hb0) | ((with_reducible refine kn_box_func (o := ⟨some 5, _, _, _, _, _⟩) E.out rfl rfl rfl ?_); clear E; intro g5 u E0 hb0; have E := Lib.hid E0; clear E0 hb0) | ((with_reducible refine kn_alloc E.out rfl rfl ?_); clear E; intro g u E0 hb0; have E := Lib.hid E0; clear E0 hb0) | ((with_reducible refine kn_box E.out rfl rfl rfl ?_); clear E; intro g u E0 hb0; have E := Lib.hid E0; clear E0 hb0) | ((with_reducible refine kn_box_int E.out rfl rfl rfl ?_); clear E; intro g u E0 hb0; have E := Lib.hid E0; clear E0 hb0) | ((with_reducible refine kn_box_slice E.out rfl rfl rfl ?_); clear E; intro g u E0 hb0; have E := Lib.hid E0; clear E0 hb0) | ((with_reducible refine kn_box_bool E.out rfl rfl rfl ?_); clear E; intro g u E0 hb0; have E := Lib.hid E0; clear E0 hb0) | ((with_reducible refine kn_box_func E.out rfl rfl rfl ?_); clear E; intro g u E0 hb0; have E := Lib.hid E0; clear E0 hb0))
    go_ret2
    exact ⟨none, 0, 0, rfl, ⟨rfl, by simp, fun h => absurd h (by omega)⟩, by omega, by omega, E.out.bel⟩

set_option maxHeartbeats 4000000 in
set_option maxRecDepth 100000 in
theorem join_near (a b : Int) (W : List Int) (w : World) (ha : 0 ≤ a ∧ a < 65536) (hb : 0 ≤ b ∧ b < 65536) (hW : W.length = 16) :
    Calls Try.prog 31 #[.int .i64 a, .int .i64 b, arr W] w (Laid w (jV a b W) (jE a b W)) := by
  have E := Lib.hid (Kn.start w)
  have h1 := Lib.hid (fun u => fits16 a u)
  have h2 := Lib.hid (fun u => fits16 b u)
  rw [decide_eq_true ha] at h1
  rw [decide_eq_true hb] at h2
  have H32 := Lib.hid (jb_second (W := W) ha hb)
  have HST := Lib.hid (fun i hw => jb_step (a := a) (b := b) (W := W) i hw)
  have HLT := Lib.hid (fun i => nm_lt (jb a b W) i)
  have hIX := Lib.hid (fun (j : Nat) (hj : j < 16) (u : World) => run_index_i64 (P := Try.prog) 51 3 16 Try.underlying51 Try.underlying3 (by kernel_rfl) W j hj hW u)
  have HOK := Lib.hid (fun (h : ∀ j, j < 16 → 0 ≤ W.getD j 0 ∧ W.getD j 0 < 4) => show jV a b W = jB a b W ∧ jE a b W = 0 from ⟨jV_ok ⟨ha, hb, h⟩, jE_ok ⟨ha, hb, h⟩⟩)
  have HNO := Lib.hid (fun (j : Nat) (hj : j < 16) (h : ¬ (0 ≤ W.getD j 0 ∧ W.getD j 0 < 4)) => show jV a b W = [] ∧ jE a b W = 1 from ⟨jV_no fun k => h (k.2.2 j hj), jE_no fun k => h (k.2.2 j hj)⟩)
  have HALL := Lib.hid (st_all (jb a b W))
  unfold jB at HOK
  generalize jV a b W = jv at *
  generalize jE a b W = je at *
  generalize jb a b W = g at *
  obtain ⟨an, rfl⟩ := Int.eq_ofNat_of_zero_le ha.1
  obtain ⟨bn, rfl⟩ := Int.eq_ofNat_of_zero_le hb.1
  have ha2 : an < 65536 := by omega
  have hb2 : bn < 65536 := by omega
  simp only [Int.toNat_natCast] at H32
  clear ha hb
  go_enter Try.func31, Try.ntmps31
  go_wp2_with (first
    | (go_at_call 51; first | (refine (h1.out _).mono ?_; clear h1; rintro e w1 ⟨rfl, rfl⟩) | (refine (h2.out _).mono ?_; clear h2; rintro e w1 ⟨rfl, rfl⟩))
    | ((with_reducible refine kn_load E.out rfl rfl rfl rfl ?_)) | ((with_reducible refine kn_load_if E.out rfl rfl rfl rfl ?_)) | ((with_reducible refine kn_loads E.out rfl rfl rfl ?_ ?_); (focus (first | rfl | (simp only [i64s_length, u8s_length]; first | rfl | assumption | omega)))) | ((with_reducible refine kn_loads_if E.out rfl rfl rfl ?_ ?_); (focus (first | rfl | (simp only [i64s_length, u8s_length]; first | rfl | assumption | omega)))) | ((with_reducible refine kn_store1_int E.out rfl rfl rfl rfl rfl ?_); clear E; intro u E0; have E := Lib.hid E0; clear E0) | ((with_reducible refine kn_store1_slice E.out rfl rfl rfl rfl rfl ?_); clear E; intro u E0; have E := Lib.hid E0; clear E0) | ((with_reducible refine kn_store1_bool E.out rfl rfl rfl rfl rfl ?_); clear E; intro u E0; have E := Lib.hid E0; clear E0) | ((with_reducible refine kn_stores E.out rfl rfl rfl rfl rfl ?_ ?_ ?_); (focus (first | exact ⟨rfl, rfl⟩ | (simp only [i64s_length, u8s_length]; refine ⟨?_, ?_⟩ <;> first | rfl | assumption | omega))); (focus (first | exact i64s_one _ | exact u8s_one _ | simp [Value.oneCell'])); clear E; intro u E0; have E := Lib.hid E0; clear E0) | ((with_reducible refine kn_alloc (o := ⟨some 5, _, _, _, _, _⟩) E.out rfl rfl ?_); clear E; intro g5 u E0 hb0; have E := Lib.hid E0; clear E0 hb0) | ((with_reducible refine kn_box (o := ⟨some 5, _, _, _, _, _⟩) E.out rfl rfl rfl ?_); clear E; intro g5 u E0 hb0; have E := Lib.hid E0; clear E0 hb0) | ((with_reducible refine kn_box_int (o := ⟨some 5, _, _, _, _, _⟩) E.out rfl rfl rfl ?_); clear E; intro g5 u E0 hb0; have E := Lib.hid E0; clear E0 hb0) | ((with_reducible refine kn_box_slice (o := ⟨some 5, _, _, _, _, _⟩) E.out rfl rfl rfl ?_); clear E; intro g5 u E0 hb0; have E := Lib.hid E0; clear E0 hb0) | ((with_reducible refine kn_box_bool (o := ⟨some 5, _, _, _, _, _⟩) E.out rfl rfl rfl ?_); clear E; intro g5 u E0 hb0; have E := Lib.hid E0; clear E0 hb0) | ((with_reducible refine kn_box_func (o := ⟨some 5, _, _, _, _, _⟩) E.out rfl rfl rfl ?_); clear E; intro g5 u E0 hb0; have E := Lib.hid E0; clear E0 hb0) | ((with_reducible refine kn_alloc E.out rfl rfl ?_); clear E; intro g u E0 hb0; have E := Lib.hid E0; clear E0 hb0) | ((with_reducible refine kn_box E.out rfl rfl rfl ?_); clear E; intro g u E0 hb0; have E := Lib.hid E0; clear E0 hb0) | ((with_reducible refine kn_box_int E.out rfl rfl rfl ?_); clear E; intro g u E0 hb0; have E := Lib.hid E0; clear E0 hb0) | ((with_reducible refine kn_box_slice E.out rfl rfl rfl ?_); clear E; intro g u E0 hb0; have E := Lib.hid E0; clear E0 hb0) | ((with_reducible refine kn_box_bool E.out rfl rfl rfl ?_); clear E; intro g u E0 hb0; have E := Lib.hid E0; clear E0 hb0) | ((with_reducible refine kn_box_func E.out rfl rfl rfl ?_); clear E; intro g u E0 hb0; have E := Lib.hid E0; clear E0 hb0))
  go_loopw [26, 8] (fun i al wr => ∃ k : Nat, k ≤ 16 ∧ i = .int .i64 k ∧ al = .int .u64 ((nm g (32 + 2 * k) : Nat) : Int) ∧ (∀ j, j < k → 0 ≤ W.getD j 0 ∧ W.getD j 0 < 4) ∧ Hid (Kn w [.row g5 51 (i64s W)] [] wr)) (fun i _ _ => 16 - (intOf i).toNat)
  case atStart =>
    refine ⟨0, by omega, rfl, ?_, fun j hj => absurd hj (by omega), E⟩
    rw [← H32.out, show ((bn : Int) * 65536) = ((bn * 2 ^ 16 : Nat) : Int) from by simp, u64_or_nat _ _ (by omega) (by omega)]
  case round =>
    clear E
    obtain ⟨k, hk, rfl, rfl, hall, E⟩ := hrel
    by_cases hlt : k < 16
    · by_cases hgood : 0 ≤ W.getD k 0 ∧ W.getD k 0 < 4
      · have hix := hIX.out k hlt
        have hst := Lib.hid (HST.out k hgood)
        have hf := Lib.hid (fun u => fits2 (W.getD k 0) u)
        rw [decide_eq_true hgood] at hf
        have hall' := Lib.hid (show ∀ j, j < k + 1 → 0 ≤ W.getD j 0 ∧ W.getD j 0 < 4 from fun j hj => by
          rcases Nat.lt_or_ge j k with h | h
          · exact hall j h
          · obtain rfl : j = k := by omega
            exact hgood)
        obtain ⟨v, hv⟩ : ∃ v : Nat, W.getD k 0 = (v : Int) := ⟨(W.getD k 0).toNat, by omega⟩
        have hv4 : v < 4 := by omega
        rw [hv] at hix hst hf
        simp only [Int.toNat_natCast] at hst
        have hN := HLT.out (32 + 2 * k)
        clear hv hgood hall HST hIX HOK HNO HALL H32 HLT
        generalize nm g (32 + 2 * k) = N at *
        go_wp2_with (first
          | (go_at_call 51; refine (hf.out _).mono ?_; rintro e w1 ⟨rfl, rfl⟩)
          | ((with_reducible refine kn_load E.out rfl rfl rfl rfl ?_)) | ((with_reducible refine kn_load_if E.out rfl rfl rfl rfl ?_)) | ((with_reducible refine kn_loads E.out rfl rfl rfl ?_ ?_); (focus (first | rfl | (simp only [i64s_length, u8s_length]; first | rfl | assumption | omega)))) | ((with_reducible refine kn_loads_if E.out rfl rfl rfl ?_ ?_); (focus (first | rfl | (simp only [i64s_length, u8s_length]; first | rfl | assumption | omega)))) | ((with_reducible refine kn_store1_int E.out rfl rfl rfl rfl rfl ?_); clear E; intro u E0; have E := Lib.hid E0; clear E0) | ((with_reducible refine kn_store1_slice E.out rfl rfl rfl rfl rfl ?_); clear E; intro u E0; have E := Lib.hid E0; clear E0) | ((with_reducible refine kn_store1_bool E.out rfl rfl rfl rfl rfl ?_); clear E; intro u E0; have E := Lib.hid E0; clear E0) | ((with_reducible refine kn_stores E.out rfl rfl rfl rfl rfl ?_ ?_ ?_); (focus (first | exact ⟨rfl, rfl⟩ | (simp only [i64s_length, u8s_length]; refine ⟨?_, ?_⟩ <;> first | rfl | assumption | omega))); (focus (first | exact i64s_one _ | exact u8s_one _ | simp [Value.oneCell'])); clear E; intro u E0; have E := Lib.hid E0; clear E0) | ((with_reducible refine kn_alloc E.out rfl rfl ?_); clear E; intro g u E0 hb0; have E := Lib.hid E0; clear E0 hb0) | ((with_reducible refine kn_box E.out rfl rfl rfl ?_); clear E; intro g u E0 hb0; have E := Lib.hid E0; clear E0 hb0) | ((with_reducible refine kn_box_int E.out rfl rfl rfl ?_); clear E; intro g u E0 hb0; have E := Lib.hid E0; clear E0 hb0) | ((with_reducible refine kn_box_slice E.out rfl rfl rfl ?_); clear E; intro g u E0 hb0; have E := Lib.hid E0; clear E0 hb0) | ((with_reducible refine kn_box_bool E.out rfl rfl rfl ?_); clear E; intro g u E0 hb0; have E := Lib.hid E0; clear E0 hb0) | ((with_reducible refine kn_box_func E.out rfl rfl rfl ?_); clear E; intro g u E0 hb0; have E := Lib.hid E0; clear E0 hb0))
        go_roundw
        case rel =>
          refine ⟨k + 1, by omega, by go_num, ?_, hall'.out, E⟩
          have hp : 2 ^ (32 + 2 * k) ≤ 2 ^ 62 := Nat.pow_le_pow_right (by omega) (by omega)
          have hm : v * 2 ^ (32 + 2 * k) ≤ 3 * 2 ^ 62 := Nat.mul_le_mul (by omega) hp
          rw [← hst.out, show 32 + k * 2 = 32 + 2 * k by omega, show ((v : Int) * 2 ^ (32 + 2 * k)) = ((v * 2 ^ (32 + 2 * k) : Nat) : Int) from by simp, show IntKind.u64.wrap ((v * 2 ^ (32 + 2 * k) : Nat) : Int) = ((v * 2 ^ (32 + 2 * k) : Nat) : Int) from by rw [IntKind.wrap_u64]; omega, u64_or_nat _ _ (by omega) (by omega)]
        case measure => simp [intOf]; omega
      · have hix := hIX.out k hlt
        have hf := Lib.hid (fun u => fits2 (W.getD k 0) u)
        rw [decide_eq_false hgood] at hf
        have hno := Lib.hid (HNO.out k hlt hgood)
        clear hgood hall HST hIX HOK HNO HALL H32 HLT
        generalize W.getD k 0 = v at *
        go_wp2_with (first
          | (go_at_call 51; refine (hf.out _).mono ?_; rintro e w1 ⟨rfl, rfl⟩)
          | ((with_reducible refine kn_load E.out rfl rfl rfl rfl ?_)) | ((with_reducible refine kn_load_if E.out rfl rfl rfl rfl ?_)) | ((with_reducible refine kn_loads E.out rfl rfl rfl ?_ ?_); (focus (first | rfl | (simp only [i64s_length, u8s_length]; first | rfl | assumption | omega)))) | ((with_reducible refine kn_loads_if E.out rfl rfl rfl ?_ ?_); (focus (first | rfl | (simp only [i64s_length, u8s_length]; first | rfl | assumption | omega)))) | ((with_reducible refine kn_store1_int E.out rfl rfl rfl rfl rfl ?_); clear E; intro u E0; have E := Lib.hid E0; clear E0) | ((with_reducible refine kn_store1_slice E.out rfl rfl rfl rfl rfl ?_); clear E; intro u E0; have E := Lib.hid E0; clear E0) | ((with_reducible refine kn_store1_bool E.out rfl rfl rfl rfl rfl ?_); clear E; intro u E0; have E := Lib.hid E0; clear E0) | ((with_reducible refine kn_stores E.out rfl rfl rfl rfl rfl ?_ ?_ ?_); (focus (first | exact ⟨rfl, rfl⟩ | (simp only [i64s_length, u8s_length]; refine ⟨?_, ?_⟩ <;> first | rfl | assumption | omega))); (focus (first | exact i64s_one _ | exact u8s_one _ | simp [Value.oneCell'])); clear E; intro u E0; have E := Lib.hid E0; clear E0) | ((with_reducible refine kn_alloc E.out rfl rfl ?_); clear E; intro g u E0 hb0; have E := Lib.hid E0; clear E0 hb0) | ((with_reducible refine kn_box E.out rfl rfl rfl ?_); clear E; intro g u E0 hb0; have E := Lib.hid E0; clear E0 hb0) | ((with_reducible refine kn_box_int E.out rfl rfl rfl ?_); clear E; intro g u E0 hb0; have E := Lib.hid E0; clear E0 hb0) | ((with_reducible refine kn_box_slice E.out rfl rfl rfl ?_); clear E; intro g u E0 hb0; have E := Lib.hid E0; clear E0 hb0) | ((with_reducible refine kn_box_bool E.out rfl rfl rfl ?_); clear E; intro g u E0 hb0; have E := Lib.hid E0; clear E0 hb0) | ((with_reducible refine kn_box_func E.out rfl rfl rfl ?_); clear E; intro g u E0 hb0; have E := Lib.hid E0; clear E0 hb0))
        go_ret2
        rw [hno.out.1, hno.out.2]
        exact ⟨none, 0, 0, rfl, ⟨rfl, by simp, fun h => absurd h (by omega)⟩, by omega, by omega, E.out.bel⟩
    · obtain rfl : k = 16 := by omega
      have hok := Lib.hid (HOK.out hall)
      have hN := HLT.out 64
      have hS := Lib.hid (fun (gg : Nat) (u : World) (hu : Bs u u.heap.size (some ⟨gg, 0, none⟩) 8 z8) => show Calls Try.prog 52 #[.slice (some ⟨gg, 0, none⟩) 8 8, .int .i64 0, .int .i64 64, .int .u64 ((nm g 64 : Nat) : Int)] u (Laid u (lay z8 false 0 64 g) 0) from by
        have h := setLow_any (some ⟨gg, 0, none⟩) 8 8 0 64 (nm g 64) z8 u hu (by omega) (by omega) hN
        have e0 : setE 8 0 64 (nm g 64) = 0 := by
          unfold setE
          rw [if_pos (by decide), if_pos (show nm g 64 < 2 ^ Int.toNat 64 from hN)]
        rw [e0] at h
        have e1 : setV z8 false 0 64 (nm g 64) = lay z8 false 0 64 g := by
          unfold setV
          rw [if_pos (show setE z8.length 0 64 (nm g 64) = 0 from e0)]
          exact HALL.out
        rw [e1] at h
        exact h)
      clear hall HST hIX HOK HNO HALL H32 HLT hN
      generalize nm g 64 = N at *
      go_wp2_with (first
        | ((with_reducible refine kn_make8 E.out rfl rfl rfl rfl ?_); clear E; intro gg u E0 hB; have E := Lib.hid E0; clear E0)
        | (go_at_call 52; refine (hS.out _ _ hB).mono ?_; rintro e w2 ⟨A2, n2, c2, rfl, hB2, hn2, hc2, hb⟩; have E1 := Lib.hid (E.out.later hb); clear hb E; have E := E1; clear E1)
        | ((with_reducible refine kn_load E.out rfl rfl rfl rfl ?_)) | ((with_reducible refine kn_load_if E.out rfl rfl rfl rfl ?_)) | ((with_reducible refine kn_loads E.out rfl rfl rfl ?_ ?_); (focus (first | rfl | (simp only [i64s_length, u8s_length]; first | rfl | assumption | omega)))) | ((with_reducible refine kn_loads_if E.out rfl rfl rfl ?_ ?_); (focus (first | rfl | (simp only [i64s_length, u8s_length]; first | rfl | assumption | omega)))) | ((with_reducible refine kn_store1_int E.out rfl rfl rfl rfl rfl ?_); clear E; intro u E0; have E := Lib.hid E0; clear E0) | ((with_reducible refine kn_store1_slice E.out rfl rfl rfl rfl rfl ?_); clear E; intro u E0; have E := Lib.hid E0; clear E0) | ((with_reducible refine kn_store1_bool E.out rfl rfl rfl rfl rfl ?_); clear E; intro u E0; have E := Lib.hid E0; clear E0) | ((with_reducible refine kn_stores E.out rfl rfl rfl rfl rfl ?_ ?_ ?_); (focus (first | exact ⟨rfl, rfl⟩ | (simp only [i64s_length, u8s_length]; refine ⟨?_, ?_⟩ <;> first | rfl | assumption | omega))); (focus (first | exact i64s_one _ | exact u8s_one _ | simp [Value.oneCell'])); clear E; intro u E0; have E := Lib.hid E0; clear E0) | ((with_reducible refine kn_alloc E.out rfl rfl ?_); clear E; intro g u E0 hb0; have E := Lib.hid E0; clear E0 hb0) | ((with_reducible refine kn_box E.out rfl rfl rfl ?_); clear E; intro g u E0 hb0; have E := Lib.hid E0; clear E0 hb0) | ((with_reducible refine kn_box_int E.out rfl rfl rfl ?_); clear E; intro g u E0 hb0; have E := Lib.hid E0; clear E0 hb0) | ((with_reducible refine kn_box_slice E.out rfl rfl rfl ?_); clear E; intro g u E0 hb0; have E := Lib.hid E0; clear E0 hb0) | ((with_reducible refine kn_box_bool E.out rfl rfl rfl ?_); clear E; intro g u E0 hb0; have E := Lib.hid E0; clear E0 hb0) | ((with_reducible refine kn_box_func E.out rfl rfl rfl ?_); clear E; intro g u E0 hb0; have E := Lib.hid E0; clear E0 hb0))
      go_ret2
      rw [hok.out.1, hok.out.2]
      exact ⟨A2, n2, c2, rfl, hB2, hn2, hc2, E.out.bel⟩

theorem bjoin_any (a b : Int) (W : List Int) (w : World) (hW : W.length = 16) :
    Calls Try.prog 31 #[.int .i64 a, .int .i64 b, arr W] w (Laid w (jV a b W) (jE a b W)) := by
  by_cases h : (0 ≤ a ∧ a < 65536) ∧ (0 ≤ b ∧ b < 65536)
  · exact join_near a b W w h.1 h.2 hW
  · exact join_far a b W w h hW

/-! The reference's. -/
theorem rset8 (A : Option Addr) (c p m N : Nat) (P : Int) (hP : P = (p : Int)) (xs : List Nat) (u : World) (hu : Bs u u.heap.size A 8 xs) (hp : p + m ≤ 64) (hm : m ≤ 16) (hN : N < 2 ^ m) :
    Calls Try.prog 53 #[.slice A 8 c, .int .i64 P, .int .i64 (m : Int), .bool false, .int .u64 (N : Int)] u (Laid u (st xs false p m N) 0) := by
  subst hP
  have h2 : 2 ^ m ≤ 2 ^ 16 := Nat.pow_le_pow_right (by omega) hm
  have h := rset_any A 8 c (p : Int) (m : Int) false N xs u hu (by omega) (by omega)
  have eg : getE 8 (p : Int) (m : Int) = 0 := getE_zero (by omega) (by omega)
  have e0 : setE 8 (p : Int) (m : Int) N = 0 := by
    unfold setE
    rw [if_pos eg, if_pos (by rw [Int.toNat_natCast]; exact hN)]
  rw [e0, setV_ok hu.1 e0] at h
  exact h
section
variable {w u : World} {R R' : List Res} {F : List (World → Prop)} {ops : Array Oper} {rest : List Oper} {o : Oper} {a : Act} {Q : Exit → Act → World → Prop}
theorem kn_loadi_if (E : Kn w R F u) (hw : Region.wanted o (yielded ops a.tmps) = true) {ty : TypeId} {x : Operand} (ho : o.op = .load ty x) {g i : Nat} (hx : a.eval x = .pointer (some ⟨g, i, none⟩)) {t : TypeId} {zs : List Int} [Sees R F g t (i64s zs)] [Scal ty] (hi : i < zs.length)
    (h : wpList Try.prog ops Q rest (a.put o.dst (.int .i64 (zs.getD i 0))) u) : wpList Try.prog ops Q (o :: rest) a u := kn_load_if E hw ho hx (i64s_get zs i hi) h
end

set_option maxHeartbeats 4000000 in
set_option maxRecDepth 100000 in
theorem rjoin_far (a b : Int) (W : List Int) (w : World) (h : ¬ ((0 ≤ a ∧ a < 65536) ∧ (0 ≤ b ∧ b < 65536))) :
    Calls Try.prog 32 #[.int .i64 a, .int .i64 b, arr W] w (Laid w (jV a b W) (jE a b W)) := by
  have hno : ¬ jOk a b W := fun k => h ⟨k.1, k.2.1⟩
  rw [jV_no hno, jE_no hno]
  have E := Lib.hid (Kn.start w)
  clear hno
  by_cases h1 : a < 0
  · clear h
    go_enter Try.func32, Try.ntmps32
    go_wp2_with (first | ((with_reducible refine kn_load E.out rfl rfl rfl rfl ?_)) | ((with_reducible refine kn_load_if E.out rfl rfl rfl rfl ?_)) | ((with_reducible refine kn_loads E.out rfl rfl rfl ?_ ?_); (focus (first | rfl | (simp only [i64s_length, u8s_length]; first | rfl | assumption | omega)))) | ((with_reducible refine kn_loads_if E.out rfl rfl rfl ?_ ?_); (focus (first | rfl | (simp only [i64s_length, u8s_length]; first | rfl | assumption | omega)))) | ((with_reducible refine kn_store1_int E.out rfl rfl rfl rfl rfl ?_); clear E; intro u E0; have E := Lib.hid E0; clear E0) | ((with_reducible refine kn_store1_slice E.out rfl rfl rfl rfl rfl ?_); clear E; intro u E0; have E := Lib.hid E0; clear E0) | ((with_reducible refine kn_store1_bool E.out rfl rfl rfl rfl rfl ?_); clear E; intro u E0; have E := Lib.hid E0; clear E0) | ((with_reducible refine kn_stores E.out rfl rfl rfl rfl rfl ?_ ?_ ?_); (focus (first | exact ⟨rfl, rfl⟩ | (simp only [i64s_length, u8s_length]; refine ⟨?_, ?_⟩ <;> first | rfl | assumption | omega))); (focus (first | exact i64s_one _ | exact u8s_one _ | simp [Value.oneCell'])); clear E; intro u E0; have E := Lib.hid E0; clear E0) | ((with_reducible refine kn_alloc (o := ⟨some 5, _, _, _, _, _⟩) E.out rfl rfl ?_); clear E; intro g5 u E0 hb0; have E := Lib.hid E0; clear E0 hb0) | ((with_reducible refine kn_box (o := ⟨some 5, _, _, _, _, _⟩) E.out rfl rfl rfl ?_); clear E; intro g5 u E0 hb0; have E := Lib.hid E0; clear E0 hb0) | ((with_reducible refine kn_box_int (o := ⟨some 5, _, _, _, _, _⟩) E.out rfl rfl rfl ?_); clear E; intro g5 u E0 hb0; have E := Lib.hid E0; clear E0 hb0) | ((with_reducible refine kn_box_slice (o := ⟨some 5, _, _, _, _, _⟩) E.out rfl rfl rfl ?_); clear E; intro g5 u E0 hb0; have E := Lib.hid E0; clear E0 hb0) | ((with_reducible refine kn_box_bool (o := ⟨some 5, _, _, _, _, _⟩) E.out rfl rfl rfl ?_); clear E; intro g5 u E0 hb0; have E := Lib.hid E0; clear E0 hb0) | ((with_reducible refine kn_box_func (o := ⟨some 5, _, _, _, _, _⟩) E.out rfl rfl rfl ?_); clear E; intro g5 u E0 hb0; have E := Lib.hid E0; clear E0 hb0) | ((with_reducible refine kn_alloc E.out rfl rfl ?_); clear E; intro g u E0 hb0; have E := Lib.hid E0; clear E0 hb0) | ((with_reducible refine kn_box E.out rfl rfl rfl ?_); clear E; intro g u E0 hb0; have E := Lib.hid E0; clear E0 hb0) | ((with_reducible refine kn_box_int E.out rfl rfl rfl ?_); clear E; intro g u E0 hb0; have E := Lib.hid E0; clear E0 hb0) | ((with_reducible refine kn_box_slice E.out rfl rfl rfl ?_); clear E; intro g u E0 hb0; have E := Lib.hid E0; clear E0 hb0) | ((with_reducible refine kn_box_bool E.out rfl rfl rfl ?_); clear E; intro g u E0 hb0; have E := Lib.hid E0; clear E0 hb0) | ((with_reducible refine kn_box_func E.out rfl rfl rfl ?_); clear E; intro g u E0 hb0; have E := Lib.hid E0; clear E0 hb0))
    go_ret2
    exact ⟨none, 0, 0, rfl, ⟨rfl, by simp, fun h => absurd h (by omega)⟩, by omega, by omega, E.out.bel⟩
  · by_cases h2 : b < 0
    · clear h
      go_enter Try.func32, Try.ntmps32
      go_wp2_with (first | ((with_reducible refine kn_load E.out rfl rfl rfl rfl ?_)) | ((with_reducible refine kn_load_if E.out rfl rfl rfl rfl ?_)) | ((with_reducible refine kn_loads E.out rfl rfl rfl ?_ ?_); (focus (first | rfl | (simp only [i64s_length, u8s_length]; first | rfl | assumption | omega)))) | ((with_reducible refine kn_loads_if E.out rfl rfl rfl ?_ ?_); (focus (first | rfl | (simp only [i64s_length, u8s_length]; first | rfl | assumption | omega)))) | ((with_reducible refine kn_store1_int E.out rfl rfl rfl rfl rfl ?_); clear E; intro u E0; have E := Lib.hid E0; clear E0) | ((with_reducible refine kn_store1_slice E.out rfl rfl rfl rfl rfl ?_); clear E; intro u E0; have E := Lib.hid E0; clear E0) | ((with_reducible refine kn_store1_bool E.out rfl rfl rfl rfl rfl ?_); clear E; intro u E0; have E := Lib.hid E0; clear E0) | ((with_reducible refine kn_stores E.out rfl rfl rfl rfl rfl ?_ ?_ ?_); (focus (first | exact ⟨rfl, rfl⟩ | (simp only [i64s_length, u8s_length]; refine ⟨?_, ?_⟩ <;> first | rfl | assumption | omega))); (focus (first | exact i64s_one _ | exact u8s_one _ | simp [Value.oneCell'])); clear E; intro u E0; have E := Lib.hid E0; clear E0) | ((with_reducible refine kn_alloc (o := ⟨some 5, _, _, _, _, _⟩) E.out rfl rfl ?_); clear E; intro g5 u E0 hb0; have E := Lib.hid E0; clear E0 hb0) | ((with_reducible refine kn_box (o := ⟨some 5, _, _, _, _, _⟩) E.out rfl rfl rfl ?_); clear E; intro g5 u E0 hb0; have E := Lib.hid E0; clear E0 hb0) | ((with_reducible refine kn_box_int (o := ⟨some 5, _, _, _, _, _⟩) E.out rfl rfl rfl ?_); clear E; intro g5 u E0 hb0; have E := Lib.hid E0; clear E0 hb0) | ((with_reducible refine kn_box_slice (o := ⟨some 5, _, _, _, _, _⟩) E.out rfl rfl rfl ?_); clear E; intro g5 u E0 hb0; have E := Lib.hid E0; clear E0 hb0) | ((with_reducible refine kn_box_bool (o := ⟨some 5, _, _, _, _, _⟩) E.out rfl rfl rfl ?_); clear E; intro g5 u E0 hb0; have E := Lib.hid E0; clear E0 hb0) | ((with_reducible refine kn_box_func (o := ⟨some 5, _, _, _, _, _⟩) E.out rfl rfl rfl ?_); clear E; intro g5 u E0 hb0; have E := Lib.hid E0; clear E0 hb0) | ((with_reducible refine kn_alloc E.out rfl rfl ?_); clear E; intro g u E0 hb0; have E := Lib.hid E0; clear E0 hb0) | ((with_reducible refine kn_box E.out rfl rfl rfl ?_); clear E; intro g u E0 hb0; have E := Lib.hid E0; clear E0 hb0) | ((with_reducible refine kn_box_int E.out rfl rfl rfl ?_); clear E; intro g u E0 hb0; have E := Lib.hid E0; clear E0 hb0) | ((with_reducible refine kn_box_slice E.out rfl rfl rfl ?_); clear E; intro g u E0 hb0; have E := Lib.hid E0; clear E0 hb0) | ((with_reducible refine kn_box_bool E.out rfl rfl rfl ?_); clear E; intro g u E0 hb0; have E := Lib.hid E0; clear E0 hb0) | ((with_reducible refine kn_box_func E.out rfl rfl rfl ?_); clear E; intro g u E0 hb0; have E := Lib.hid E0; clear E0 hb0))
      go_ret2
      exact ⟨none, 0, 0, rfl, ⟨rfl, by simp, fun h => absurd h (by omega)⟩, by omega, by omega, E.out.bel⟩
    · by_cases h3 : 65535 < a
      · clear h
        go_enter Try.func32, Try.ntmps32
        go_wp2_with (first | ((with_reducible refine kn_load E.out rfl rfl rfl rfl ?_)) | ((with_reducible refine kn_load_if E.out rfl rfl rfl rfl ?_)) | ((with_reducible refine kn_loads E.out rfl rfl rfl ?_ ?_); (focus (first | rfl | (simp only [i64s_length, u8s_length]; first | rfl | assumption | omega)))) | ((with_reducible refine kn_loads_if E.out rfl rfl rfl ?_ ?_); (focus (first | rfl | (simp only [i64s_length, u8s_length]; first | rfl | assumption | omega)))) | ((with_reducible refine kn_store1_int E.out rfl rfl rfl rfl rfl ?_); clear E; intro u E0; have E := Lib.hid E0; clear E0) | ((with_reducible refine kn_store1_slice E.out rfl rfl rfl rfl rfl ?_); clear E; intro u E0; have E := Lib.hid E0; clear E0) | ((with_reducible refine kn_store1_bool E.out rfl rfl rfl rfl rfl ?_); clear E; intro u E0; have E := Lib.hid E0; clear E0) | ((with_reducible refine kn_stores E.out rfl rfl rfl rfl rfl ?_ ?_ ?_); (focus (first | exact ⟨rfl, rfl⟩ | (simp only [i64s_length, u8s_length]; refine ⟨?_, ?_⟩ <;> first | rfl | assumption | omega))); (focus (first | exact i64s_one _ | exact u8s_one _ | simp [Value.oneCell'])); clear E; intro u E0; have E := Lib.hid E0; clear E0) | ((with_reducible refine kn_alloc (o := ⟨some 5, _, _, _, _, _⟩) E.out rfl rfl ?_); clear E; intro g5 u E0 hb0; have E := Lib.hid E0; clear E0 hb0) | ((with_reducible refine kn_box (o := ⟨some 5, _, _, _, _, _⟩) E.out rfl rfl rfl ?_); clear E; intro g5 u E0 hb0; have E := Lib.hid E0; clear E0 hb0) | ((with_reducible refine kn_box_int (o := ⟨some 5, _, _, _, _, _⟩) E.out rfl rfl rfl ?_); clear E; intro g5 u E0 hb0; have E := Lib.hid E0; clear E0 hb0) | ((with_reducible refine kn_box_slice (o := ⟨some 5, _, _, _, _, _⟩) E.out rfl rfl rfl ?_); clear E; intro g5 u E0 hb0; have E := Lib.hid E0; clear E0 hb0) | ((with_reducible refine kn_box_bool (o := ⟨some 5, _, _, _, _, _⟩) E.out rfl rfl rfl ?_); clear E; intro g5 u E0 hb0; have E := Lib.hid E0; clear E0 hb0) | ((with_reducible refine kn_box_func (o := ⟨some 5, _, _, _, _, _⟩) E.out rfl rfl rfl ?_); clear E; intro g5 u E0 hb0; have E := Lib.hid E0; clear E0 hb0) | ((with_reducible refine kn_alloc E.out rfl rfl ?_); clear E; intro g u E0 hb0; have E := Lib.hid E0; clear E0 hb0) | ((with_reducible refine kn_box E.out rfl rfl rfl ?_); clear E; intro g u E0 hb0; have E := Lib.hid E0; clear E0 hb0) | ((with_reducible refine kn_box_int E.out rfl rfl rfl ?_); clear E; intro g u E0 hb0; have E := Lib.hid E0; clear E0 hb0) | ((with_reducible refine kn_box_slice E.out rfl rfl rfl ?_); clear E; intro g u E0 hb0; have E := Lib.hid E0; clear E0 hb0) | ((with_reducible refine kn_box_bool E.out rfl rfl rfl ?_); clear E; intro g u E0 hb0; have E := Lib.hid E0; clear E0 hb0) | ((with_reducible refine kn_box_func E.out rfl rfl rfl ?_); clear E; intro g u E0 hb0; have E := Lib.hid E0; clear E0 hb0))
        go_ret2
        exact ⟨none, 0, 0, rfl, ⟨rfl, by simp, fun h => absurd h (by omega)⟩, by omega, by omega, E.out.bel⟩
      · have h4 : 65535 < b := by omega
        clear h
        go_enter Try.func32, Try.ntmps32
        go_wp2_with (first | ((with_reducible refine kn_load E.out rfl rfl rfl rfl ?_)) | ((with_reducible refine kn_load_if E.out rfl rfl rfl rfl ?_)) | ((with_reducible refine kn_loads E.out rfl rfl rfl ?_ ?_); (focus (first | rfl | (simp only [i64s_length, u8s_length]; first | rfl | assumption | omega)))) | ((with_reducible refine kn_loads_if E.out rfl rfl rfl ?_ ?_); (focus (first | rfl | (simp only [i64s_length, u8s_length]; first | rfl | assumption | omega)))) | ((with_reducible refine kn_store1_int E.out rfl rfl rfl rfl rfl ?_); clear E; intro u E0; have E := Lib.hid E0; clear E0) | ((with_reducible refine kn_store1_slice E.out rfl rfl rfl rfl rfl ?_); clear E; intro u E0; have E := Lib.hid E0; clear E0) | ((with_reducible refine kn_store1_bool E.out rfl rfl rfl rfl rfl ?_); clear E; intro u E0; have E := Lib.hid E0; clear E0) | ((with_reducible refine kn_stores E.out rfl rfl rfl rfl rfl ?_ ?_ ?_); (focus (first | exact ⟨rfl, rfl⟩ | (simp only [i64s_length, u8s_length]; refine ⟨?_, ?_⟩ <;> first | rfl | assumption | omega))); (focus (first | exact i64s_one _ | exact u8s_one _ | simp [Value.oneCell'])); clear E; intro u E0; have E := Lib.hid E0; clear E0) | ((with_reducible refine kn_alloc (o := ⟨some 5, _, _, _, _, _⟩) E.out rfl rfl ?_); clear E; intro g5 u E0 hb0; have E := Lib.hid E0; clear E0 hb0) | ((with_reducible refine kn_box (o := ⟨some 5, _, _, _, _, _⟩) E.out rfl rfl rfl ?_); clear E; intro g5 u E0 hb0; have E := Lib.hid E0; clear E0 hb0) | ((with_reducible refine kn_box_int (o := ⟨some 5, _, _, _, _, _⟩) E.out rfl rfl rfl ?_); clear E; intro g5 u E0 hb0; have E := Lib.hid E0; clear E0 hb0) | ((with_reducible refine kn_box_slice (o := ⟨some 5, _, _, _, _, _⟩) E.out rfl rfl rfl ?_); clear E; intro g5 u E0 hb0; have E := Lib.hid E0; clear E0 hb0) | ((with_reducible refine kn_box_bool (o := ⟨some 5, _, _, _, _, _⟩) E.out rfl rfl rfl ?_); clear E; intro g5 u E0 hb0; have E := Lib.hid E0; clear E0 hb0) | ((with_reducible refine kn_box_func (o := ⟨some 5, _, _, _, _, _⟩) E.out rfl rfl rfl ?_); clear E; intro g5 u E0 hb0; have E := Lib.hid E0; clear E0 hb0) | ((with_reducible refine kn_alloc E.out rfl rfl ?_); clear E; intro g u E0 hb0; have E := Lib.hid E0; clear E0 hb0) | ((with_reducible refine kn_box E.out rfl rfl rfl ?_); clear E; intro g u E0 hb0; have E := Lib.hid E0; clear E0 hb0) | ((with_reducible refine kn_box_int E.out rfl rfl rfl ?_); clear E; intro g u E0 hb0; have E := Lib.hid E0; clear E0 hb0) | ((with_reducible refine kn_box_slice E.out rfl rfl rfl ?_); clear E; intro g u E0 hb0; have E := Lib.hid E0; clear E0 hb0) | ((with_reducible refine kn_box_bool E.out rfl rfl rfl ?_); clear E; intro g u E0 hb0; have E := Lib.hid E0; clear E0 hb0) | ((with_reducible refine kn_box_func E.out rfl rfl rfl ?_); clear E; intro g u E0 hb0; have E := Lib.hid E0; clear E0 hb0))
        go_ret2
        exact ⟨none, 0, 0, rfl, ⟨rfl, by simp, fun h => absurd h (by omega)⟩, by omega, by omega, E.out.bel⟩

set_option maxHeartbeats 4000000 in
set_option maxRecDepth 100000 in
theorem rjoin_near (a b : Int) (W : List Int) (w : World) (ha : 0 ≤ a ∧ a < 65536) (hb : 0 ≤ b ∧ b < 65536) (hW : W.length = 16) :
    Calls Try.prog 32 #[.int .i64 a, .int .i64 b, arr W] w (Laid w (jV a b W) (jE a b W)) := by
  have E := Lib.hid (Kn.start w)
  have HOK := Lib.hid (fun (h : ∀ j, j < 16 → 0 ≤ W.getD j 0 ∧ W.getD j 0 < 4) => show jV a b W = lay z8 false 0 64 (jb a b W) ∧ jE a b W = 0 from ⟨jV_ok ⟨ha, hb, h⟩, jE_ok ⟨ha, hb, h⟩⟩)
  have HNO := Lib.hid (fun (j : Nat) (hj : j < 16) (h : ¬ (0 ≤ W.getD j 0 ∧ W.getD j 0 < 4)) => show jV a b W = [] ∧ jE a b W = 1 from ⟨jV_no fun k => h (k.2.2 j hj), jE_no fun k => h (k.2.2 j hj)⟩)
  have HL1 := lay_first (a := a) (b := b) (W := W)
  have HL2 := lay_second (a := a) (b := b) (W := W)
  have HLS := fun i => lay_step (a := a) (b := b) (W := W) i
  have HLL : ∀ p, (lay z8 false 0 p (jb a b W)).length = 8 := fun p => lay_length _ _ _ _ _
  generalize jV a b W = jv at *
  generalize jE a b W = je at *
  obtain ⟨LL, hLL⟩ : ∃ LL : Nat → List Nat, LL = fun p => lay z8 false 0 p (jb a b W) := ⟨_, rfl⟩
  have hL (p : Nat) : lay z8 false 0 p (jb a b W) = LL p := by rw [hLL]
  simp only [hL] at HOK HL1 HL2 HLS HLL
  clear hL hLL
  obtain ⟨an, rfl⟩ := Int.eq_ofNat_of_zero_le ha.1
  obtain ⟨bn, rfl⟩ := Int.eq_ofNat_of_zero_le hb.1
  have ha2 : an < 65536 := by omega
  have hb2 : bn < 65536 := by omega
  simp only [Int.toNat_natCast] at HL1 HL2
  clear ha hb
  have S1 := Lib.hid (fun (A : Option Addr) (c : Nat) (u : World) (hu : Bs u u.heap.size A 8 z8) => show Calls Try.prog 53 #[.slice A 8 c, .int .i64 0, .int .i64 16, .bool false, .int .u64 (an : Int)] u (Laid u (LL 16) 0) from by rw [← HL1]; exact rset8 A c 0 16 an 0 rfl z8 u hu (by omega) (by omega) ha2)
  have S2 := Lib.hid (fun (A : Option Addr) (c : Nat) (u : World) (hu : Bs u u.heap.size A 8 (LL 16)) => show Calls Try.prog 53 #[.slice A 8 c, .int .i64 16, .int .i64 16, .bool false, .int .u64 (bn : Int)] u (Laid u (LL 32) 0) from by rw [← HL2]; exact rset8 A c 16 16 bn 16 rfl _ u hu (by omega) (by omega) hb2)
  have S3 := Lib.hid (fun (k : Nat) (v : Nat) (hv : W.getD k 0 = (v : Int)) (hk : k < 16) (hv4 : v < 4) (P : Int) (hP : P = ((32 + 2 * k : Nat) : Int)) (A : Option Addr) (c : Nat) (u : World) (hu : Bs u u.heap.size A 8 (LL (32 + 2 * k))) => show Calls Try.prog 53 #[.slice A 8 c, .int .i64 P, .int .i64 2, .bool false, .int .u64 (v : Int)] u (Laid u (LL (32 + 2 * (k + 1))) 0) from by
    have h := HLS k
    rw [hv, Int.toNat_natCast] at h
    rw [← h]
    exact rset8 A c (32 + 2 * k) 2 v P hP _ u hu (by omega) (by omega) hv4)
  have HLN := Lib.hid HLL
  clear HL1 HL2 HLS HLL
  go_enter Try.func32, Try.ntmps32
  go_wp2_with (first
    | ((with_reducible refine kn_make8 E.out rfl rfl rfl rfl ?_); clear E; intro gg u E0 hB; have E := Lib.hid (((E0.rest gg).rest g5).new_bs hB); clear E0 hB)
    | (go_at_call 53; first
      | (refine (S1.out _ _ _ (E.out.bs (by simp))).mono ?_; clear S1; rintro e w1 ⟨A1, n1, c1, rfl, hB1, hn1, hc1, hb⟩; obtain rfl : n1 = 8 := hB1.1.symm.trans (HLN.out 16); have E1 := Lib.hid (E.out.later hb); clear hb E; have E := E1; clear E1; have E1 := Lib.hid (E.out.new_bs hB1); clear E hB1; have E := E1; clear E1)
      | (refine (S2.out _ _ _ (E.out.bs (by simp))).mono ?_; clear S2; rintro e w1 ⟨A2, n2, c2, rfl, hB1, hn2, hc2, hb⟩; obtain rfl : n2 = 8 := hB1.1.symm.trans (HLN.out 32); have E1 := Lib.hid (E.out.later hb); clear hb E; have E := E1; clear E1; have E1 := Lib.hid (E.out.new_bs hB1); clear E hB1; have E := E1; clear E1))
    | ((with_reducible refine kn_load E.out rfl rfl rfl rfl ?_)) | ((with_reducible refine kn_load_if E.out rfl rfl rfl rfl ?_)) | ((with_reducible refine kn_loads E.out rfl rfl rfl ?_ ?_); (focus (first | rfl | (simp only [i64s_length, u8s_length]; first | rfl | assumption | omega)))) | ((with_reducible refine kn_loads_if E.out rfl rfl rfl ?_ ?_); (focus (first | rfl | (simp only [i64s_length, u8s_length]; first | rfl | assumption | omega)))) | ((with_reducible refine kn_store1_int E.out rfl rfl rfl rfl rfl ?_); clear E; intro u E0; have E := Lib.hid E0; clear E0) | ((with_reducible refine kn_store1_slice E.out rfl rfl rfl rfl rfl ?_); clear E; intro u E0; have E := Lib.hid E0; clear E0) | ((with_reducible refine kn_store1_bool E.out rfl rfl rfl rfl rfl ?_); clear E; intro u E0; have E := Lib.hid E0; clear E0) | ((with_reducible refine kn_stores E.out rfl rfl rfl rfl rfl ?_ ?_ ?_); (focus (first | exact ⟨rfl, rfl⟩ | (simp only [i64s_length, u8s_length]; refine ⟨?_, ?_⟩ <;> first | rfl | assumption | omega))); (focus (first | exact i64s_one _ | exact u8s_one _ | simp [Value.oneCell'])); clear E; intro u E0; have E := Lib.hid E0; clear E0) | ((with_reducible refine kn_alloc (o := ⟨some 5, _, _, _, _, _⟩) E.out rfl rfl ?_); clear E; intro g5 u E0 hb0; have E := Lib.hid E0; clear E0 hb0) | ((with_reducible refine kn_box (o := ⟨some 5, _, _, _, _, _⟩) E.out rfl rfl rfl ?_); clear E; intro g5 u E0 hb0; have E := Lib.hid E0; clear E0 hb0) | ((with_reducible refine kn_box_int (o := ⟨some 5, _, _, _, _, _⟩) E.out rfl rfl rfl ?_); clear E; intro g5 u E0 hb0; have E := Lib.hid E0; clear E0 hb0) | ((with_reducible refine kn_box_slice (o := ⟨some 5, _, _, _, _, _⟩) E.out rfl rfl rfl ?_); clear E; intro g5 u E0 hb0; have E := Lib.hid E0; clear E0 hb0) | ((with_reducible refine kn_box_bool (o := ⟨some 5, _, _, _, _, _⟩) E.out rfl rfl rfl ?_); clear E; intro g5 u E0 hb0; have E := Lib.hid E0; clear E0 hb0) | ((with_reducible refine kn_box_func (o := ⟨some 5, _, _, _, _, _⟩) E.out rfl rfl rfl ?_); clear E; intro g5 u E0 hb0; have E := Lib.hid E0; clear E0 hb0) | ((with_reducible refine kn_alloc E.out rfl rfl ?_); clear E; intro g u E0 hb0; have E := Lib.hid E0; clear E0 hb0) | ((with_reducible refine kn_box E.out rfl rfl rfl ?_); clear E; intro g u E0 hb0; have E := Lib.hid E0; clear E0 hb0) | ((with_reducible refine kn_box_int E.out rfl rfl rfl ?_); clear E; intro g u E0 hb0; have E := Lib.hid E0; clear E0 hb0) | ((with_reducible refine kn_box_slice E.out rfl rfl rfl ?_); clear E; intro g u E0 hb0; have E := Lib.hid E0; clear E0 hb0) | ((with_reducible refine kn_box_bool E.out rfl rfl rfl ?_); clear E; intro g u E0 hb0; have E := Lib.hid E0; clear E0 hb0) | ((with_reducible refine kn_box_func E.out rfl rfl rfl ?_); clear E; intro g u E0 hb0; have E := Lib.hid E0; clear E0 hb0))
  go_loopw [9, 8] (fun i s wr => ∃ (k : Nat) (A3 : Option Addr) (c3 : Nat), k ≤ 16 ∧ i = .int .i64 k ∧ s = .slice A3 8 c3 ∧ (8 ≤ c3 ∧ c3 ≤ 9223372036854775807) ∧ (∀ j, j < k → 0 ≤ W.getD j 0 ∧ W.getD j 0 < 4) ∧ Hid (Kn w [] [bsF A3 8 (LL (32 + 2 * k)), rowF g5 51 (i64s W)] wr)) (fun i _ _ => 16 - (intOf i).toNat)
  case atStart => exact ⟨0, A2, c2, by omega, rfl, rfl, ⟨hn2, hc2⟩, fun j hj => absurd hj (by omega), E.out.part _ _ (List.Sublist.refl _) (by simp)⟩
  case round =>
    clear E
    obtain ⟨k, A3, c3, hk, rfl, rfl, hc3, hall, E⟩ := hrel
    by_cases hlt : k < 16
    · by_cases hgood : 0 ≤ W.getD k 0 ∧ W.getD k 0 < 4
      · have hall' := Lib.hid (show ∀ j, j < k + 1 → 0 ≤ W.getD j 0 ∧ W.getD j 0 < 4 from fun j hj => by
          rcases Nat.lt_or_ge j k with h | h
          · exact hall j h
          · obtain rfl : j = k := by omega
            exact hgood)
        obtain ⟨v, hv⟩ : ∃ v : Nat, W.getD k 0 = (v : Int) := ⟨(W.getD k 0).toNat, by omega⟩
        have hv4 : v < 4 := by omega
        have HV := Lib.hid hv
        have S := Lib.hid (S3.out k v hv hlt hv4)
        have hLn := HLN.out (32 + 2 * (k + 1))
        clear hv hgood hall S3 HOK HNO HLN
        go_wp2_with (first
          | ((with_reducible refine kn_loadi (g := g5) E.out rfl rfl rfl ?hi ?_); (case hi => omega); rw [HV.out])
          | ((with_reducible refine kn_loadi_if (g := g5) E.out rfl rfl rfl ?hi ?_); (case hi => omega); rw [HV.out])
          | (go_at_call 53; refine (S.out _ (by omega) _ _ _ (E.out.bs (by simp))).mono ?_; rintro e w1 ⟨A4, n4, c4, rfl, hB1, hn4, hc4, hb⟩; obtain rfl : n4 = 8 := hB1.1.symm.trans hLn; have E1 := Lib.hid (E.out.later hb); clear hb E; have E := E1; clear E1; have E1 := Lib.hid (E.out.new_bs hB1); clear E hB1; have E := E1; clear E1)
          | ((with_reducible refine kn_load E.out rfl rfl rfl rfl ?_)) | ((with_reducible refine kn_load_if E.out rfl rfl rfl rfl ?_)) | ((with_reducible refine kn_loads E.out rfl rfl rfl ?_ ?_); (focus (first | rfl | (simp only [i64s_length, u8s_length]; first | rfl | assumption | omega)))) | ((with_reducible refine kn_loads_if E.out rfl rfl rfl ?_ ?_); (focus (first | rfl | (simp only [i64s_length, u8s_length]; first | rfl | assumption | omega)))) | ((with_reducible refine kn_store1_int E.out rfl rfl rfl rfl rfl ?_); clear E; intro u E0; have E := Lib.hid E0; clear E0) | ((with_reducible refine kn_store1_slice E.out rfl rfl rfl rfl rfl ?_); clear E; intro u E0; have E := Lib.hid E0; clear E0) | ((with_reducible refine kn_store1_bool E.out rfl rfl rfl rfl rfl ?_); clear E; intro u E0; have E := Lib.hid E0; clear E0) | ((with_reducible refine kn_stores E.out rfl rfl rfl rfl rfl ?_ ?_ ?_); (focus (first | exact ⟨rfl, rfl⟩ | (simp only [i64s_length, u8s_length]; refine ⟨?_, ?_⟩ <;> first | rfl | assumption | omega))); (focus (first | exact i64s_one _ | exact u8s_one _ | simp [Value.oneCell'])); clear E; intro u E0; have E := Lib.hid E0; clear E0) | ((with_reducible refine kn_alloc E.out rfl rfl ?_); clear E; intro g u E0 hb0; have E := Lib.hid E0; clear E0 hb0) | ((with_reducible refine kn_box E.out rfl rfl rfl ?_); clear E; intro g u E0 hb0; have E := Lib.hid E0; clear E0 hb0) | ((with_reducible refine kn_box_int E.out rfl rfl rfl ?_); clear E; intro g u E0 hb0; have E := Lib.hid E0; clear E0 hb0) | ((with_reducible refine kn_box_slice E.out rfl rfl rfl ?_); clear E; intro g u E0 hb0; have E := Lib.hid E0; clear E0 hb0) | ((with_reducible refine kn_box_bool E.out rfl rfl rfl ?_); clear E; intro g u E0 hb0; have E := Lib.hid E0; clear E0 hb0) | ((with_reducible refine kn_box_func E.out rfl rfl rfl ?_); clear E; intro g u E0 hb0; have E := Lib.hid E0; clear E0 hb0))
        go_roundw
        case rel => exact ⟨k + 1, A4, c4, by omega, by go_num, rfl, ⟨hn4, hc4⟩, hall'.out, E.out.part _ _ (List.Sublist.refl _) (by simp)⟩
        case measure => simp [intOf]; omega
      · have hno := Lib.hid (HNO.out k hlt hgood)
        obtain ⟨v, hv⟩ : ∃ v : Int, W.getD k 0 = v := ⟨_, rfl⟩
        rw [hv] at hgood
        have HV := Lib.hid hv
        clear hv hall S3 HOK HNO HLN
        by_cases hneg : v < 0
        · clear hgood
          go_wp2_with (first
            | ((with_reducible refine kn_loadi (g := g5) E.out rfl rfl rfl ?hi ?_); (case hi => omega); rw [HV.out])
            | ((with_reducible refine kn_loadi_if (g := g5) E.out rfl rfl rfl ?hi ?_); (case hi => omega); rw [HV.out])
            | ((with_reducible refine kn_load E.out rfl rfl rfl rfl ?_)) | ((with_reducible refine kn_load_if E.out rfl rfl rfl rfl ?_)) | ((with_reducible refine kn_loads E.out rfl rfl rfl ?_ ?_); (focus (first | rfl | (simp only [i64s_length, u8s_length]; first | rfl | assumption | omega)))) | ((with_reducible refine kn_loads_if E.out rfl rfl rfl ?_ ?_); (focus (first | rfl | (simp only [i64s_length, u8s_length]; first | rfl | assumption | omega)))) | ((with_reducible refine kn_store1_int E.out rfl rfl rfl rfl rfl ?_); clear E; intro u E0; have E := Lib.hid E0; clear E0) | ((with_reducible refine kn_store1_slice E.out rfl rfl rfl rfl rfl ?_); clear E; intro u E0; have E := Lib.hid E0; clear E0) | ((with_reducible refine kn_store1_bool E.out rfl rfl rfl rfl rfl ?_); clear E; intro u E0; have E := Lib.hid E0; clear E0) | ((with_reducible refine kn_stores E.out rfl rfl rfl rfl rfl ?_ ?_ ?_); (focus (first | exact ⟨rfl, rfl⟩ | (simp only [i64s_length, u8s_length]; refine ⟨?_, ?_⟩ <;> first | rfl | assumption | omega))); (focus (first | exact i64s_one _ | exact u8s_one _ | simp [Value.oneCell'])); clear E; intro u E0; have E := Lib.hid E0; clear E0) | ((with_reducible refine kn_alloc E.out rfl rfl ?_); clear E; intro g u E0 hb0; have E := Lib.hid E0; clear E0 hb0) | ((with_reducible refine kn_box E.out rfl rfl rfl ?_); clear E; intro g u E0 hb0; have E := Lib.hid E0; clear E0 hb0) | ((with_reducible refine kn_box_int E.out rfl rfl rfl ?_); clear E; intro g u E0 hb0; have E := Lib.hid E0; clear E0 hb0) | ((with_reducible refine kn_box_slice E.out rfl rfl rfl ?_); clear E; intro g u E0 hb0; have E := Lib.hid E0; clear E0 hb0) | ((with_reducible refine kn_box_bool E.out rfl rfl rfl ?_); clear E; intro g u E0 hb0; have E := Lib.hid E0; clear E0 hb0) | ((with_reducible refine kn_box_func E.out rfl rfl rfl ?_); clear E; intro g u E0 hb0; have E := Lib.hid E0; clear E0 hb0))
          go_ret2
          rw [hno.out.1, hno.out.2]
          exact ⟨none, 0, 0, rfl, ⟨rfl, by simp, fun h => absurd h (by omega)⟩, by omega, by omega, E.out.bel⟩
        · have hbig : 3 < v := by omega
          clear hgood
          go_wp2_with (first
            | ((with_reducible refine kn_loadi (g := g5) E.out rfl rfl rfl ?hi ?_); (case hi => omega); rw [HV.out])
            | ((with_reducible refine kn_loadi_if (g := g5) E.out rfl rfl rfl ?hi ?_); (case hi => omega); rw [HV.out])
            | ((with_reducible refine kn_load E.out rfl rfl rfl rfl ?_)) | ((with_reducible refine kn_load_if E.out rfl rfl rfl rfl ?_)) | ((with_reducible refine kn_loads E.out rfl rfl rfl ?_ ?_); (focus (first | rfl | (simp only [i64s_length, u8s_length]; first | rfl | assumption | omega)))) | ((with_reducible refine kn_loads_if E.out rfl rfl rfl ?_ ?_); (focus (first | rfl | (simp only [i64s_length, u8s_length]; first | rfl | assumption | omega)))) | ((with_reducible refine kn_store1_int E.out rfl rfl rfl rfl rfl ?_); clear E; intro u E0; have E := Lib.hid E0; clear E0) | ((with_reducible refine kn_store1_slice E.out rfl rfl rfl rfl rfl ?_); clear E; intro u E0; have E := Lib.hid E0; clear E0) | ((with_reducible refine kn_store1_bool E.out rfl rfl rfl rfl rfl ?_); clear E; intro u E0; have E := Lib.hid E0; clear E0) | ((with_reducible refine kn_stores E.out rfl rfl rfl rfl rfl ?_ ?_ ?_); (focus (first | exact ⟨rfl, rfl⟩ | (simp only [i64s_length, u8s_length]; refine ⟨?_, ?_⟩ <;> first | rfl | assumption | omega))); (focus (first | exact i64s_one _ | exact u8s_one _ | simp [Value.oneCell'])); clear E; intro u E0; have E := Lib.hid E0; clear E0) | ((with_reducible refine kn_alloc E.out rfl rfl ?_); clear E; intro g u E0 hb0; have E := Lib.hid E0; clear E0 hb0) | ((with_reducible refine kn_box E.out rfl rfl rfl ?_); clear E; intro g u E0 hb0; have E := Lib.hid E0; clear E0 hb0) | ((with_reducible refine kn_box_int E.out rfl rfl rfl ?_); clear E; intro g u E0 hb0; have E := Lib.hid E0; clear E0 hb0) | ((with_reducible refine kn_box_slice E.out rfl rfl rfl ?_); clear E; intro g u E0 hb0; have E := Lib.hid E0; clear E0 hb0) | ((with_reducible refine kn_box_bool E.out rfl rfl rfl ?_); clear E; intro g u E0 hb0; have E := Lib.hid E0; clear E0 hb0) | ((with_reducible refine kn_box_func E.out rfl rfl rfl ?_); clear E; intro g u E0 hb0; have E := Lib.hid E0; clear E0 hb0))
          go_ret2
          rw [hno.out.1, hno.out.2]
          exact ⟨none, 0, 0, rfl, ⟨rfl, by simp, fun h => absurd h (by omega)⟩, by omega, by omega, E.out.bel⟩
    · obtain rfl : k = 16 := by omega
      have hok := Lib.hid (HOK.out hall)
      clear hall S3 HOK HNO HLN
      go_wp2_with (first | ((with_reducible refine kn_load E.out rfl rfl rfl rfl ?_)) | ((with_reducible refine kn_load_if E.out rfl rfl rfl rfl ?_)) | ((with_reducible refine kn_loads E.out rfl rfl rfl ?_ ?_); (focus (first | rfl | (simp only [i64s_length, u8s_length]; first | rfl | assumption | omega)))) | ((with_reducible refine kn_loads_if E.out rfl rfl rfl ?_ ?_); (focus (first | rfl | (simp only [i64s_length, u8s_length]; first | rfl | assumption | omega)))) | ((with_reducible refine kn_store1_int E.out rfl rfl rfl rfl rfl ?_); clear E; intro u E0; have E := Lib.hid E0; clear E0) | ((with_reducible refine kn_store1_slice E.out rfl rfl rfl rfl rfl ?_); clear E; intro u E0; have E := Lib.hid E0; clear E0) | ((with_reducible refine kn_store1_bool E.out rfl rfl rfl rfl rfl ?_); clear E; intro u E0; have E := Lib.hid E0; clear E0) | ((with_reducible refine kn_stores E.out rfl rfl rfl rfl rfl ?_ ?_ ?_); (focus (first | exact ⟨rfl, rfl⟩ | (simp only [i64s_length, u8s_length]; refine ⟨?_, ?_⟩ <;> first | rfl | assumption | omega))); (focus (first | exact i64s_one _ | exact u8s_one _ | simp [Value.oneCell'])); clear E; intro u E0; have E := Lib.hid E0; clear E0) | ((with_reducible refine kn_alloc E.out rfl rfl ?_); clear E; intro g u E0 hb0; have E := Lib.hid E0; clear E0 hb0) | ((with_reducible refine kn_box E.out rfl rfl rfl ?_); clear E; intro g u E0 hb0; have E := Lib.hid E0; clear E0 hb0) | ((with_reducible refine kn_box_int E.out rfl rfl rfl ?_); clear E; intro g u E0 hb0; have E := Lib.hid E0; clear E0 hb0) | ((with_reducible refine kn_box_slice E.out rfl rfl rfl ?_); clear E; intro g u E0 hb0; have E := Lib.hid E0; clear E0 hb0) | ((with_reducible refine kn_box_bool E.out rfl rfl rfl ?_); clear E; intro g u E0 hb0; have E := Lib.hid E0; clear E0 hb0) | ((with_reducible refine kn_box_func E.out rfl rfl rfl ?_); clear E; intro g u E0 hb0; have E := Lib.hid E0; clear E0 hb0))
      go_ret2
      rw [hok.out.1, hok.out.2]
      exact ⟨A3, 8, c3, rfl, E.out.bs (by simp), hc3.1, hc3.2, E.out.bel⟩
theorem rbjoin_any (a b : Int) (W : List Int) (w : World) (hW : W.length = 16) :
    Calls Try.prog 32 #[.int .i64 a, .int .i64 b, arr W] w (Laid w (jV a b W) (jE a b W)) := by
  by_cases h : (0 ≤ a ∧ a < 65536) ∧ (0 ≤ b ∧ b < 65536)
  · exact rjoin_near a b W w h.1 h.2 hW
  · exact rjoin_far a b W w h
end Go.Proofs.Yteefmgchkhbdpaa
