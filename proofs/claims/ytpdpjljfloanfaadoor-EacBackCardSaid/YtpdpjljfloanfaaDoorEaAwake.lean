/- What the laws of blocks of one number for each texel begin with. -/
import Derived.Test.YtpdpjljfloanfaaDoorEaRdec
import Derived.Test.YtpdpjljfloanfaaDoorEaJoin
set_option linter.all false
namespace Go.Proofs.YtpdpjljfloanfaaDoor
open Go.RowKit
open Bi Lv Bc Ea
open Bf (okW)

/-- The program's Decode of a block of parts. -/
theorem decode_jB (A : Option Addr) (c : Nat) (b t n : Int) (W : List Int) (wide : Bool) (w : World) (h : Bs w w.heap.size A 8 (jB b t n W)) (hN : Tabs w) (hl : W.length = 16) (hk : okJ b t n W) :
    Calls Tryd.prog 9 #[.slice A 8 c, .bool wide] w fun e w' => e = .returned (.tuple #[arr (deE b t n wide W), .int .i64 0]) ∧ Below w.heap.size w w' := by
  have k := decode_ok A c (jB b t n W) wide w h hN
  rw [back_B _ _ _ _ hk.1, back_T _ _ _ _ hk.2.1, back_N _ _ _ _ hk.2.2.1, back_W _ _ _ _ hl hk.2.2.2] at k
  exact k
namespace Ea
def awW : List Int := [4, 3, 0, 0, 7, 0, 0, 0, 0, 0, 0, 0, 0, 0, 0, 0]
theorem aw_ok : okJ 100 2 13 awW := by decide +kernel
theorem aw_l : (deE 100 2 13 false awW).getD 0 0 = 100 ∧ (deE 100 2 13 false awW).getD 1 0 = 80 ∧ (deE 100 2 13 false awW).getD 4 0 = 118 ∧ (deE 100 2 13 false awW).getD 5 0 = 98 := by decide +kernel
theorem aw_m : (deE 100 2 13 true awW).getD 0 0 = 804 ∧ (deE 100 2 13 true awW).getD 1 0 = 644 := by decide +kernel
theorem aw_v : valE 10 2 (-3) false = 4 ∧ valE 10 0 (-3) true = 81 := by decide +kernel
theorem aw_t : tabV 1 = [-3, -7, -10, -13, 2, 6, 9, 12] := by decide +kernel
end Ea
set_option maxHeartbeats 8000000 in
set_option maxRecDepth 100000 in
theorem awake12 (w : World) (hN : Tabs w) : Calls Tryd.prog 6 #[] w fun e w' => e = .returned (.bool true) ∧ Below w.heap.size w w' := by
  have E := Lib.hid ((Kn.start w).arg_tabs hN)
  have hJ := Lib.hid (fun u => show Calls Tryd.prog 13 #[.int .i64 100, .int .i64 2, .int .i64 13, arr awW] u (Laid u (jB 100 2 13 awW) 0) from by
    have h := ejoin_any 100 2 13 awW u rfl
    rw [jV_ok aw_ok, jE_ok aw_ok] at h
    exact h)
  have hD := Lib.hid (fun A c u hu hn => decode_jB A c 100 2 13 awW false u hu hn rfl aw_ok)
  have hM := Lib.hid (fun A c u hu hn => decode_jB A c 100 2 13 awW true u hu hn rfl aw_ok)
  have hT := Lib.hid (fun u hu => show Calls Tryd.prog 11 #[.int .i64 1] u (fun e w' => e = .returned (arr [-3, -7, -10, -13, 2, 6, 9, 12]) ∧ Below u.heap.size u w') from by
    have h := table_any 1 u hu
    rw [aw_t] at h
    exact h)
  have hv1 := Lib.hid (fun u => show Calls Tryd.prog 17 #[.int .i64 10, .int .i64 2, .int .i64 (-3), .bool false] u (fun e w' => e = .returned (.int .i64 4) ∧ u = w') from by
    have h := value_any 10 2 (-3) false u (by omega) (by omega) (by omega)
    rw [aw_v.1] at h
    exact h)
  have hv2 := Lib.hid (fun u => show Calls Tryd.prog 17 #[.int .i64 10, .int .i64 0, .int .i64 (-3), .bool true] u (fun e w' => e = .returned (.int .i64 81) ∧ u = w') from by
    have h := value_any 10 0 (-3) true u (by omega) (by omega) (by omega)
    rw [aw_v.2] at h
    exact h)
  have hjl := Lib.hid (jB_length 100 2 13 awW)
  have hl1 := Lib.hid (deE_length 100 2 13 false awW)
  have hl2 := Lib.hid (deE_length 100 2 13 true awW)
  have e0 := Lib.hid aw_l.1
  have e1 := Lib.hid aw_l.2.1
  have e4 := Lib.hid aw_l.2.2.1
  have e5 := Lib.hid aw_l.2.2.2
  have m0 := Lib.hid aw_m.1
  have m1 := Lib.hid aw_m.2
  have hzz := Lib.hid (show (i64s z16).length = 16 from rfl)
  have hAv := Lib.hid (show (#[.int .i64 4, .int .i64 3, .int .i64 0, .int .i64 0, .int .i64 7, .int .i64 0, .int .i64 0, .int .i64 0, .int .i64 0, .int .i64 0, .int .i64 0, .int .i64 0, .int .i64 0, .int .i64 0, .int .i64 0, .int .i64 0] : Array Value) = (i64s awW).toArray from rfl)
  have x2 : ∀ u, (Instr.index 31 (.agg #[.int .i64 (-3), .int .i64 (-7), .int .i64 (-10), .int .i64 (-13), .int .i64 2, .int .i64 6, .int .i64 9, .int .i64 12]) (.int .i64 3)).run Tryd.prog u = .ok (.int .i64 (-13)) u := fun u => run_index_i64 (P := Tryd.prog) 31 3 8 Tryd.underlying31 Tryd.underlying3 (by kernel_rfl) [-3, -7, -10, -13, 2, 6, 9, 12] 3 (by omega) rfl u
  have x1 : ∀ u, (Instr.index 31 (arr [-3, -7, -10, -13, 2, 6, 9, 12]) (.int .i64 3)).run Tryd.prog u = .ok (.int .i64 (-13)) u := x2
  generalize jB 100 2 13 awW = JB at *
  generalize deE 100 2 13 false awW = LF at *
  generalize deE 100 2 13 true awW = LT at *
  generalize awW = aW at *
  go_enter Tryd.func6, Tryd.ntmps6
  go_wp2_with (first
    | (go_at_call 13; rw [hAv.out]; refine (hJ.out _).mono ?_; clear hJ; rintro e w1 ⟨A1, n1, c1, rfl, hB1, hn1, hc1, hb⟩; obtain rfl : n1 = 8 := hB1.1.symm.trans hjl.out; have E1 := Lib.hid (E.out.later hb); clear hb E; have E := E1; clear E1; have E1 := Lib.hid (E.out.new_bsi hB1); clear E hB1; have E := E1; clear E1)
    | (go_at_call 9; (with_reducible refine (hD.out _ _ _ ?ha ?hb).mono ?_); (case ha => exact E.out.bs (by simp)); (case hb => exact E.out.get (by simp)); clear hD; rintro e w2 ⟨rfl, hb⟩; have E1 := Lib.hid (E.out.later hb); clear hb E; have E := E1; clear E1)
    | (go_at_call 9; (with_reducible refine (hM.out _ _ _ ?ha ?hb).mono ?_); (case ha => exact E.out.bs (by simp)); (case hb => exact E.out.get (by simp)); clear hM; rintro e w2 ⟨rfl, hb⟩; have E1 := Lib.hid (E.out.later hb); clear hb E; have E := E1; clear E1)
    | (go_at_call 17; (with_reducible refine (hv1.out _).mono ?_); clear hv1; rintro e w2 ⟨rfl, rfl⟩)
    | (go_at_call 17; (with_reducible refine (hv2.out _).mono ?_); clear hv2; rintro e w2 ⟨rfl, rfl⟩)
    | (go_at_call 11; (with_reducible refine (hT.out _ ?ha).mono ?_); (case ha => exact E.out.get (by simp)); clear hT; rintro e w2 ⟨rfl, hb⟩; have E1 := Lib.hid (E.out.later hb); clear hb E; have E := E1; clear E1)
    | ((with_reducible refine kn_stores (g := g3) (vs := i64s LF) E.out rfl rfl rfl rfl rfl ?hl ?h1 ?_); (case hl => exact ⟨hzz.out, by rw [i64s_length]; exact hl1.out⟩); (case h1 => exact i64s_one _); clear E; intro u E0; have E := Lib.hid E0; clear E0)
    | ((with_reducible refine kn_stores (g := g5) (vs := i64s LT) E.out rfl rfl rfl rfl rfl ?hl ?h1 ?_); (case hl => exact ⟨hzz.out, by rw [i64s_length]; exact hl2.out⟩); (case h1 => exact i64s_one _); clear E; intro u E0; have E := Lib.hid E0; clear E0)
    | ((with_reducible refine kn_loadi_if (g := g3) (i := 0) E.out rfl rfl rfl ?hl ?_); (case hl => have := hl1.out; omega); rw [e0.out])
    | ((with_reducible refine kn_loadi_if (g := g3) (i := 1) E.out rfl rfl rfl ?hl ?_); (case hl => have := hl1.out; omega); rw [e1.out])
    | ((with_reducible refine kn_loadi_if (g := g3) (i := 4) E.out rfl rfl rfl ?hl ?_); (case hl => have := hl1.out; omega); rw [e4.out])
    | ((with_reducible refine kn_loadi_if (g := g3) (i := 5) E.out rfl rfl rfl ?hl ?_); (case hl => have := hl1.out; omega); rw [e5.out])
    | ((with_reducible refine kn_loadi_if (g := g5) (i := 0) E.out rfl rfl rfl ?hl ?_); (case hl => have := hl2.out; omega); rw [m0.out])
    | ((with_reducible refine kn_loadi_if (g := g5) (i := 1) E.out rfl rfl rfl ?hl ?_); (case hl => have := hl2.out; omega); rw [m1.out])
    | ((with_reducible refine kn_load E.out rfl rfl rfl rfl ?_)) | ((with_reducible refine kn_load_if E.out rfl rfl rfl rfl ?_)) | ((with_reducible refine kn_loads E.out rfl rfl rfl ?_ ?_); (focus (first | rfl | (simp only [i64s_length, u8s_length]; first | rfl | assumption | omega)))) | ((with_reducible refine kn_loads_if E.out rfl rfl rfl ?_ ?_); (focus (first | rfl | (simp only [i64s_length, u8s_length]; first | rfl | assumption | omega)))) | ((with_reducible refine kn_store1_int E.out rfl rfl rfl rfl rfl ?_); clear E; intro u E0; have E := Lib.hid E0; clear E0) | ((with_reducible refine kn_store1_slice E.out rfl rfl rfl rfl rfl ?_); clear E; intro u E0; have E := Lib.hid E0; clear E0) | ((with_reducible refine kn_store1_bool E.out rfl rfl rfl rfl rfl ?_); clear E; intro u E0; have E := Lib.hid E0; clear E0) | ((with_reducible refine kn_stores E.out rfl rfl rfl rfl rfl ?_ ?_ ?_); (focus (first | exact ⟨rfl, rfl⟩ | (simp only [i64s_length, u8s_length]; refine ⟨?_, ?_⟩ <;> first | rfl | assumption | omega))); (focus (first | exact i64s_one _ | exact u8s_one _ | simp [Value.oneCell'])); clear E; intro u E0; have E := Lib.hid E0; clear E0) | ((with_reducible refine kn_alloc (o := ⟨some 3, _, _, _, _, _⟩) E.out rfl rfl ?_); clear E; intro g3 u E0 hb0; have E := Lib.hid E0; clear E0 hb0) | ((with_reducible refine kn_box (o := ⟨some 3, _, _, _, _, _⟩) E.out rfl rfl rfl ?_); clear E; intro g3 u E0 hb0; have E := Lib.hid E0; clear E0 hb0) | ((with_reducible refine kn_box_int (o := ⟨some 3, _, _, _, _, _⟩) E.out rfl rfl rfl ?_); clear E; intro g3 u E0 hb0; have E := Lib.hid E0; clear E0 hb0) | ((with_reducible refine kn_box_slice (o := ⟨some 3, _, _, _, _, _⟩) E.out rfl rfl rfl ?_); clear E; intro g3 u E0 hb0; have E := Lib.hid E0; clear E0 hb0) | ((with_reducible refine kn_box_bool (o := ⟨some 3, _, _, _, _, _⟩) E.out rfl rfl rfl ?_); clear E; intro g3 u E0 hb0; have E := Lib.hid E0; clear E0 hb0) | ((with_reducible refine kn_box_func (o := ⟨some 3, _, _, _, _, _⟩) E.out rfl rfl rfl ?_); clear E; intro g3 u E0 hb0; have E := Lib.hid E0; clear E0 hb0) | ((with_reducible refine kn_alloc (o := ⟨some 5, _, _, _, _, _⟩) E.out rfl rfl ?_); clear E; intro g5 u E0 hb0; have E := Lib.hid E0; clear E0 hb0) | ((with_reducible refine kn_box (o := ⟨some 5, _, _, _, _, _⟩) E.out rfl rfl rfl ?_); clear E; intro g5 u E0 hb0; have E := Lib.hid E0; clear E0 hb0) | ((with_reducible refine kn_box_int (o := ⟨some 5, _, _, _, _, _⟩) E.out rfl rfl rfl ?_); clear E; intro g5 u E0 hb0; have E := Lib.hid E0; clear E0 hb0) | ((with_reducible refine kn_box_slice (o := ⟨some 5, _, _, _, _, _⟩) E.out rfl rfl rfl ?_); clear E; intro g5 u E0 hb0; have E := Lib.hid E0; clear E0 hb0) | ((with_reducible refine kn_box_bool (o := ⟨some 5, _, _, _, _, _⟩) E.out rfl rfl rfl ?_); clear E; intro g5 u E0 hb0; have E := Lib.hid E0; clear E0 hb0) | ((with_reducible refine kn_box_func (o := ⟨some 5, _, _, _, _, _⟩) E.out rfl rfl rfl ?_); clear E; intro g5 u E0 hb0; have E := Lib.hid E0; clear E0 hb0) | ((with_reducible refine kn_alloc E.out rfl rfl ?_); clear E; intro g u E0 hb0; have E := Lib.hid E0; clear E0 hb0) | ((with_reducible refine kn_box E.out rfl rfl rfl ?_); clear E; intro g u E0 hb0; have E := Lib.hid E0; clear E0 hb0) | ((with_reducible refine kn_box_int E.out rfl rfl rfl ?_); clear E; intro g u E0 hb0; have E := Lib.hid E0; clear E0 hb0) | ((with_reducible refine kn_box_slice E.out rfl rfl rfl ?_); clear E; intro g u E0 hb0; have E := Lib.hid E0; clear E0 hb0) | ((with_reducible refine kn_box_bool E.out rfl rfl rfl ?_); clear E; intro g u E0 hb0; have E := Lib.hid E0; clear E0 hb0) | ((with_reducible refine kn_box_func E.out rfl rfl rfl ?_); clear E; intro g u E0 hb0; have E := Lib.hid E0; clear E0 hb0))
  go_ret
  exact ⟨rfl, E.out.bel⟩
end Go.Proofs.YtpdpjljfloanfaaDoor
