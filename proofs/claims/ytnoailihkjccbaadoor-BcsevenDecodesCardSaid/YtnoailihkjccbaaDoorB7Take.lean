/- The reader of a block's fields; anchors; the weights of a block's indices. -/
import Derived.Test.YtnoailihkjccbaaDoorB7Bet
import Derived.Test.YtnoailihkjccbaaDoorG4
set_option linter.all false
namespace Go.Proofs.YtnoailihkjccbaaDoor
open Go.RowKit
open Bi Lv Bt B7

/-- The tables, where they lay when the call began. -/
theorem Kn.arg_tabs {w u : World} {R : List Res} {F : List (World → Prop)} (E : Kn w R F u) (h : Tabs w) : Kn w R (Tabs :: F) u :=
  E.fact fun u' hk => ⟨(E.arg_cells h.1).facts _ List.mem_cons_self u' hk, (E.arg_cells h.2.1).facts _ List.mem_cons_self u' hk, (E.arg_cells h.2.2).facts _ List.mem_cons_self u' hk⟩

/-! The reader. -/
theorem reader_any {w u : World} {R : List Res} {F : List (World → Prop)} (E0 : Kn w R F u) (A : Option Addr) (c : Nat) (p : Int) :
    Calls Tryd.prog 24 #[.slice A 16 c, .int .i64 p] u fun e u1 => ∃ gb ga, e = .returned (.func (.func 48) #[] #[.pointer (some ⟨gb, 0, none⟩), .pointer (some ⟨ga, 0, none⟩)]) ∧ Kn w (.row ga 3 [.int .i64 p] :: R) (rowF gb 22 [.slice A 16 c] :: F) u1 := by
  have E := Lib.hid E0
  clear E0
  go_enter Tryd.func24, Tryd.ntmps24
  go_wp2_with (first | ((with_reducible refine kn_load E.out rfl rfl rfl rfl ?_)) | ((with_reducible refine kn_load_if E.out rfl rfl rfl rfl ?_)) | ((with_reducible refine kn_loads E.out rfl rfl rfl ?_ ?_); (focus (first | rfl | (simp only [i64s_length, u8s_length]; first | rfl | assumption | omega)))) | ((with_reducible refine kn_loads_if E.out rfl rfl rfl ?_ ?_); (focus (first | rfl | (simp only [i64s_length, u8s_length]; first | rfl | assumption | omega)))) | ((with_reducible refine kn_store1_int E.out rfl rfl rfl rfl rfl ?_); clear E; intro u E0; have E := Lib.hid E0; clear E0) | ((with_reducible refine kn_store1_slice E.out rfl rfl rfl rfl rfl ?_); clear E; intro u E0; have E := Lib.hid E0; clear E0) | ((with_reducible refine kn_store1_bool E.out rfl rfl rfl rfl rfl ?_); clear E; intro u E0; have E := Lib.hid E0; clear E0) | ((with_reducible refine kn_stores E.out rfl rfl rfl rfl rfl ?_ ?_ ?_); (focus (first | exact ⟨rfl, rfl⟩ | (simp only [i64s_length, u8s_length]; refine ⟨?_, ?_⟩ <;> first | rfl | assumption | omega))); (focus (first | exact i64s_one _ | exact u8s_one _ | simp [Value.oneCell'])); clear E; intro u E0; have E := Lib.hid E0; clear E0) | ((with_reducible refine kn_alloc (o := ⟨some 2, _, _, _, _, _⟩) E.out rfl rfl ?_); clear E; intro g2 u E0 hb0; have E := Lib.hid E0; clear E0 hb0) | ((with_reducible refine kn_box (o := ⟨some 2, _, _, _, _, _⟩) E.out rfl rfl rfl ?_); clear E; intro g2 u E0 hb0; have E := Lib.hid E0; clear E0 hb0) | ((with_reducible refine kn_box_int (o := ⟨some 2, _, _, _, _, _⟩) E.out rfl rfl rfl ?_); clear E; intro g2 u E0 hb0; have E := Lib.hid E0; clear E0 hb0) | ((with_reducible refine kn_box_slice (o := ⟨some 2, _, _, _, _, _⟩) E.out rfl rfl rfl ?_); clear E; intro g2 u E0 hb0; have E := Lib.hid E0; clear E0 hb0) | ((with_reducible refine kn_box_bool (o := ⟨some 2, _, _, _, _, _⟩) E.out rfl rfl rfl ?_); clear E; intro g2 u E0 hb0; have E := Lib.hid E0; clear E0 hb0) | ((with_reducible refine kn_box_func (o := ⟨some 2, _, _, _, _, _⟩) E.out rfl rfl rfl ?_); clear E; intro g2 u E0 hb0; have E := Lib.hid E0; clear E0 hb0) | ((with_reducible refine kn_alloc (o := ⟨some 3, _, _, _, _, _⟩) E.out rfl rfl ?_); clear E; intro g3 u E0 hb0; have E := Lib.hid E0; clear E0 hb0) | ((with_reducible refine kn_box (o := ⟨some 3, _, _, _, _, _⟩) E.out rfl rfl rfl ?_); clear E; intro g3 u E0 hb0; have E := Lib.hid E0; clear E0 hb0) | ((with_reducible refine kn_box_int (o := ⟨some 3, _, _, _, _, _⟩) E.out rfl rfl rfl ?_); clear E; intro g3 u E0 hb0; have E := Lib.hid E0; clear E0 hb0) | ((with_reducible refine kn_box_slice (o := ⟨some 3, _, _, _, _, _⟩) E.out rfl rfl rfl ?_); clear E; intro g3 u E0 hb0; have E := Lib.hid E0; clear E0 hb0) | ((with_reducible refine kn_box_bool (o := ⟨some 3, _, _, _, _, _⟩) E.out rfl rfl rfl ?_); clear E; intro g3 u E0 hb0; have E := Lib.hid E0; clear E0 hb0) | ((with_reducible refine kn_box_func (o := ⟨some 3, _, _, _, _, _⟩) E.out rfl rfl rfl ?_); clear E; intro g3 u E0 hb0; have E := Lib.hid E0; clear E0 hb0) | ((with_reducible refine kn_alloc E.out rfl rfl ?_); clear E; intro g u E0 hb0; have E := Lib.hid E0; clear E0 hb0) | ((with_reducible refine kn_box E.out rfl rfl rfl ?_); clear E; intro g u E0 hb0; have E := Lib.hid E0; clear E0 hb0) | ((with_reducible refine kn_box_int E.out rfl rfl rfl ?_); clear E; intro g u E0 hb0; have E := Lib.hid E0; clear E0 hb0) | ((with_reducible refine kn_box_slice E.out rfl rfl rfl ?_); clear E; intro g u E0 hb0; have E := Lib.hid E0; clear E0 hb0) | ((with_reducible refine kn_box_bool E.out rfl rfl rfl ?_); clear E; intro g u E0 hb0; have E := Lib.hid E0; clear E0 hb0) | ((with_reducible refine kn_box_func E.out rfl rfl rfl ?_); clear E; intro g u E0 hb0; have E := Lib.hid E0; clear E0 hb0))
  go_ret
  exact ⟨g2, g3, rfl, E.out.rest g2⟩
set_option maxHeartbeats 1000000 in
theorem take_any {w u : World} {R R' : List Res} {F : List (World → Prop)} (E0 : Kn w R F u) (gb ga : Nat) (A : Option Addr) (c : Nat) (xs : List Nat) (p m : Nat) (M z : Int) (hM : M = (m : Int)) (hz : z = (p : Int) + (m : Int))
    [HR : HasRow R ga 3 [.int .i64 (p : Int)]] [T : Turn R (.row ga 3 [.int .i64 (p : Int)]) (.row ga 3 [.int .i64 z]) R'] (hb : rowF gb 22 [.slice A 16 c] ∈ F) (hx : bsF A 16 xs ∈ F) (hm : m ≤ 16) (hp : p + m ≤ 128) :
    Calls Tryd.prog 48 #[.int .i64 M, .pointer (some ⟨gb, 0, none⟩), .pointer (some ⟨ga, 0, none⟩)] u fun e u1 => e = .returned (.int .i64 ((getN xs false p m : Nat) : Int)) ∧ Kn w R' F u1 := by
  subst hM hz
  have E := Lib.hid E0
  have HF : HasRowF F gb 22 [.slice A 16 c] := ⟨hb⟩
  have hL := Lib.hid (fun (u : World) (hu : Bs u u.heap.size A 16 xs) => low_ok A 16 c p m xs u hu (by omega) (by omega) (by omega))
  have hl : getN xs false p m < 65536 := getN_lt xs false p m 16 hm
  clear E0
  generalize getN xs false p m = N at *
  go_enter Tryd.func48, Tryd.ntmps48
  go_wp2_with (first
    | (go_at_call 49; refine (hL.out _ (E.out.bs hx)).mono ?_; clear hL; rintro e w1 ⟨rfl, hb⟩; have E1 := Lib.hid (E.out.later hb); clear hb E; have E := E1; clear E1)
    | ((with_reducible refine kn_store1_int (T := T) E.out rfl rfl rfl rfl rfl ?_); clear E; intro u E0; have E := Lib.hid E0; clear E0)
    | ((with_reducible refine kn_load E.out rfl rfl rfl rfl ?_)) | ((with_reducible refine kn_load_if E.out rfl rfl rfl rfl ?_)) | ((with_reducible refine kn_loads E.out rfl rfl rfl ?_ ?_); (focus (first | rfl | (simp only [i64s_length, u8s_length]; first | rfl | assumption | omega)))) | ((with_reducible refine kn_loads_if E.out rfl rfl rfl ?_ ?_); (focus (first | rfl | (simp only [i64s_length, u8s_length]; first | rfl | assumption | omega)))) | ((with_reducible refine kn_store1_int E.out rfl rfl rfl rfl rfl ?_); clear E; intro u E0; have E := Lib.hid E0; clear E0) | ((with_reducible refine kn_store1_slice E.out rfl rfl rfl rfl rfl ?_); clear E; intro u E0; have E := Lib.hid E0; clear E0) | ((with_reducible refine kn_store1_bool E.out rfl rfl rfl rfl rfl ?_); clear E; intro u E0; have E := Lib.hid E0; clear E0) | ((with_reducible refine kn_stores E.out rfl rfl rfl rfl rfl ?_ ?_ ?_); (focus (first | exact ⟨rfl, rfl⟩ | (simp only [i64s_length, u8s_length]; refine ⟨?_, ?_⟩ <;> first | rfl | assumption | omega))); (focus (first | exact i64s_one _ | exact u8s_one _ | simp [Value.oneCell'])); clear E; intro u E0; have E := Lib.hid E0; clear E0) | ((with_reducible refine kn_alloc E.out rfl rfl ?_); clear E; intro g u E0 hb0; have E := Lib.hid E0; clear E0 hb0) | ((with_reducible refine kn_box E.out rfl rfl rfl ?_); clear E; intro g u E0 hb0; have E := Lib.hid E0; clear E0 hb0) | ((with_reducible refine kn_box_int E.out rfl rfl rfl ?_); clear E; intro g u E0 hb0; have E := Lib.hid E0; clear E0 hb0) | ((with_reducible refine kn_box_slice E.out rfl rfl rfl ?_); clear E; intro g u E0 hb0; have E := Lib.hid E0; clear E0 hb0) | ((with_reducible refine kn_box_bool E.out rfl rfl rfl ?_); clear E; intro g u E0 hb0; have E := Lib.hid E0; clear E0 hb0) | ((with_reducible refine kn_box_func E.out rfl rfl rfl ?_); clear E; intro g u E0 hb0; have E := Lib.hid E0; clear E0 hb0))
  go_ret
  exact ⟨rfl, E.out⟩

/-! Anchors. -/
set_option maxHeartbeats 1000000 in
theorem isAnchor_any (P way i : Nat) (w : World) (hT : Tabs w) (hi : i < 16) : Calls Tryd.prog 44 #[.int .i64 (P : Int), .int .i64 (way : Int), .int .i64 (i : Int)] w fun e w' => e = .returned (.bool (isA P way i)) ∧ Below w.heap.size w w' := by
  have E := Lib.hid ((Kn.start w).arg_tabs hT)
  have hP := Lib.hid (fun u (hu : Tabs u) => part_any P way i u hu.1 hu.2.1)
  have hA := Lib.hid (fun x u (hu : Tabs u) => anchor_any P way x u hu.2.2)
  unfold isA
  generalize partV P way i = pt at *
  replace hA := Lib.hid (hA.out pt)
  generalize anchorV P way pt = an at *
  go_enter Tryd.func44, Tryd.ntmps44
  go_wp2_with (first
    | (go_at_call 46; refine (hP.out _ (E.out.get (by simp))).mono ?_; clear hP; rintro e w1 ⟨rfl, hb⟩; have E1 := Lib.hid (E.out.later hb); clear hb E; have E := E1; clear E1)
    | (go_at_call 69; refine (hA.out _ (E.out.get (by simp))).mono ?_; clear hA; rintro e w1 ⟨rfl, hb⟩; have E1 := Lib.hid (E.out.later hb); clear hb E; have E := E1; clear E1)
    | ((with_reducible refine kn_load E.out rfl rfl rfl rfl ?_)) | ((with_reducible refine kn_load_if E.out rfl rfl rfl rfl ?_)) | ((with_reducible refine kn_loads E.out rfl rfl rfl ?_ ?_); (focus (first | rfl | (simp only [i64s_length, u8s_length]; first | rfl | assumption | omega)))) | ((with_reducible refine kn_loads_if E.out rfl rfl rfl ?_ ?_); (focus (first | rfl | (simp only [i64s_length, u8s_length]; first | rfl | assumption | omega)))) | ((with_reducible refine kn_store1_int E.out rfl rfl rfl rfl rfl ?_); clear E; intro u E0; have E := Lib.hid E0; clear E0) | ((with_reducible refine kn_store1_slice E.out rfl rfl rfl rfl rfl ?_); clear E; intro u E0; have E := Lib.hid E0; clear E0) | ((with_reducible refine kn_store1_bool E.out rfl rfl rfl rfl rfl ?_); clear E; intro u E0; have E := Lib.hid E0; clear E0) | ((with_reducible refine kn_stores E.out rfl rfl rfl rfl rfl ?_ ?_ ?_); (focus (first | exact ⟨rfl, rfl⟩ | (simp only [i64s_length, u8s_length]; refine ⟨?_, ?_⟩ <;> first | rfl | assumption | omega))); (focus (first | exact i64s_one _ | exact u8s_one _ | simp [Value.oneCell'])); clear E; intro u E0; have E := Lib.hid E0; clear E0) | ((with_reducible refine kn_alloc E.out rfl rfl ?_); clear E; intro g u E0 hb0; have E := Lib.hid E0; clear E0 hb0) | ((with_reducible refine kn_box E.out rfl rfl rfl ?_); clear E; intro g u E0 hb0; have E := Lib.hid E0; clear E0 hb0) | ((with_reducible refine kn_box_int E.out rfl rfl rfl ?_); clear E; intro g u E0 hb0; have E := Lib.hid E0; clear E0 hb0) | ((with_reducible refine kn_box_slice E.out rfl rfl rfl ?_); clear E; intro g u E0 hb0; have E := Lib.hid E0; clear E0 hb0) | ((with_reducible refine kn_box_bool E.out rfl rfl rfl ?_); clear E; intro g u E0 hb0; have E := Lib.hid E0; clear E0 hb0) | ((with_reducible refine kn_box_func E.out rfl rfl rfl ?_); clear E; intro g u E0 hb0; have E := Lib.hid E0; clear E0 hb0))
  go_ret
  exact ⟨ret_bool (by rw [Bool.eq_iff_iff]; simp), E.out.bel⟩
set_option maxHeartbeats 1000000 in
theorem less_1 {w u : World} {R : List Res} {F : List (World → Prop)} (E0 : Kn w R F u) (gm gw : Nat) (m : Md) (way i : Nat) (hm : rowF gm 49 [.int .i64 (m.P : Int), .int .i64 (m.W : Int), .int .i64 (m.T : Int), .int .i64 (m.C : Int), .int .i64 (m.L : Int), .int .i64 (m.A : Int), .int .i64 (m.E : Int), .int .i64 (m.O : Int), .int .i64 (m.F : Int), .int .i64 (m.S : Int)] ∈ F) (hw : rowF gw 3 [.int .i64 (way : Int)] ∈ F) (hT : Tabs ∈ F) (hi : i < 16) :
    Calls Tryd.prog 43 #[.int .i64 (i : Int), .pointer (some ⟨gm, 0, none⟩), .pointer (some ⟨gw, 0, none⟩)] u fun e u1 => e = .returned (.bool (isA m.P way i)) ∧ Kn w R F u1 := by
  have E := Lib.hid E0
  have HM : HasRowF F gm 49 [.int .i64 (m.P : Int), .int .i64 (m.W : Int), .int .i64 (m.T : Int), .int .i64 (m.C : Int), .int .i64 (m.L : Int), .int .i64 (m.A : Int), .int .i64 (m.E : Int), .int .i64 (m.O : Int), .int .i64 (m.F : Int), .int .i64 (m.S : Int)] := ⟨hm⟩
  have HW : HasRowF F gw 3 [.int .i64 (way : Int)] := ⟨hw⟩
  have hA := Lib.hid (fun u (hu : Tabs u) => isAnchor_any m.P way i u hu hi)
  clear E0
  go_enter Tryd.func43, Tryd.ntmps43
  go_wp2_with (first
    | (go_at_call 44; refine (hA.out _ (E.out.get hT)).mono ?_; clear hA; rintro e w1 ⟨rfl, hb⟩; have E1 := Lib.hid (E.out.later hb); clear hb E; have E := E1; clear E1)
    | ((with_reducible refine kn_load (g := gm) (i := 0) E.out rfl rfl rfl rfl ?_))
    | ((with_reducible refine kn_load (g := gw) (i := 0) E.out rfl rfl rfl rfl ?_))
    | ((with_reducible refine kn_load E.out rfl rfl rfl rfl ?_)) | ((with_reducible refine kn_load_if E.out rfl rfl rfl rfl ?_)) | ((with_reducible refine kn_loads E.out rfl rfl rfl ?_ ?_); (focus (first | rfl | (simp only [i64s_length, u8s_length]; first | rfl | assumption | omega)))) | ((with_reducible refine kn_loads_if E.out rfl rfl rfl ?_ ?_); (focus (first | rfl | (simp only [i64s_length, u8s_length]; first | rfl | assumption | omega)))) | ((with_reducible refine kn_store1_int E.out rfl rfl rfl rfl rfl ?_); clear E; intro u E0; have E := Lib.hid E0; clear E0) | ((with_reducible refine kn_store1_slice E.out rfl rfl rfl rfl rfl ?_); clear E; intro u E0; have E := Lib.hid E0; clear E0) | ((with_reducible refine kn_store1_bool E.out rfl rfl rfl rfl rfl ?_); clear E; intro u E0; have E := Lib.hid E0; clear E0) | ((with_reducible refine kn_stores E.out rfl rfl rfl rfl rfl ?_ ?_ ?_); (focus (first | exact ⟨rfl, rfl⟩ | (simp only [i64s_length, u8s_length]; refine ⟨?_, ?_⟩ <;> first | rfl | assumption | omega))); (focus (first | exact i64s_one _ | exact u8s_one _ | simp [Value.oneCell'])); clear E; intro u E0; have E := Lib.hid E0; clear E0) | ((with_reducible refine kn_alloc E.out rfl rfl ?_); clear E; intro g u E0 hb0; have E := Lib.hid E0; clear E0 hb0) | ((with_reducible refine kn_box E.out rfl rfl rfl ?_); clear E; intro g u E0 hb0; have E := Lib.hid E0; clear E0 hb0) | ((with_reducible refine kn_box_int E.out rfl rfl rfl ?_); clear E; intro g u E0 hb0; have E := Lib.hid E0; clear E0 hb0) | ((with_reducible refine kn_box_slice E.out rfl rfl rfl ?_); clear E; intro g u E0 hb0; have E := Lib.hid E0; clear E0 hb0) | ((with_reducible refine kn_box_bool E.out rfl rfl rfl ?_); clear E; intro g u E0 hb0; have E := Lib.hid E0; clear E0 hb0) | ((with_reducible refine kn_box_func E.out rfl rfl rfl ?_); clear E; intro g u E0 hb0; have E := Lib.hid E0; clear E0 hb0))
  go_ret
  exact ⟨rfl, E.out⟩
theorem less_2 {w u : World} {R : List Res} {F : List (World → Prop)} (E0 : Kn w R F u) (i : Nat) :
    Calls Tryd.prog 45 #[.int .i64 (i : Int)] u fun e u1 => e = .returned (.bool (is0 i)) ∧ Kn w R F u1 := by
  have E := Lib.hid E0
  clear E0
  go_enter Tryd.func45, Tryd.ntmps45
  go_wp2
  go_ret
  exact ⟨ret_bool (by rw [Bool.eq_iff_iff]; simp [is0]), E.out⟩
theorem wt_any (F : Nat) (h2 : 2 ≤ F) (h4 : F ≤ 4) (w : World) : Calls Tryd.prog 37 #[.int .i64 (F : Int)] w (LitC w 3 (2 ^ F) (i64s (wl F))) := by
  obtain rfl | rfl | rfl : F = 2 ∨ F = 3 ∨ F = 4 := by omega
  · exact wt2 w
  · exact wt3 w
  · exact wt4 w
theorem rwt_any (F : Nat) (h2 : 2 ≤ F) (h4 : F ≤ 4) (w : World) : Calls Tryd.prog 56 #[.int .i64 (F : Int)] w (LitC w 3 (2 ^ F) (i64s (wl F))) := by
  obtain rfl | rfl | rfl : F = 2 ∨ F = 3 ∨ F = 4 := by omega
  · exact rwt2 w
  · exact rwt3 w
  · exact rwt4 w

set_option maxHeartbeats 4000000 in
set_option maxRecDepth 100000 in
theorem takeWeights_1 {w u : World} {R : List Res} {F : List (World → Prop)} (gb ga : Nat) (A : Option Addr) (c : Nat) (xs : List Nat) (p W : Nat) (gm gw : Nat) (m : Md) (way : Nat) (hmF : rowF gm 49 [.int .i64 (m.P : Int), .int .i64 (m.W : Int), .int .i64 (m.T : Int), .int .i64 (m.C : Int), .int .i64 (m.L : Int), .int .i64 (m.A : Int), .int .i64 (m.E : Int), .int .i64 (m.O : Int), .int .i64 (m.F : Int), .int .i64 (m.S : Int)] ∈ F) (hwF : rowF gw 3 [.int .i64 (way : Int)] ∈ F) (hT : Tabs ∈ F) (E0 : Kn w (.row ga 3 [.int .i64 (p : Int)] :: R) F u) (hb : rowF gb 22 [.slice A 16 c] ∈ F) (hx : bsF A 16 xs ∈ F) (h2 : 2 ≤ W) (h4 : W ≤ 4) (hq : ipos p W (isA m.P way) 16 ≤ 128) :
    Calls Tryd.prog 42 #[.int .i64 (W : Int), .func (.func 48) #[] #[.pointer (some ⟨gb, 0, none⟩), .pointer (some ⟨ga, 0, none⟩)], .func (.func 43) #[] #[.pointer (some ⟨gm, 0, none⟩), .pointer (some ⟨gw, 0, none⟩)]] u
      fun e u1 => e = .returned (arr (wtV xs p W (isA m.P way))) ∧ Kn w (.row ga 3 [.int .i64 ((ipos p W (isA m.P way) 16 : Nat) : Int)] :: R) F u1 := by
  have E := Lib.hid E0
  have hWt := Lib.hid (fun u => wt_any W h2 h4 u)
  have hwl := wl_length W h2 h4
  have HP := Lib.hid (fun k (hk : k < 16) => show ipos p W (isA m.P way) k + (W - b1 ((isA m.P way) k)) ≤ 128 ∧ ipos p W (isA m.P way) (k + 1) = ipos p W (isA m.P way) k + (W - b1 ((isA m.P way) k)) from
    ⟨Nat.le_trans (ipos_mono p W (isA m.P way) (k + 1) 16 hk) hq, rfl⟩)
  have HV := Lib.hid (fun k => show getN xs false (ipos p W (isA m.P way) k) (W - b1 ((isA m.P way) k)) < 2 ^ W from
    Nat.lt_of_lt_of_le (getN_lt xs false _ _ _ (Nat.le_refl _)) (Nat.pow_le_pow_right (by omega) (Nat.sub_le _ _)))
  have HS := Lib.hid (wtP_set xs p W (isA m.P way))
  have HL := Lib.hid (wtP_length xs p W (isA m.P way))
  have H0 := Lib.hid (wtP_zero xs p W (isA m.P way))
  have HI0 := Lib.hid (show ipos p W (isA m.P way) 0 = p from rfl)
  rw [← wtP_full xs p W (isA m.P way)]
  have h256 : 2 ^ W ≤ 2 ^ 4 := Nat.pow_le_pow_right (by omega) h4
  clear hq E0
  generalize wtP xs p W (isA m.P way) = wp at *
  generalize wl W = ws at *
  obtain ⟨ip, hip⟩ : ∃ ip : Nat → Nat, ip = ipos p W (isA m.P way) := ⟨_, rfl⟩
  rw [← hip] at HP HV HS HI0 ⊢
  obtain ⟨lf, hlf⟩ : ∃ lf : Nat → Bool, lf = (isA m.P way) := ⟨_, rfl⟩
  rw [← hlf] at HP HV HS
  have HLF := Lib.hid hlf
  clear hip hlf
  obtain ⟨n, hn⟩ : ∃ n : Nat, n = 2 ^ W := ⟨_, rfl⟩
  rw [← hn] at hWt HV hwl h256
  clear hn
  go_enter Tryd.func42, Tryd.ntmps42
  go_wp2_with (first
    | (go_at_call 37; refine (hWt.out _).mono ?_; clear hWt; rintro e w2 ⟨g1, rfl, hg1, hr1, hb0⟩; have E1 := Lib.hid (E.out.newrow hb0 hg1 hr1); clear E hb0 hg1 hr1; have E := E1; clear E1)
    | ((with_reducible refine kn_load E.out rfl rfl rfl rfl ?_)) | ((with_reducible refine kn_load_if E.out rfl rfl rfl rfl ?_)) | ((with_reducible refine kn_loads E.out rfl rfl rfl ?_ ?_); (focus (first | rfl | (simp only [i64s_length, u8s_length]; first | rfl | assumption | omega)))) | ((with_reducible refine kn_loads_if E.out rfl rfl rfl ?_ ?_); (focus (first | rfl | (simp only [i64s_length, u8s_length]; first | rfl | assumption | omega)))) | ((with_reducible refine kn_store1_int E.out rfl rfl rfl rfl rfl ?_); clear E; intro u E0; have E := Lib.hid E0; clear E0) | ((with_reducible refine kn_store1_slice E.out rfl rfl rfl rfl rfl ?_); clear E; intro u E0; have E := Lib.hid E0; clear E0) | ((with_reducible refine kn_store1_bool E.out rfl rfl rfl rfl rfl ?_); clear E; intro u E0; have E := Lib.hid E0; clear E0) | ((with_reducible refine kn_stores E.out rfl rfl rfl rfl rfl ?_ ?_ ?_); (focus (first | exact ⟨rfl, rfl⟩ | (simp only [i64s_length, u8s_length]; refine ⟨?_, ?_⟩ <;> first | rfl | assumption | omega))); (focus (first | exact i64s_one _ | exact u8s_one _ | simp [Value.oneCell'])); clear E; intro u E0; have E := Lib.hid E0; clear E0) | ((with_reducible refine kn_alloc (o := ⟨some 6, _, _, _, _, _⟩) E.out rfl rfl ?_); clear E; intro g6 u E0 hb0; have E := Lib.hid E0; clear E0 hb0) | ((with_reducible refine kn_box (o := ⟨some 6, _, _, _, _, _⟩) E.out rfl rfl rfl ?_); clear E; intro g6 u E0 hb0; have E := Lib.hid E0; clear E0 hb0) | ((with_reducible refine kn_box_int (o := ⟨some 6, _, _, _, _, _⟩) E.out rfl rfl rfl ?_); clear E; intro g6 u E0 hb0; have E := Lib.hid E0; clear E0 hb0) | ((with_reducible refine kn_box_slice (o := ⟨some 6, _, _, _, _, _⟩) E.out rfl rfl rfl ?_); clear E; intro g6 u E0 hb0; have E := Lib.hid E0; clear E0 hb0) | ((with_reducible refine kn_box_bool (o := ⟨some 6, _, _, _, _, _⟩) E.out rfl rfl rfl ?_); clear E; intro g6 u E0 hb0; have E := Lib.hid E0; clear E0 hb0) | ((with_reducible refine kn_box_func (o := ⟨some 6, _, _, _, _, _⟩) E.out rfl rfl rfl ?_); clear E; intro g6 u E0 hb0; have E := Lib.hid E0; clear E0 hb0) | ((with_reducible refine kn_alloc (o := ⟨some 8, _, _, _, _, _⟩) E.out rfl rfl ?_); clear E; intro g8 u E0 hb0; have E := Lib.hid E0; clear E0 hb0) | ((with_reducible refine kn_box (o := ⟨some 8, _, _, _, _, _⟩) E.out rfl rfl rfl ?_); clear E; intro g8 u E0 hb0; have E := Lib.hid E0; clear E0 hb0) | ((with_reducible refine kn_box_int (o := ⟨some 8, _, _, _, _, _⟩) E.out rfl rfl rfl ?_); clear E; intro g8 u E0 hb0; have E := Lib.hid E0; clear E0 hb0) | ((with_reducible refine kn_box_slice (o := ⟨some 8, _, _, _, _, _⟩) E.out rfl rfl rfl ?_); clear E; intro g8 u E0 hb0; have E := Lib.hid E0; clear E0 hb0) | ((with_reducible refine kn_box_bool (o := ⟨some 8, _, _, _, _, _⟩) E.out rfl rfl rfl ?_); clear E; intro g8 u E0 hb0; have E := Lib.hid E0; clear E0 hb0) | ((with_reducible refine kn_box_func (o := ⟨some 8, _, _, _, _, _⟩) E.out rfl rfl rfl ?_); clear E; intro g8 u E0 hb0; have E := Lib.hid E0; clear E0 hb0) | ((with_reducible refine kn_alloc E.out rfl rfl ?_); clear E; intro g u E0 hb0; have E := Lib.hid E0; clear E0 hb0) | ((with_reducible refine kn_box E.out rfl rfl rfl ?_); clear E; intro g u E0 hb0; have E := Lib.hid E0; clear E0 hb0) | ((with_reducible refine kn_box_int E.out rfl rfl rfl ?_); clear E; intro g u E0 hb0; have E := Lib.hid E0; clear E0 hb0) | ((with_reducible refine kn_box_slice E.out rfl rfl rfl ?_); clear E; intro g u E0 hb0; have E := Lib.hid E0; clear E0 hb0) | ((with_reducible refine kn_box_bool E.out rfl rfl rfl ?_); clear E; intro g u E0 hb0; have E := Lib.hid E0; clear E0 hb0) | ((with_reducible refine kn_box_func E.out rfl rfl rfl ?_); clear E; intro g u E0 hb0; have E := Lib.hid E0; clear E0 hb0))
  go_loopw [12] (fun i wr => ∃ k : Nat, k ≤ 16 ∧ i = .int .i64 k ∧ Hid (Kn w (.row g8 35 (i64s (wp k)) :: .row g1 3 (i64s ws) :: .row g6 35 (i64s Bc.z16) :: .row ga 3 [.int .i64 ((ip k : Nat) : Int)] :: R) F wr)) (fun i _ => 16 - (intOf i).toNat)
  case atStart => exact ⟨0, by omega, rfl, by rw [H0.out, HI0.out]; exact E⟩
  case round =>
    clear E
    obtain ⟨k, hk, rfl, E⟩ := hrel
    have hl := HL.out k
    by_cases hlt : k < 16
    · have hS := Lib.hid (HS.out k)
      obtain ⟨hp1, hp2⟩ := HP.out k hlt
      have hv := HV.out k
      have hlk := Lib.hid (show isA m.P way k = lf k from by rw [HLF.out])
      have hb1 := b1_le (lf k)
      clear HS HP HV HL H0 HI0 HLF
      obtain ⟨V, hV⟩ : ∃ V : Nat, V = getN xs false (ip k) (W - b1 (lf k)) := ⟨_, rfl⟩
      rw [← hV] at hv hS
      have HVV := Lib.hid hV.symm
      obtain ⟨M, hM⟩ : ∃ M : Nat, M = W - b1 (lf k) := ⟨_, rfl⟩
      rw [← hM] at hp1 hp2 HVV
      have hMM := Lib.hid (show (W : Int) - (b1 (lf k) : Int) = (M : Int) from by omega)
      have hM16 : M ≤ 16 := by omega
      have hz := Lib.hid (show ((ip (k + 1) : Nat) : Int) = (ip k : Int) + (M : Int) from by omega)
      have hIB := Lib.hid (fun u => indexBits_any (W : Int) (lf k) u (by omega))
      clear hV hM hp2
      obtain ⟨pk1, hpk⟩ : ∃ z, ip (k + 1) = z := ⟨_, rfl⟩
      rw [hpk] at hz
      replace hpk := Lib.hid hpk
      generalize ip k = pk at *
      generalize lf k = B at *
      obtain ⟨X, hX⟩ : ∃ X, ws.getD V 0 = X := ⟨_, rfl⟩
      rw [hX] at hS
      have HX := Lib.hid hX
      have hvi : (V : Int) < (n : Int) := by omega
      clear hX
      go_wp2_with (first
        | (go_at_call 43; refine (less_1 E.out gm gw m way k hmF hwF hT hlt).mono ?_; rw [hlk.out]; rintro e w1 ⟨rfl, E0⟩; clear E; have E := Lib.hid E0; clear E0)
        | (go_at_call 34; refine (hIB.out _).mono ?_; clear hIB; rw [hMM.out]; rintro e w1 ⟨rfl, rfl⟩)
        | (go_at_call 48; refine (take_any E.out gb ga A c xs pk M (M : Int) (pk1 : Int) rfl hz.out hb hx hM16 hp1).mono ?_; rw [HVV.out]; rintro e w1 ⟨rfl, E0⟩; clear E; have E := Lib.hid E0; clear E0)
        | ((with_reducible refine kn_loadi (g := g1) (i := V) E.out rfl rfl rfl ?hi ?_); (case hi => omega); rw [HX.out])
        | ((with_reducible refine kn_storei (g := g8) E.out rfl rfl rfl rfl rfl ?hi ?_); (case hi => omega); clear E; intro u E0; have E := Lib.hid E0; clear E0)
        | ((with_reducible refine kn_load E.out rfl rfl rfl rfl ?_)) | ((with_reducible refine kn_load_if E.out rfl rfl rfl rfl ?_)) | ((with_reducible refine kn_loads E.out rfl rfl rfl ?_ ?_); (focus (first | rfl | (simp only [i64s_length, u8s_length]; first | rfl | assumption | omega)))) | ((with_reducible refine kn_loads_if E.out rfl rfl rfl ?_ ?_); (focus (first | rfl | (simp only [i64s_length, u8s_length]; first | rfl | assumption | omega)))) | ((with_reducible refine kn_store1_int E.out rfl rfl rfl rfl rfl ?_); clear E; intro u E0; have E := Lib.hid E0; clear E0) | ((with_reducible refine kn_store1_slice E.out rfl rfl rfl rfl rfl ?_); clear E; intro u E0; have E := Lib.hid E0; clear E0) | ((with_reducible refine kn_store1_bool E.out rfl rfl rfl rfl rfl ?_); clear E; intro u E0; have E := Lib.hid E0; clear E0) | ((with_reducible refine kn_stores E.out rfl rfl rfl rfl rfl ?_ ?_ ?_); (focus (first | exact ⟨rfl, rfl⟩ | (simp only [i64s_length, u8s_length]; refine ⟨?_, ?_⟩ <;> first | rfl | assumption | omega))); (focus (first | exact i64s_one _ | exact u8s_one _ | simp [Value.oneCell'])); clear E; intro u E0; have E := Lib.hid E0; clear E0) | ((with_reducible refine kn_alloc E.out rfl rfl ?_); clear E; intro g u E0 hb0; have E := Lib.hid E0; clear E0 hb0) | ((with_reducible refine kn_box E.out rfl rfl rfl ?_); clear E; intro g u E0 hb0; have E := Lib.hid E0; clear E0 hb0) | ((with_reducible refine kn_box_int E.out rfl rfl rfl ?_); clear E; intro g u E0 hb0; have E := Lib.hid E0; clear E0 hb0) | ((with_reducible refine kn_box_slice E.out rfl rfl rfl ?_); clear E; intro g u E0 hb0; have E := Lib.hid E0; clear E0 hb0) | ((with_reducible refine kn_box_bool E.out rfl rfl rfl ?_); clear E; intro g u E0 hb0; have E := Lib.hid E0; clear E0 hb0) | ((with_reducible refine kn_box_func E.out rfl rfl rfl ?_); clear E; intro g u E0 hb0; have E := Lib.hid E0; clear E0 hb0))
      go_roundw
      case rel => exact ⟨k + 1, by omega, by go_num, by rw [← hS.out, hpk.out]; exact E⟩
      case measure => simp [intOf]; omega
    · obtain rfl : k = 16 := by omega
      clear HS HP HV HL H0 HI0 HLF hlt
      go_wp2_with (first | ((with_reducible refine kn_load E.out rfl rfl rfl rfl ?_)) | ((with_reducible refine kn_load_if E.out rfl rfl rfl rfl ?_)) | ((with_reducible refine kn_loads E.out rfl rfl rfl ?_ ?_); (focus (first | rfl | (simp only [i64s_length, u8s_length]; first | rfl | assumption | omega)))) | ((with_reducible refine kn_loads_if E.out rfl rfl rfl ?_ ?_); (focus (first | rfl | (simp only [i64s_length, u8s_length]; first | rfl | assumption | omega)))) | ((with_reducible refine kn_store1_int E.out rfl rfl rfl rfl rfl ?_); clear E; intro u E0; have E := Lib.hid E0; clear E0) | ((with_reducible refine kn_store1_slice E.out rfl rfl rfl rfl rfl ?_); clear E; intro u E0; have E := Lib.hid E0; clear E0) | ((with_reducible refine kn_store1_bool E.out rfl rfl rfl rfl rfl ?_); clear E; intro u E0; have E := Lib.hid E0; clear E0) | ((with_reducible refine kn_stores E.out rfl rfl rfl rfl rfl ?_ ?_ ?_); (focus (first | exact ⟨rfl, rfl⟩ | (simp only [i64s_length, u8s_length]; refine ⟨?_, ?_⟩ <;> first | rfl | assumption | omega))); (focus (first | exact i64s_one _ | exact u8s_one _ | simp [Value.oneCell'])); clear E; intro u E0; have E := Lib.hid E0; clear E0) | ((with_reducible refine kn_alloc E.out rfl rfl ?_); clear E; intro g u E0 hb0; have E := Lib.hid E0; clear E0 hb0) | ((with_reducible refine kn_box E.out rfl rfl rfl ?_); clear E; intro g u E0 hb0; have E := Lib.hid E0; clear E0 hb0) | ((with_reducible refine kn_box_int E.out rfl rfl rfl ?_); clear E; intro g u E0 hb0; have E := Lib.hid E0; clear E0 hb0) | ((with_reducible refine kn_box_slice E.out rfl rfl rfl ?_); clear E; intro g u E0 hb0; have E := Lib.hid E0; clear E0 hb0) | ((with_reducible refine kn_box_bool E.out rfl rfl rfl ?_); clear E; intro g u E0 hb0; have E := Lib.hid E0; clear E0 hb0) | ((with_reducible refine kn_box_func E.out rfl rfl rfl ?_); clear E; intro g u E0 hb0; have E := Lib.hid E0; clear E0 hb0))
      refine bodyPost_ret (results_kn E.out rfl _ rfl (by rw [i64s_length]; exact hl)) rfl ?_
      exact ⟨rfl, E.out.part _ _ (by repeat (first | exact List.Sublist.refl _ | apply List.Sublist.cons_cons | apply List.Sublist.cons)) (fun _ h => h)⟩

set_option maxHeartbeats 4000000 in
set_option maxRecDepth 100000 in
theorem takeWeights_2 {w u : World} {R : List Res} {F : List (World → Prop)} (gb ga : Nat) (A : Option Addr) (c : Nat) (xs : List Nat) (p W : Nat) (E0 : Kn w (.row ga 3 [.int .i64 (p : Int)] :: R) F u) (hb : rowF gb 22 [.slice A 16 c] ∈ F) (hx : bsF A 16 xs ∈ F) (h2 : 2 ≤ W) (h4 : W ≤ 4) (hq : ipos p W is0 16 ≤ 128) :
    Calls Tryd.prog 42 #[.int .i64 (W : Int), .func (.func 48) #[] #[.pointer (some ⟨gb, 0, none⟩), .pointer (some ⟨ga, 0, none⟩)], .func (.func 45) #[] #[]] u
      fun e u1 => e = .returned (arr (wtV xs p W is0)) ∧ Kn w (.row ga 3 [.int .i64 ((ipos p W is0 16 : Nat) : Int)] :: R) F u1 := by
  have E := Lib.hid E0
  have hWt := Lib.hid (fun u => wt_any W h2 h4 u)
  have hwl := wl_length W h2 h4
  have HP := Lib.hid (fun k (hk : k < 16) => show ipos p W is0 k + (W - b1 (is0 k)) ≤ 128 ∧ ipos p W is0 (k + 1) = ipos p W is0 k + (W - b1 (is0 k)) from
    ⟨Nat.le_trans (ipos_mono p W is0 (k + 1) 16 hk) hq, rfl⟩)
  have HV := Lib.hid (fun k => show getN xs false (ipos p W is0 k) (W - b1 (is0 k)) < 2 ^ W from
    Nat.lt_of_lt_of_le (getN_lt xs false _ _ _ (Nat.le_refl _)) (Nat.pow_le_pow_right (by omega) (Nat.sub_le _ _)))
  have HS := Lib.hid (wtP_set xs p W is0)
  have HL := Lib.hid (wtP_length xs p W is0)
  have H0 := Lib.hid (wtP_zero xs p W is0)
  have HI0 := Lib.hid (show ipos p W is0 0 = p from rfl)
  rw [← wtP_full xs p W is0]
  have h256 : 2 ^ W ≤ 2 ^ 4 := Nat.pow_le_pow_right (by omega) h4
  clear hq E0
  generalize wtP xs p W is0 = wp at *
  generalize wl W = ws at *
  obtain ⟨ip, hip⟩ : ∃ ip : Nat → Nat, ip = ipos p W is0 := ⟨_, rfl⟩
  rw [← hip] at HP HV HS HI0 ⊢
  obtain ⟨lf, hlf⟩ : ∃ lf : Nat → Bool, lf = is0 := ⟨_, rfl⟩
  rw [← hlf] at HP HV HS
  have HLF := Lib.hid hlf
  clear hip hlf
  obtain ⟨n, hn⟩ : ∃ n : Nat, n = 2 ^ W := ⟨_, rfl⟩
  rw [← hn] at hWt HV hwl h256
  clear hn
  go_enter Tryd.func42, Tryd.ntmps42
  go_wp2_with (first
    | (go_at_call 37; refine (hWt.out _).mono ?_; clear hWt; rintro e w2 ⟨g1, rfl, hg1, hr1, hb0⟩; have E1 := Lib.hid (E.out.newrow hb0 hg1 hr1); clear E hb0 hg1 hr1; have E := E1; clear E1)
    | ((with_reducible refine kn_load E.out rfl rfl rfl rfl ?_)) | ((with_reducible refine kn_load_if E.out rfl rfl rfl rfl ?_)) | ((with_reducible refine kn_loads E.out rfl rfl rfl ?_ ?_); (focus (first | rfl | (simp only [i64s_length, u8s_length]; first | rfl | assumption | omega)))) | ((with_reducible refine kn_loads_if E.out rfl rfl rfl ?_ ?_); (focus (first | rfl | (simp only [i64s_length, u8s_length]; first | rfl | assumption | omega)))) | ((with_reducible refine kn_store1_int E.out rfl rfl rfl rfl rfl ?_); clear E; intro u E0; have E := Lib.hid E0; clear E0) | ((with_reducible refine kn_store1_slice E.out rfl rfl rfl rfl rfl ?_); clear E; intro u E0; have E := Lib.hid E0; clear E0) | ((with_reducible refine kn_store1_bool E.out rfl rfl rfl rfl rfl ?_); clear E; intro u E0; have E := Lib.hid E0; clear E0) | ((with_reducible refine kn_stores E.out rfl rfl rfl rfl rfl ?_ ?_ ?_); (focus (first | exact ⟨rfl, rfl⟩ | (simp only [i64s_length, u8s_length]; refine ⟨?_, ?_⟩ <;> first | rfl | assumption | omega))); (focus (first | exact i64s_one _ | exact u8s_one _ | simp [Value.oneCell'])); clear E; intro u E0; have E := Lib.hid E0; clear E0) | ((with_reducible refine kn_alloc (o := ⟨some 6, _, _, _, _, _⟩) E.out rfl rfl ?_); clear E; intro g6 u E0 hb0; have E := Lib.hid E0; clear E0 hb0) | ((with_reducible refine kn_box (o := ⟨some 6, _, _, _, _, _⟩) E.out rfl rfl rfl ?_); clear E; intro g6 u E0 hb0; have E := Lib.hid E0; clear E0 hb0) | ((with_reducible refine kn_box_int (o := ⟨some 6, _, _, _, _, _⟩) E.out rfl rfl rfl ?_); clear E; intro g6 u E0 hb0; have E := Lib.hid E0; clear E0 hb0) | ((with_reducible refine kn_box_slice (o := ⟨some 6, _, _, _, _, _⟩) E.out rfl rfl rfl ?_); clear E; intro g6 u E0 hb0; have E := Lib.hid E0; clear E0 hb0) | ((with_reducible refine kn_box_bool (o := ⟨some 6, _, _, _, _, _⟩) E.out rfl rfl rfl ?_); clear E; intro g6 u E0 hb0; have E := Lib.hid E0; clear E0 hb0) | ((with_reducible refine kn_box_func (o := ⟨some 6, _, _, _, _, _⟩) E.out rfl rfl rfl ?_); clear E; intro g6 u E0 hb0; have E := Lib.hid E0; clear E0 hb0) | ((with_reducible refine kn_alloc (o := ⟨some 8, _, _, _, _, _⟩) E.out rfl rfl ?_); clear E; intro g8 u E0 hb0; have E := Lib.hid E0; clear E0 hb0) | ((with_reducible refine kn_box (o := ⟨some 8, _, _, _, _, _⟩) E.out rfl rfl rfl ?_); clear E; intro g8 u E0 hb0; have E := Lib.hid E0; clear E0 hb0) | ((with_reducible refine kn_box_int (o := ⟨some 8, _, _, _, _, _⟩) E.out rfl rfl rfl ?_); clear E; intro g8 u E0 hb0; have E := Lib.hid E0; clear E0 hb0) | ((with_reducible refine kn_box_slice (o := ⟨some 8, _, _, _, _, _⟩) E.out rfl rfl rfl ?_); clear E; intro g8 u E0 hb0; have E := Lib.hid E0; clear E0 hb0) | ((with_reducible refine kn_box_bool (o := ⟨some 8, _, _, _, _, _⟩) E.out rfl rfl rfl ?_); clear E; intro g8 u E0 hb0; have E := Lib.hid E0; clear E0 hb0) | ((with_reducible refine kn_box_func (o := ⟨some 8, _, _, _, _, _⟩) E.out rfl rfl rfl ?_); clear E; intro g8 u E0 hb0; have E := Lib.hid E0; clear E0 hb0) | ((with_reducible refine kn_alloc E.out rfl rfl ?_); clear E; intro g u E0 hb0; have E := Lib.hid E0; clear E0 hb0) | ((with_reducible refine kn_box E.out rfl rfl rfl ?_); clear E; intro g u E0 hb0; have E := Lib.hid E0; clear E0 hb0) | ((with_reducible refine kn_box_int E.out rfl rfl rfl ?_); clear E; intro g u E0 hb0; have E := Lib.hid E0; clear E0 hb0) | ((with_reducible refine kn_box_slice E.out rfl rfl rfl ?_); clear E; intro g u E0 hb0; have E := Lib.hid E0; clear E0 hb0) | ((with_reducible refine kn_box_bool E.out rfl rfl rfl ?_); clear E; intro g u E0 hb0; have E := Lib.hid E0; clear E0 hb0) | ((with_reducible refine kn_box_func E.out rfl rfl rfl ?_); clear E; intro g u E0 hb0; have E := Lib.hid E0; clear E0 hb0))
  go_loopw [12] (fun i wr => ∃ k : Nat, k ≤ 16 ∧ i = .int .i64 k ∧ Hid (Kn w (.row g8 35 (i64s (wp k)) :: .row g1 3 (i64s ws) :: .row g6 35 (i64s Bc.z16) :: .row ga 3 [.int .i64 ((ip k : Nat) : Int)] :: R) F wr)) (fun i _ => 16 - (intOf i).toNat)
  case atStart => exact ⟨0, by omega, rfl, by rw [H0.out, HI0.out]; exact E⟩
  case round =>
    clear E
    obtain ⟨k, hk, rfl, E⟩ := hrel
    have hl := HL.out k
    by_cases hlt : k < 16
    · have hS := Lib.hid (HS.out k)
      obtain ⟨hp1, hp2⟩ := HP.out k hlt
      have hv := HV.out k
      have hlk := Lib.hid (show is0 k = lf k from by rw [HLF.out])
      have hb1 := b1_le (lf k)
      clear HS HP HV HL H0 HI0 HLF
      obtain ⟨V, hV⟩ : ∃ V : Nat, V = getN xs false (ip k) (W - b1 (lf k)) := ⟨_, rfl⟩
      rw [← hV] at hv hS
      have HVV := Lib.hid hV.symm
      obtain ⟨M, hM⟩ : ∃ M : Nat, M = W - b1 (lf k) := ⟨_, rfl⟩
      rw [← hM] at hp1 hp2 HVV
      have hMM := Lib.hid (show (W : Int) - (b1 (lf k) : Int) = (M : Int) from by omega)
      have hM16 : M ≤ 16 := by omega
      have hz := Lib.hid (show ((ip (k + 1) : Nat) : Int) = (ip k : Int) + (M : Int) from by omega)
      have hIB := Lib.hid (fun u => indexBits_any (W : Int) (lf k) u (by omega))
      clear hV hM hp2
      obtain ⟨pk1, hpk⟩ : ∃ z, ip (k + 1) = z := ⟨_, rfl⟩
      rw [hpk] at hz
      replace hpk := Lib.hid hpk
      generalize ip k = pk at *
      generalize lf k = B at *
      obtain ⟨X, hX⟩ : ∃ X, ws.getD V 0 = X := ⟨_, rfl⟩
      rw [hX] at hS
      have HX := Lib.hid hX
      have hvi : (V : Int) < (n : Int) := by omega
      clear hX
      go_wp2_with (first
        | (go_at_call 45; refine (less_2 E.out k).mono ?_; rw [hlk.out]; rintro e w1 ⟨rfl, E0⟩; clear E; have E := Lib.hid E0; clear E0)
        | (go_at_call 34; refine (hIB.out _).mono ?_; clear hIB; rw [hMM.out]; rintro e w1 ⟨rfl, rfl⟩)
        | (go_at_call 48; refine (take_any E.out gb ga A c xs pk M (M : Int) (pk1 : Int) rfl hz.out hb hx hM16 hp1).mono ?_; rw [HVV.out]; rintro e w1 ⟨rfl, E0⟩; clear E; have E := Lib.hid E0; clear E0)
        | ((with_reducible refine kn_loadi (g := g1) (i := V) E.out rfl rfl rfl ?hi ?_); (case hi => omega); rw [HX.out])
        | ((with_reducible refine kn_storei (g := g8) E.out rfl rfl rfl rfl rfl ?hi ?_); (case hi => omega); clear E; intro u E0; have E := Lib.hid E0; clear E0)
        | ((with_reducible refine kn_load E.out rfl rfl rfl rfl ?_)) | ((with_reducible refine kn_load_if E.out rfl rfl rfl rfl ?_)) | ((with_reducible refine kn_loads E.out rfl rfl rfl ?_ ?_); (focus (first | rfl | (simp only [i64s_length, u8s_length]; first | rfl | assumption | omega)))) | ((with_reducible refine kn_loads_if E.out rfl rfl rfl ?_ ?_); (focus (first | rfl | (simp only [i64s_length, u8s_length]; first | rfl | assumption | omega)))) | ((with_reducible refine kn_store1_int E.out rfl rfl rfl rfl rfl ?_); clear E; intro u E0; have E := Lib.hid E0; clear E0) | ((with_reducible refine kn_store1_slice E.out rfl rfl rfl rfl rfl ?_); clear E; intro u E0; have E := Lib.hid E0; clear E0) | ((with_reducible refine kn_store1_bool E.out rfl rfl rfl rfl rfl ?_); clear E; intro u E0; have E := Lib.hid E0; clear E0) | ((with_reducible refine kn_stores E.out rfl rfl rfl rfl rfl ?_ ?_ ?_); (focus (first | exact ⟨rfl, rfl⟩ | (simp only [i64s_length, u8s_length]; refine ⟨?_, ?_⟩ <;> first | rfl | assumption | omega))); (focus (first | exact i64s_one _ | exact u8s_one _ | simp [Value.oneCell'])); clear E; intro u E0; have E := Lib.hid E0; clear E0) | ((with_reducible refine kn_alloc E.out rfl rfl ?_); clear E; intro g u E0 hb0; have E := Lib.hid E0; clear E0 hb0) | ((with_reducible refine kn_box E.out rfl rfl rfl ?_); clear E; intro g u E0 hb0; have E := Lib.hid E0; clear E0 hb0) | ((with_reducible refine kn_box_int E.out rfl rfl rfl ?_); clear E; intro g u E0 hb0; have E := Lib.hid E0; clear E0 hb0) | ((with_reducible refine kn_box_slice E.out rfl rfl rfl ?_); clear E; intro g u E0 hb0; have E := Lib.hid E0; clear E0 hb0) | ((with_reducible refine kn_box_bool E.out rfl rfl rfl ?_); clear E; intro g u E0 hb0; have E := Lib.hid E0; clear E0 hb0) | ((with_reducible refine kn_box_func E.out rfl rfl rfl ?_); clear E; intro g u E0 hb0; have E := Lib.hid E0; clear E0 hb0))
      go_roundw
      case rel => exact ⟨k + 1, by omega, by go_num, by rw [← hS.out, hpk.out]; exact E⟩
      case measure => simp [intOf]; omega
    · obtain rfl : k = 16 := by omega
      clear HS HP HV HL H0 HI0 HLF hlt
      go_wp2_with (first | ((with_reducible refine kn_load E.out rfl rfl rfl rfl ?_)) | ((with_reducible refine kn_load_if E.out rfl rfl rfl rfl ?_)) | ((with_reducible refine kn_loads E.out rfl rfl rfl ?_ ?_); (focus (first | rfl | (simp only [i64s_length, u8s_length]; first | rfl | assumption | omega)))) | ((with_reducible refine kn_loads_if E.out rfl rfl rfl ?_ ?_); (focus (first | rfl | (simp only [i64s_length, u8s_length]; first | rfl | assumption | omega)))) | ((with_reducible refine kn_store1_int E.out rfl rfl rfl rfl rfl ?_); clear E; intro u E0; have E := Lib.hid E0; clear E0) | ((with_reducible refine kn_store1_slice E.out rfl rfl rfl rfl rfl ?_); clear E; intro u E0; have E := Lib.hid E0; clear E0) | ((with_reducible refine kn_store1_bool E.out rfl rfl rfl rfl rfl ?_); clear E; intro u E0; have E := Lib.hid E0; clear E0) | ((with_reducible refine kn_stores E.out rfl rfl rfl rfl rfl ?_ ?_ ?_); (focus (first | exact ⟨rfl, rfl⟩ | (simp only [i64s_length, u8s_length]; refine ⟨?_, ?_⟩ <;> first | rfl | assumption | omega))); (focus (first | exact i64s_one _ | exact u8s_one _ | simp [Value.oneCell'])); clear E; intro u E0; have E := Lib.hid E0; clear E0) | ((with_reducible refine kn_alloc E.out rfl rfl ?_); clear E; intro g u E0 hb0; have E := Lib.hid E0; clear E0 hb0) | ((with_reducible refine kn_box E.out rfl rfl rfl ?_); clear E; intro g u E0 hb0; have E := Lib.hid E0; clear E0 hb0) | ((with_reducible refine kn_box_int E.out rfl rfl rfl ?_); clear E; intro g u E0 hb0; have E := Lib.hid E0; clear E0 hb0) | ((with_reducible refine kn_box_slice E.out rfl rfl rfl ?_); clear E; intro g u E0 hb0; have E := Lib.hid E0; clear E0 hb0) | ((with_reducible refine kn_box_bool E.out rfl rfl rfl ?_); clear E; intro g u E0 hb0; have E := Lib.hid E0; clear E0 hb0) | ((with_reducible refine kn_box_func E.out rfl rfl rfl ?_); clear E; intro g u E0 hb0; have E := Lib.hid E0; clear E0 hb0))
      refine bodyPost_ret (results_kn E.out rfl _ rfl (by rw [i64s_length]; exact hl)) rfl ?_
      exact ⟨rfl, E.out.part _ _ (by repeat (first | exact List.Sublist.refl _ | apply List.Sublist.cons_cons | apply List.Sublist.cons)) (fun _ h => h)⟩
end Go.Proofs.YtnoailihkjccbaaDoor
