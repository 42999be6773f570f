/- ETC2 blocks, the document's: the four colours of T and of H. -/
import Derived.Test.YtgcijioiicmjiaaDoorE2Rsm
import Derived.Test.YtgcijioiicmjiaaDoorE1Shift
import Derived.Test.YtgcijioiicmjiaaDoorE2H
set_option linter.all false
namespace Go.Proofs.YtgcijioiicmjiaaDoor
open Go.RowKit
open Bi Lv Eo Et

set_option maxHeartbeats 4000000 in
set_option maxRecDepth 100000 in
theorem fourT11 (A : Option Addr) (c : Nat) (xs : List Nat) (w : World) (h : Bs w w.heap.size A 8 xs) :
    Calls Tryd.prog 31 #[.slice A 8 c, .int .i64 1] w fun e w' => e = .returned (arr (frT xs)) ∧ Below w.heap.size w w' := by
  have E := Lib.hid ((Kn.start w).arg_bs h)
  have k0 := Lib.hid (fun gl u hu hg => show Calls Tryd.prog 59 #[.slice A 8 c, .slice (some ⟨gl, 0, none⟩) 4 4] u (fun e w' => e = .returned (.int .i64 (Et.bits xs [3, 4, 6, 7])) ∧ Below u.heap.size u w') from pick11 A c xs gl 4 4 [3, 4, 6, 7] u hu hg rfl (by omega) (by decide))
  have k1 := Lib.hid (fun u hu => show Calls Tryd.prog 41 #[.slice A 8 c, .int .i64 8, .int .i64 11] u (fun e w' => e = .returned (.int .i64 (Et.bits xs [8, 9, 10, 11])) ∧ Below u.heap.size u w') from by
    have k := run11 A c xs 8 11 4 u hu (by omega) (by omega) (by omega)
    rw [G_bits] at k
    exact k)
  have k2 := Lib.hid (fun u hu => show Calls Tryd.prog 41 #[.slice A 8 c, .int .i64 12, .int .i64 15] u (fun e w' => e = .returned (.int .i64 (Et.bits xs [12, 13, 14, 15])) ∧ Below u.heap.size u w') from by
    have k := run11 A c xs 12 15 4 u hu (by omega) (by omega) (by omega)
    rw [G_bits] at k
    exact k)
  have k3 := Lib.hid (fun u hu => show Calls Tryd.prog 41 #[.slice A 8 c, .int .i64 16, .int .i64 19] u (fun e w' => e = .returned (.int .i64 (Et.bits xs [16, 17, 18, 19])) ∧ Below u.heap.size u w') from by
    have k := run11 A c xs 16 19 4 u hu (by omega) (by omega) (by omega)
    rw [G_bits] at k
    exact k)
  have k4 := Lib.hid (fun u hu => show Calls Tryd.prog 41 #[.slice A 8 c, .int .i64 20, .int .i64 23] u (fun e w' => e = .returned (.int .i64 (Et.bits xs [20, 21, 22, 23])) ∧ Below u.heap.size u w') from by
    have k := run11 A c xs 20 23 4 u hu (by omega) (by omega) (by omega)
    rw [G_bits] at k
    exact k)
  have k5 := Lib.hid (fun u hu => show Calls Tryd.prog 41 #[.slice A 8 c, .int .i64 24, .int .i64 27] u (fun e w' => e = .returned (.int .i64 (Et.bits xs [24, 25, 26, 27])) ∧ Below u.heap.size u w') from by
    have k := run11 A c xs 24 27 4 u hu (by omega) (by omega) (by omega)
    rw [G_bits] at k
    exact k)
  have k6 := Lib.hid (fun gl u hu hg => show Calls Tryd.prog 59 #[.slice A 8 c, .slice (some ⟨gl, 0, none⟩) 3 3] u (fun e w' => e = .returned (.int .i64 (Et.bits xs [28, 29, 31])) ∧ Below u.heap.size u w') from pick11 A c xs gl 3 3 [28, 29, 31] u hu hg rfl (by omega) (by decide))
  have kA := Lib.hid (fun u => show Calls Tryd.prog 65 #[.agg #[.int .i64 (Et.bits xs [3, 4, 6, 7]), .int .i64 (Et.bits xs [8, 9, 10, 11]), .int .i64 (Et.bits xs [12, 13, 14, 15])]] u (fun e w' => e = .returned (arr (tA xs)) ∧ Below u.heap.size u w') from col11 (Et.bits xs [3, 4, 6, 7]) (Et.bits xs [8, 9, 10, 11]) (Et.bits xs [12, 13, 14, 15]) u)
  have kB := Lib.hid (fun u => show Calls Tryd.prog 65 #[.agg #[.int .i64 (Et.bits xs [16, 17, 18, 19]), .int .i64 (Et.bits xs [20, 21, 22, 23]), .int .i64 (Et.bits xs [24, 25, 26, 27])]] u (fun e w' => e = .returned (arr (tB xs)) ∧ Below u.heap.size u w') from col11 (Et.bits xs [16, 17, 18, 19]) (Et.bits xs [20, 21, 22, 23]) (Et.bits xs [24, 25, 26, 27]) u)
  have kD := Lib.hid (fun u => show Calls Tryd.prog 13 #[.int .i64 (Et.bits xs [28, 29, 31])] u (fun e w' => e = .returned (.int .i64 (tD xs)) ∧ Below u.heap.size u w') from rdist11 _ u)
  have hdb := disV_bd (Et.bits xs [28, 29, 31])
  have kP := Lib.hid (fun u => add_any (tB xs) (tD xs) u rfl (col4_bd _ _ _) (by unfold tD; omega))
  have kM := Lib.hid (fun u => add_any (tB xs) (-tD xs) u rfl (col4_bd _ _ _) (by unfold tD; omega))
  have hBt := fun u => built_frT xs u
  have hal : Hid ((tA xs).length = 4) := rfl
  have hbl : Hid ((tB xs).length = 4) := rfl
  have hfl : Hid ((frT xs).length = 16) := rfl
  have hneg := Lib.hid (show IntKind.i64.wrap (-tD xs) = -tD xs from by unfold tD; rw [IntKind.wrap_i64]; omega)
  have hsz_int : (Tryd.prog.info? 3).map (·.size) = some 1 := by kernel_rfl
  have hz_int : ((Tryd.prog.info? 3).bind (·.zero)).isSome = true := by kernel_rfl
  clear h hdb
  generalize frT xs = FR at *
  obtain ⟨sp, hsp⟩ : ∃ z, addV (tB xs) (tD xs) = z := ⟨_, rfl⟩
  obtain ⟨sm, hsm⟩ : ∃ z, addV (tB xs) (-tD xs) = z := ⟨_, rfl⟩
  rw [hsp] at kP hBt
  rw [hsm] at kM hBt
  clear hsp hsm
  generalize tA xs = aV at *
  generalize tB xs = bV at *
  generalize tD xs = dv at *
  generalize Et.bits xs [3, 4, 6, 7] = x0 at *
  generalize Et.bits xs [8, 9, 10, 11] = x1 at *
  generalize Et.bits xs [12, 13, 14, 15] = x2 at *
  generalize Et.bits xs [16, 17, 18, 19] = y0 at *
  generalize Et.bits xs [20, 21, 22, 23] = y1 at *
  generalize Et.bits xs [24, 25, 26, 27] = y2 at *
  generalize Et.bits xs [28, 29, 31] = nv at *
  go_enter Tryd.func31, Tryd.ntmps31
  go_wp2_with (first
    | ((with_reducible refine kn_buildi E.out rfl rfl [3, 4, 6, 7] Tryd.underlying73 hsz_int hz_int ?_ ?_ ?_ ?_ ?_); (focus (rfl)); (focus (omega)); (focus (omega)); (focus (rfl)); clear E; intro gl0 u E0 hg; have E := Lib.hid (E0.rest gl0); clear E0 hg)
    | ((with_reducible refine kn_buildi E.out rfl rfl [28, 29, 31] Tryd.underlying73 hsz_int hz_int ?_ ?_ ?_ ?_ ?_); (focus (rfl)); (focus (omega)); (focus (omega)); (focus (rfl)); clear E; intro gl1 u E0 hg; have E := Lib.hid (E0.rest gl1); clear E0 hg)
    | (go_at_call 59; (with_reducible refine (k0.out _ _ ?ha ?hb).mono ?_); (case ha => exact E.out.bs (by simp)); (case hb => exact E.out.see); clear k0; rintro e w2 ⟨rfl, hb⟩; have E1 := Lib.hid (E.out.later hb); clear hb E; have E := E1; clear E1)
    | (go_at_call 59; (with_reducible refine (k6.out _ _ ?ha ?hb).mono ?_); (case ha => exact E.out.bs (by simp)); (case hb => exact E.out.see); clear k6; rintro e w2 ⟨rfl, hb⟩; have E1 := Lib.hid (E.out.later hb); clear hb E; have E := E1; clear E1)
    | (go_at_call 41; (with_reducible refine (k1.out _ ?ha).mono ?_); (case ha => exact E.out.bs (by simp)); clear k1; rintro e w2 ⟨rfl, hb⟩; have E1 := Lib.hid (E.out.later hb); clear hb E; have E := E1; clear E1)
    | (go_at_call 41; (with_reducible refine (k2.out _ ?ha).mono ?_); (case ha => exact E.out.bs (by simp)); clear k2; rintro e w2 ⟨rfl, hb⟩; have E1 := Lib.hid (E.out.later hb); clear hb E; have E := E1; clear E1)
    | (go_at_call 41; (with_reducible refine (k3.out _ ?ha).mono ?_); (case ha => exact E.out.bs (by simp)); clear k3; rintro e w2 ⟨rfl, hb⟩; have E1 := Lib.hid (E.out.later hb); clear hb E; have E := E1; clear E1)
    | (go_at_call 41; (with_reducible refine (k4.out _ ?ha).mono ?_); (case ha => exact E.out.bs (by simp)); clear k4; rintro e w2 ⟨rfl, hb⟩; have E1 := Lib.hid (E.out.later hb); clear hb E; have E := E1; clear E1)
    | (go_at_call 41; (with_reducible refine (k5.out _ ?ha).mono ?_); (case ha => exact E.out.bs (by simp)); clear k5; rintro e w2 ⟨rfl, hb⟩; have E1 := Lib.hid (E.out.later hb); clear hb E; have E := E1; clear E1)
    | (go_at_call 65; (with_reducible refine (kA.out _).mono ?_); clear kA; rintro e w2 ⟨rfl, hb⟩; have E1 := Lib.hid (E.out.later hb); clear hb E; have E := E1; clear E1)
    | (go_at_call 65; (with_reducible refine (kB.out _).mono ?_); clear kB; rintro e w2 ⟨rfl, hb⟩; have E1 := Lib.hid (E.out.later hb); clear hb E; have E := E1; clear E1)
    | (go_at_call 13; (with_reducible refine (kD.out _).mono ?_); clear kD; rintro e w2 ⟨rfl, hb⟩; have E1 := Lib.hid (E.out.later hb); clear hb E; have E := E1; clear E1)
    | ((with_reducible refine kn_stores (g := g5) (vs := i64s aV) E.out rfl rfl rfl rfl rfl ?hl ?h1 ?_); (case hl => exact ⟨rfl, by rw [i64s_length]; exact hal.out⟩); (case h1 => exact i64s_one _); clear E; intro u E0; have E := Lib.hid E0; clear E0)
    | ((with_reducible refine kn_stores (g := g6) (vs := i64s bV) E.out rfl rfl rfl rfl rfl ?hl ?h1 ?_); (case hl => exact ⟨rfl, by rw [i64s_length]; exact hbl.out⟩); (case h1 => exact i64s_one _); clear E; intro u E0; have E := Lib.hid E0; clear E0)
    | ((with_reducible refine kn_load E.out rfl rfl rfl rfl ?_)) | ((with_reducible refine kn_load_if E.out rfl rfl rfl rfl ?_)) | ((with_reducible refine kn_loads E.out rfl rfl rfl ?_ ?_); (focus (first | rfl | (simp only [i64s_length, u8s_length]; first | rfl | assumption | omega)))) | ((with_reducible refine kn_loads_if E.out rfl rfl rfl ?_ ?_); (focus (first | rfl | (simp only [i64s_length, u8s_length]; first | rfl | assumption | omega)))) | ((with_reducible refine kn_stores E.out rfl rfl rfl rfl rfl ?_ ?_ ?_); (focus (first | exact ⟨rfl, rfl⟩ | (simp only [i64s_length, u8s_length]; refine ⟨?_, ?_⟩ <;> first | rfl | assumption | omega))); (focus (first | exact i64s_one _ | exact u8s_one _ | simp [Value.oneCell'])); clear E; intro u E0; have E := Lib.hid E0; clear E0) | ((with_reducible refine kn_alloc (o := ⟨some 4, _, _, _, _, _⟩) E.out rfl rfl ?_); clear E; intro g4 u E0 hb0; have E := Lib.hid E0; clear E0 hb0) | ((with_reducible refine kn_box (o := ⟨some 4, _, _, _, _, _⟩) E.out rfl rfl rfl ?_); clear E; intro g4 u E0 hb0; have E := Lib.hid E0; clear E0 hb0) | ((with_reducible refine kn_box_int (o := ⟨some 4, _, _, _, _, _⟩) E.out rfl rfl rfl ?_); clear E; intro g4 u E0 hb0; have E := Lib.hid E0; clear E0 hb0) | ((with_reducible refine kn_box_slice (o := ⟨some 4, _, _, _, _, _⟩) E.out rfl rfl rfl ?_); clear E; intro g4 u E0 hb0; have E := Lib.hid E0; clear E0 hb0) | ((with_reducible refine kn_box_bool (o := ⟨some 4, _, _, _, _, _⟩) E.out rfl rfl rfl ?_); clear E; intro g4 u E0 hb0; have E := Lib.hid E0; clear E0 hb0) | ((with_reducible refine kn_box_func (o := ⟨some 4, _, _, _, _, _⟩) E.out rfl rfl rfl ?_); clear E; intro g4 u E0 hb0; have E := Lib.hid E0; clear E0 hb0) | ((with_reducible refine kn_alloc (o := ⟨some 5, _, _, _, _, _⟩) E.out rfl rfl ?_); clear E; intro g5 u E0 hb0; have E := Lib.hid E0; clear E0 hb0) | ((with_reducible refine kn_box (o := ⟨some 5, _, _, _, _, _⟩) E.out rfl rfl rfl ?_); clear E; intro g5 u E0 hb0; have E := Lib.hid E0; clear E0 hb0) | ((with_reducible refine kn_box_int (o := ⟨some 5, _, _, _, _, _⟩) E.out rfl rfl rfl ?_); clear E; intro g5 u E0 hb0; have E := Lib.hid E0; clear E0 hb0) | ((with_reducible refine kn_box_slice (o := ⟨some 5, _, _, _, _, _⟩) E.out rfl rfl rfl ?_); clear E; intro g5 u E0 hb0; have E := Lib.hid E0; clear E0 hb0) | ((with_reducible refine kn_box_bool (o := ⟨some 5, _, _, _, _, _⟩) E.out rfl rfl rfl ?_); clear E; intro g5 u E0 hb0; have E := Lib.hid E0; clear E0 hb0) | ((with_reducible refine kn_box_func (o := ⟨some 5, _, _, _, _, _⟩) E.out rfl rfl rfl ?_); clear E; intro g5 u E0 hb0; have E := Lib.hid E0; clear E0 hb0) | ((with_reducible refine kn_alloc (o := ⟨some 6, _, _, _, _, _⟩) E.out rfl rfl ?_); clear E; intro g6 u E0 hb0; have E := Lib.hid E0; clear E0 hb0) | ((with_reducible refine kn_box (o := ⟨some 6, _, _, _, _, _⟩) E.out rfl rfl rfl ?_); clear E; intro g6 u E0 hb0; have E := Lib.hid E0; clear E0 hb0) | ((with_reducible refine kn_box_int (o := ⟨some 6, _, _, _, _, _⟩) E.out rfl rfl rfl ?_); clear E; intro g6 u E0 hb0; have E := Lib.hid E0; clear E0 hb0) | ((with_reducible refine kn_box_slice (o := ⟨some 6, _, _, _, _, _⟩) E.out rfl rfl rfl ?_); clear E; intro g6 u E0 hb0; have E := Lib.hid E0; clear E0 hb0) | ((with_reducible refine kn_box_bool (o := ⟨some 6, _, _, _, _, _⟩) E.out rfl rfl rfl ?_); clear E; intro g6 u E0 hb0; have E := Lib.hid E0; clear E0 hb0) | ((with_reducible refine kn_box_func (o := ⟨some 6, _, _, _, _, _⟩) E.out rfl rfl rfl ?_); clear E; intro g6 u E0 hb0; have E := Lib.hid E0; clear E0 hb0))
  refine wp_region_held_drew (S := Kn w [.row g6 25 (i64s bV), .row g5 25 (i64s aV)] []) (by kernel_rfl) (E.out.drew.part _ _ (by repeat (first | exact List.Sublist.refl _ | apply List.Sublist.cons_cons | apply List.Sublist.cons)) (by simp)) (fun kS => ?_)
  have E1 := Lib.hid E.out.drew
  generalize World.drew _ = u1 at kS E1 ⊢
  clear E
  have E := E1
  clear E1
  (refine takeL (i := 0) (v := _) rfl (by kernel_rfl) (by kernel_rfl) (by kernel_rfl) (fun _ _ _ h => h) (yield_loads (g := g5) rfl rfl rfl (by rw [i64s_length]; exact hal.out)) kS ?_; (try simp only [Act.put, List.setIfInBounds_toArray, List.set_cons_zero, List.set_cons_succ]))
  (refine takeL (i := 1) (v := _) rfl (by kernel_rfl) (by kernel_rfl) (by kernel_rfl) (fun _ _ _ h => h) (yield_loads (g := g6) rfl rfl rfl (by rw [i64s_length]; exact hbl.out)) kS ?_; (try simp only [Act.put, List.setIfInBounds_toArray, List.set_cons_zero, List.set_cons_succ]))
  (refine takeL (i := 2) (v := _) rfl (by kernel_rfl) (by kernel_rfl) (by kernel_rfl) (fun _ _ _ h => h) (by first | exact Or.inl ⟨by rfl, (by intro u hSu; clear hSu; go_simp; try with_reducible rfl)⟩ | exact Or.inr ⟨by rfl, rfl⟩) kS ?_; (try simp only [Act.put, List.setIfInBounds_toArray, List.set_cons_zero, List.set_cons_succ]))
  (refine takeL (i := 4) (v := _) rfl (by kernel_rfl) (by kernel_rfl) (by kernel_rfl) (fun _ _ _ h => h) (yield_loads (g := g6) rfl rfl rfl (by rw [i64s_length]; exact hbl.out)) kS ?_; (try simp only [Act.put, List.setIfInBounds_toArray, List.set_cons_zero, List.set_cons_succ]))
  (refine takeL (i := 5) (v := _) rfl (by kernel_rfl) (by kernel_rfl) (by kernel_rfl) (fun _ _ _ h => h) (yield_loads (g := g6) rfl rfl rfl (by rw [i64s_length]; exact hbl.out)) kS ?_; (try simp only [Act.put, List.setIfInBounds_toArray, List.set_cons_zero, List.set_cons_succ]))
  (refine takeL (i := 6) (v := _) rfl (by kernel_rfl) (by kernel_rfl) (by kernel_rfl) (fun _ _ _ h => h) (by first | exact Or.inl ⟨by rfl, (by intro u hSu; clear hSu; go_simp; try with_reducible rfl)⟩ | exact Or.inr ⟨by rfl, rfl⟩) kS ?_; (try simp only [Act.put, List.setIfInBounds_toArray, List.set_cons_zero, List.set_cons_succ])); (refine takeL (i := 7) (v := _) rfl (by kernel_rfl) (by kernel_rfl) (by kernel_rfl) (fun _ _ _ h => h) (by first | exact Or.inl ⟨by rfl, (by intro u hSu; clear hSu; go_simp; try with_reducible rfl)⟩ | exact Or.inr ⟨by rfl, rfl⟩) kS ?_; (try simp only [Act.put, List.setIfInBounds_toArray, List.set_cons_zero, List.set_cons_succ]))
  try rw [hneg.out]
  refine callL (i := 3) rfl (by kernel_rfl) (fun K hK => ?_)
  (rw [if_pos (by rfl)]; go_simp; (with_reducible refine (kP.out _).mono ?_); rintro e' w1 ⟨rfl, hb⟩; have E1 := Lib.hid (E.out.later hb); clear hb E; have E := E1; clear E1; go_wp2_with fail; (refine hK.out _ _ (E.out.part _ _ (by repeat (first | exact List.Sublist.refl _ | apply List.Sublist.cons_cons | apply List.Sublist.cons)) (by simp)) (fun kS => ?_); clear hK K; (try simp only [Act.put, List.setIfInBounds_toArray, List.set_cons_zero, List.set_cons_succ])))
  refine callL (i := 8) rfl (by kernel_rfl) (fun K hK => ?_)
  (rw [if_pos (by rfl)]; go_simp; (with_reducible refine (kM.out _).mono ?_); rintro e' w1 ⟨rfl, hb⟩; have E1 := Lib.hid (E.out.later hb); clear hb E; have E := E1; clear E1; go_wp2_with fail; (refine hK.out _ _ (E.out.part _ _ (by repeat (first | exact List.Sublist.refl _ | apply List.Sublist.cons_cons | apply List.Sublist.cons)) (by simp)) (fun kS => ?_); clear hK K; (try simp only [Act.put, List.setIfInBounds_toArray, List.set_cons_zero, List.set_cons_succ])))
  (refine takeL (i := 9) (v := arr FR) rfl (by kernel_rfl) (by kernel_rfl) (by kernel_rfl) (fun _ _ _ h => h) (yield_build4 rfl rfl hBt (by simp only [List.map_toArray, List.map_cons, List.map_nil]; rfl)) kS ?_; (try simp only [Act.put, List.setIfInBounds_toArray, List.set_cons_zero, List.set_cons_succ]))
  refine callL (i := 10) rfl (by kernel_rfl) (fun K hK => ?_)
  (rw [if_pos (by rfl)]; refine wp_kn_stores (g := g4) (vs := i64s FR) E.out rfl rfl rfl rfl ⟨rfl, by rw [i64s_length]; exact hfl.out⟩ (i64s_one _) ?_; clear E kS; intro u E0; have E := Lib.hid E0; clear E0; (refine hK.out _ _ (E.out.part _ _ (by repeat (first | exact List.Sublist.refl _ | apply List.Sublist.cons_cons | apply List.Sublist.cons)) (by simp)) (fun kS => ?_); clear hK K; (try simp only [Act.put, List.setIfInBounds_toArray, List.set_cons_zero, List.set_cons_succ])))
  refine wpAnyH_done (by kernel_rfl) ?_ _
  go_wp2_with fail
  refine bodyPost_ret (results_kn E.out rfl _ rfl (by rw [i64s_length]; exact hfl.out)) rfl ?_
  exact ⟨rfl, E.out.bel⟩
theorem built_frH11 (xs : List Nat) (a b : List Int) (d : Int) (u : World) : (Instr.build 69 #[(0, arr (addV a d)), (1, arr (addV a (-d))), (2, arr (addV b d)), (3, arr (addV b (-d)))]).run Tryd.prog u = .ok (arr (addV a d ++ addV a (-d) ++ addV b d ++ addV b (-d))) u := run_build u _ _ _ (by kernel_rfl)
set_option maxHeartbeats 4000000 in
set_option maxRecDepth 100000 in
theorem fourH11 (A : Option Addr) (c : Nat) (k : Int) (hk1 : k ≠ 1) (xs : List Nat) (w : World) (h : Bs w w.heap.size A 8 xs) :
    Calls Tryd.prog 31 #[.slice A 8 c, .int .i64 k] w fun e w' => e = .returned (arr (frH xs)) ∧ Below w.heap.size w w' := by
  have E := Lib.hid ((Kn.start w).arg_bs h)
  have hkb : (k == 1) = false := by simpa using hk1
  have k0 := Lib.hid (fun u hu => show Calls Tryd.prog 41 #[.slice A 8 c, .int .i64 1, .int .i64 4] u (fun e w' => e = .returned (.int .i64 (Et.bits xs [1, 2, 3, 4])) ∧ Below u.heap.size u w') from by
    have k := run11 A c xs 1 4 4 u hu (by omega) (by omega) (by omega)
    rw [G_bits] at k
    exact k)
  have k1 := Lib.hid (fun gl u hu hg => show Calls Tryd.prog 59 #[.slice A 8 c, .slice (some ⟨gl, 0, none⟩) 4 4] u (fun e w' => e = .returned (.int .i64 (Et.bits xs [5, 6, 7, 11])) ∧ Below u.heap.size u w') from pick11 A c xs gl 4 4 [5, 6, 7, 11] u hu hg rfl (by omega) (by decide))
  have k2 := Lib.hid (fun gl u hu hg => show Calls Tryd.prog 59 #[.slice A 8 c, .slice (some ⟨gl, 0, none⟩) 4 4] u (fun e w' => e = .returned (.int .i64 (Et.bits xs [12, 14, 15, 16])) ∧ Below u.heap.size u w') from pick11 A c xs gl 4 4 [12, 14, 15, 16] u hu hg rfl (by omega) (by decide))
  have k3 := Lib.hid (fun u hu => show Calls Tryd.prog 41 #[.slice A 8 c, .int .i64 17, .int .i64 20] u (fun e w' => e = .returned (.int .i64 (Et.bits xs [17, 18, 19, 20])) ∧ Below u.heap.size u w') from by
    have k := run11 A c xs 17 20 4 u hu (by omega) (by omega) (by omega)
    rw [G_bits] at k
    exact k)
  have k4 := Lib.hid (fun u hu => show Calls Tryd.prog 41 #[.slice A 8 c, .int .i64 21, .int .i64 24] u (fun e w' => e = .returned (.int .i64 (Et.bits xs [21, 22, 23, 24])) ∧ Below u.heap.size u w') from by
    have k := run11 A c xs 21 24 4 u hu (by omega) (by omega) (by omega)
    rw [G_bits] at k
    exact k)
  have k5 := Lib.hid (fun u hu => show Calls Tryd.prog 41 #[.slice A 8 c, .int .i64 25, .int .i64 28] u (fun e w' => e = .returned (.int .i64 (Et.bits xs [25, 26, 27, 28])) ∧ Below u.heap.size u w') from by
    have k := run11 A c xs 25 28 4 u hu (by omega) (by omega) (by omega)
    rw [G_bits] at k
    exact k)
  have k6 := Lib.hid (fun gl u hu hg => show Calls Tryd.prog 59 #[.slice A 8 c, .slice (some ⟨gl, 0, none⟩) 2 2] u (fun e w' => e = .returned (.int .i64 (Et.bits xs [29, 31])) ∧ Below u.heap.size u w') from pick11 A c xs gl 2 2 [29, 31] u hu hg rfl (by omega) (by decide))
  have kA := Lib.hid (fun u => col11 (Et.bits xs [1, 2, 3, 4]) (Et.bits xs [5, 6, 7, 11]) (Et.bits xs [12, 14, 15, 16]) u)
  have kB := Lib.hid (fun u => col11 (Et.bits xs [17, 18, 19, 20]) (Et.bits xs [21, 22, 23, 24]) (Et.bits xs [25, 26, 27, 28]) u)
  have bkN0 := Et.bits_bd xs [1, 2, 3, 4]
  have bkN1 := Et.bits_bd xs [5, 6, 7, 11]
  have bkN2 := Et.bits_bd xs [12, 14, 15, 16]
  have kN := Lib.hid (fun u => number11 (Et.bits xs [1, 2, 3, 4]) (Et.bits xs [5, 6, 7, 11]) (Et.bits xs [12, 14, 15, 16]) u bkN0 bkN1 bkN2)
  have bkO0 := Et.bits_bd xs [17, 18, 19, 20]
  have bkO1 := Et.bits_bd xs [21, 22, 23, 24]
  have bkO2 := Et.bits_bd xs [25, 26, 27, 28]
  have kO := Lib.hid (fun u => number11 (Et.bits xs [17, 18, 19, 20]) (Et.bits xs [21, 22, 23, 24]) (Et.bits xs [25, 26, 27, 28]) u bkO0 bkO1 bkO2)
  have bn := Et.bits_bd xs [29, 31]
  have hHD : hD xs = disV (2 * Et.bits xs [29, 31] + (if 256 * (Et.bits xs [17, 18, 19, 20]) + 16 * (Et.bits xs [21, 22, 23, 24]) + (Et.bits xs [25, 26, 27, 28]) ≤ 256 * (Et.bits xs [1, 2, 3, 4]) + 16 * (Et.bits xs [5, 6, 7, 11]) + (Et.bits xs [12, 14, 15, 16]) then 1 else 0)) := rfl
  have hFR : frH xs = addV (col4 (Et.bits xs [1, 2, 3, 4]) (Et.bits xs [5, 6, 7, 11]) (Et.bits xs [12, 14, 15, 16])) (hD xs) ++ addV (col4 (Et.bits xs [1, 2, 3, 4]) (Et.bits xs [5, 6, 7, 11]) (Et.bits xs [12, 14, 15, 16])) (-hD xs) ++ addV (col4 (Et.bits xs [17, 18, 19, 20]) (Et.bits xs [21, 22, 23, 24]) (Et.bits xs [25, 26, 27, 28])) (hD xs) ++ addV (col4 (Et.bits xs [17, 18, 19, 20]) (Et.bits xs [21, 22, 23, 24]) (Et.bits xs [25, 26, 27, 28])) (-hD xs) := rfl
  rw [hFR]
  have hdb : 3 ≤ hD xs ∧ hD xs ≤ 64 := disV_bd _
  generalize hD xs = dv at *
  generalize Et.bits xs [1, 2, 3, 4] = x0 at *
  generalize Et.bits xs [5, 6, 7, 11] = x1 at *
  generalize Et.bits xs [12, 14, 15, 16] = x2 at *
  generalize Et.bits xs [17, 18, 19, 20] = y0 at *
  generalize Et.bits xs [21, 22, 23, 24] = y1 at *
  generalize Et.bits xs [25, 26, 27, 28] = y2 at *
  generalize Et.bits xs [29, 31] = nv at *
  have kAp := Lib.hid (fun u => add_any (col4 x0 x1 x2) dv u rfl (col4_bd _ _ _) (by omega))
  have kAm := Lib.hid (fun u => add_any (col4 x0 x1 x2) (-dv) u rfl (col4_bd _ _ _) (by omega))
  have kBp := Lib.hid (fun u => add_any (col4 y0 y1 y2) dv u rfl (col4_bd _ _ _) (by omega))
  have kBm := Lib.hid (fun u => add_any (col4 y0 y1 y2) (-dv) u rfl (col4_bd _ _ _) (by omega))
  have hBt := fun u => built_frH11 xs (col4 x0 x1 x2) (col4 y0 y1 y2) dv u
  have hneg := Lib.hid (show IntKind.i64.wrap (-dv) = -dv from by rw [IntKind.wrap_i64]; omega)
  have hfl : Hid ((addV (col4 x0 x1 x2) dv ++ addV (col4 x0 x1 x2) (-dv) ++ addV (col4 y0 y1 y2) dv ++ addV (col4 y0 y1 y2) (-dv)).length = 16) := rfl
  have hsz_int : (Tryd.prog.info? 3).map (·.size) = some 1 := by kernel_rfl
  have hz_int : ((Tryd.prog.info? 3).bind (·.zero)).isSome = true := by kernel_rfl
  generalize (addV (col4 x0 x1 x2) dv ++ addV (col4 x0 x1 x2) (-dv) ++ addV (col4 y0 y1 y2) dv ++ addV (col4 y0 y1 y2) (-dv)) = FR at *
  generalize addV (col4 x0 x1 x2) dv = ap at *
  generalize addV (col4 x0 x1 x2) (-dv) = am at *
  generalize addV (col4 y0 y1 y2) dv = bp at *
  generalize addV (col4 y0 y1 y2) (-dv) = bm at *
  generalize col4 x0 x1 x2 = aV at *
  generalize col4 y0 y1 y2 = bV at *
  have hn2 : 0 ≤ nv ∧ nv < 4 := bn
  clear h hdb bkN0 bkN1 bkN2 bkO0 bkO1 bkO2 bn hFR
  obtain ⟨lv, hlv⟩ : ∃ z, 256 * x0 + 16 * x1 + x2 = z := ⟨_, rfl⟩
  obtain ⟨mv, hmv⟩ : ∃ z, 256 * y0 + 16 * y1 + y2 = z := ⟨_, rfl⟩
  rw [hlv] at kN
  rw [hmv] at kO
  rw [hlv, hmv] at hHD
  clear hlv hmv
  by_cases hq : mv ≤ lv
  · rw [if_pos hq] at hHD
    have kD := Lib.hid (fun u => show Calls Tryd.prog 13 #[.int .i64 (2 * nv + 1)] u (fun e w' => e = .returned (.int .i64 dv) ∧ Below u.heap.size u w') from by rw [hHD]; exact rdist11 _ u)
    have hge : decide (lv ≥ mv) = true := decide_eq_true hq
    clear hHD
    go_enter Tryd.func31, Tryd.ntmps31
    go_wp2_with (first
      | ((with_reducible refine kn_buildi E.out rfl rfl [5, 6, 7, 11] Tryd.underlying73 hsz_int hz_int ?_ ?_ ?_ ?_ ?_); (focus (rfl)); (focus (omega)); (focus (omega)); (focus (rfl)); clear E; intro gl1 u E0 hg; have E := Lib.hid (E0.rest gl1); clear E0 hg)
      | ((with_reducible refine kn_buildi E.out rfl rfl [12, 14, 15, 16] Tryd.underlying73 hsz_int hz_int ?_ ?_ ?_ ?_ ?_); (focus (rfl)); (focus (omega)); (focus (omega)); (focus (rfl)); clear E; intro gl2 u E0 hg; have E := Lib.hid (E0.rest gl2); clear E0 hg)
      | ((with_reducible refine kn_buildi E.out rfl rfl [29, 31] Tryd.underlying73 hsz_int hz_int ?_ ?_ ?_ ?_ ?_); (focus (rfl)); (focus (omega)); (focus (omega)); (focus (rfl)); clear E; intro gl3 u E0 hg; have E := Lib.hid (E0.rest gl3); clear E0 hg)
      | (go_at_call 59; (with_reducible refine (k1.out _ _ ?ha ?hb).mono ?_); (case ha => exact E.out.bs (by simp)); (case hb => exact E.out.see); clear k1; rintro e w2 ⟨rfl, hb⟩; have E1 := Lib.hid (E.out.later hb); clear hb E; have E := E1; clear E1)
      | (go_at_call 59; (with_reducible refine (k2.out _ _ ?ha ?hb).mono ?_); (case ha => exact E.out.bs (by simp)); (case hb => exact E.out.see); clear k2; rintro e w2 ⟨rfl, hb⟩; have E1 := Lib.hid (E.out.later hb); clear hb E; have E := E1; clear E1)
      | (go_at_call 59; (with_reducible refine (k6.out _ _ ?ha ?hb).mono ?_); (case ha => exact E.out.bs (by simp)); (case hb => exact E.out.see); clear k6; rintro e w2 ⟨rfl, hb⟩; have E1 := Lib.hid (E.out.later hb); clear hb E; have E := E1; clear E1)
      | (go_at_call 41; (with_reducible refine (k0.out _ ?ha).mono ?_); (case ha => exact E.out.bs (by simp)); clear k0; rintro e w2 ⟨rfl, hb⟩; have E1 := Lib.hid (E.out.later hb); clear hb E; have E := E1; clear E1)
      | (go_at_call 41; (with_reducible refine (k3.out _ ?ha).mono ?_); (case ha => exact E.out.bs (by simp)); clear k3; rintro e w2 ⟨rfl, hb⟩; have E1 := Lib.hid (E.out.later hb); clear hb E; have E := E1; clear E1)
      | (go_at_call 41; (with_reducible refine (k4.out _ ?ha).mono ?_); (case ha => exact E.out.bs (by simp)); clear k4; rintro e w2 ⟨rfl, hb⟩; have E1 := Lib.hid (E.out.later hb); clear hb E; have E := E1; clear E1)
      | (go_at_call 41; (with_reducible refine (k5.out _ ?ha).mono ?_); (case ha => exact E.out.bs (by simp)); clear k5; rintro e w2 ⟨rfl, hb⟩; have E1 := Lib.hid (E.out.later hb); clear hb E; have E := E1; clear E1)
      | ((with_reducible refine kn_stores (g := g8) (vs := i64s [x0, x1, x2]) E.out rfl rfl rfl rfl ?hy ?hl ?h1 ?_); (case hy => rfl); (case hl => exact ⟨rfl, rfl⟩); (case h1 => exact i64s_one _); clear E; intro u E0; have E := Lib.hid E0; clear E0)
      | ((with_reducible refine kn_stores (g := g9) (vs := i64s [y0, y1, y2]) E.out rfl rfl rfl rfl ?hy ?hl ?h1 ?_); (case hy => rfl); (case hl => exact ⟨rfl, rfl⟩); (case h1 => exact i64s_one _); clear E; intro u E0; have E := Lib.hid E0; clear E0)
      | ((with_reducible refine kn_load E.out rfl rfl rfl rfl ?_)) | ((with_reducible refine kn_load_if E.out rfl rfl rfl rfl ?_)) | ((with_reducible refine kn_loads E.out rfl rfl rfl ?_ ?_); (focus (first | rfl | (simp only [i64s_length, u8s_length]; first | rfl | assumption | omega)))) | ((with_reducible refine kn_loads_if E.out rfl rfl rfl ?_ ?_); (focus (first | rfl | (simp only [i64s_length, u8s_length]; first | rfl | assumption | omega)))) | ((with_reducible refine kn_stores E.out rfl rfl rfl rfl rfl ?_ ?_ ?_); (focus (first | exact ⟨rfl, rfl⟩ | (simp only [i64s_length, u8s_length]; refine ⟨?_, ?_⟩ <;> first | rfl | assumption | omega))); (focus (first | exact i64s_one _ | exact u8s_one _ | simp [Value.oneCell'])); clear E; intro u E0; have E := Lib.hid E0; clear E0) | ((with_reducible refine kn_alloc (o := ⟨some 4, _, _, _, _, _⟩) E.out rfl rfl ?_); clear E; intro g4 u E0 hb0; have E := Lib.hid E0; clear E0 hb0) | ((with_reducible refine kn_box (o := ⟨some 4, _, _, _, _, _⟩) E.out rfl rfl rfl ?_); clear E; intro g4 u E0 hb0; have E := Lib.hid E0; clear E0 hb0) | ((with_reducible refine kn_box_int (o := ⟨some 4, _, _, _, _, _⟩) E.out rfl rfl rfl ?_); clear E; intro g4 u E0 hb0; have E := Lib.hid E0; clear E0 hb0) | ((with_reducible refine kn_box_slice (o := ⟨some 4, _, _, _, _, _⟩) E.out rfl rfl rfl ?_); clear E; intro g4 u E0 hb0; have E := Lib.hid E0; clear E0 hb0) | ((with_reducible refine kn_box_bool (o := ⟨some 4, _, _, _, _, _⟩) E.out rfl rfl rfl ?_); clear E; intro g4 u E0 hb0; have E := Lib.hid E0; clear E0 hb0) | ((with_reducible refine kn_box_func (o := ⟨some 4, _, _, _, _, _⟩) E.out rfl rfl rfl ?_); clear E; intro g4 u E0 hb0; have E := Lib.hid E0; clear E0 hb0) | ((with_reducible refine kn_alloc (o := ⟨some 8, _, _, _, _, _⟩) E.out rfl rfl ?_); clear E; intro g8 u E0 hb0; have E := Lib.hid E0; clear E0 hb0) | ((with_reducible refine kn_box (o := ⟨some 8, _, _, _, _, _⟩) E.out rfl rfl rfl ?_); clear E; intro g8 u E0 hb0; have E := Lib.hid E0; clear E0 hb0) | ((with_reducible refine kn_box_int (o := ⟨some 8, _, _, _, _, _⟩) E.out rfl rfl rfl ?_); clear E; intro g8 u E0 hb0; have E := Lib.hid E0; clear E0 hb0) | ((with_reducible refine kn_box_slice (o := ⟨some 8, _, _, _, _, _⟩) E.out rfl rfl rfl ?_); clear E; intro g8 u E0 hb0; have E := Lib.hid E0; clear E0 hb0) | ((with_reducible refine kn_box_bool (o := ⟨some 8, _, _, _, _, _⟩) E.out rfl rfl rfl ?_); clear E; intro g8 u E0 hb0; have E := Lib.hid E0; clear E0 hb0) | ((with_reducible refine kn_box_func (o := ⟨some 8, _, _, _, _, _⟩) E.out rfl rfl rfl ?_); clear E; intro g8 u E0 hb0; have E := Lib.hid E0; clear E0 hb0) | ((with_reducible refine kn_alloc (o := ⟨some 9, _, _, _, _, _⟩) E.out rfl rfl ?_); clear E; intro g9 u E0 hb0; have E := Lib.hid E0; clear E0 hb0) | ((with_reducible refine kn_box (o := ⟨some 9, _, _, _, _, _⟩) E.out rfl rfl rfl ?_); clear E; intro g9 u E0 hb0; have E := Lib.hid E0; clear E0 hb0) | ((with_reducible refine kn_box_int (o := ⟨some 9, _, _, _, _, _⟩) E.out rfl rfl rfl ?_); clear E; intro g9 u E0 hb0; have E := Lib.hid E0; clear E0 hb0) | ((with_reducible refine kn_box_slice (o := ⟨some 9, _, _, _, _, _⟩) E.out rfl rfl rfl ?_); clear E; intro g9 u E0 hb0; have E := Lib.hid E0; clear E0 hb0) | ((with_reducible refine kn_box_bool (o := ⟨some 9, _, _, _, _, _⟩) E.out rfl rfl rfl ?_); clear E; intro g9 u E0 hb0; have E := Lib.hid E0; clear E0 hb0) | ((with_reducible refine kn_box_func (o := ⟨some 9, _, _, _, _, _⟩) E.out rfl rfl rfl ?_); clear E; intro g9 u E0 hb0; have E := Lib.hid E0; clear E0 hb0))
    refine wp_region_held_drew (S := Kn w [.row g9 34 (i64s [y0, y1, y2]), .row g8 34 (i64s [x0, x1, x2])] []) (by kernel_rfl) (E.out.drew.part _ _ (by repeat (first | exact List.Sublist.refl _ | apply List.Sublist.cons_cons | apply List.Sublist.cons)) (by simp)) (fun kS => ?_)
    have E1 := Lib.hid E.out.drew
    generalize World.drew _ = u1 at kS E1 ⊢
    clear E
    have E := E1
    clear E1
    (refine takeL (i := 0) (v := _) rfl (by kernel_rfl) (by kernel_rfl) (by kernel_rfl) (fun _ _ _ h => h) (by first | exact yield_load rfl rfl rfl rfl | exact yield_loads rfl rfl rfl rfl | exact yield_loads rfl rfl rfl (by simp only [i64s_length, u8s_length]; first | assumption | omega) | exact yield_loadi rfl rfl rfl (by first | assumption | omega) | exact yield_loadp rfl rfl rfl (by first | assumption | omega)) kS ?_; (try simp only [Act.put, List.setIfInBounds_toArray, List.set_cons_zero, List.set_cons_succ])); (refine takeL (i := 2) (v := _) rfl (by kernel_rfl) (by kernel_rfl) (by kernel_rfl) (fun _ _ _ h => h) (by first | exact yield_load rfl rfl rfl rfl | exact yield_loads rfl rfl rfl rfl | exact yield_loads rfl rfl rfl (by simp only [i64s_length, u8s_length]; first | assumption | omega) | exact yield_loadi rfl rfl rfl (by first | assumption | omega) | exact yield_loadp rfl rfl rfl (by first | assumption | omega)) kS ?_; (try simp only [Act.put, List.setIfInBounds_toArray, List.set_cons_zero, List.set_cons_succ]))
    refine callL (i := 1) rfl (by kernel_rfl) (fun K hK => ?_)
    (rw [if_pos (by rfl)]; go_simp; (with_reducible refine (kN.out _).mono ?_); rintro e' w1 ⟨rfl, hb⟩; have E1 := Lib.hid (E.out.later hb); clear hb E; have E := E1; clear E1; go_wp2_with fail; (refine hK.out _ _ (E.out.part _ _ (by repeat (first | exact List.Sublist.refl _ | apply List.Sublist.cons_cons | apply List.Sublist.cons)) (by simp)) (fun kS => ?_); clear hK K; (try simp only [Act.put, List.setIfInBounds_toArray, List.set_cons_zero, List.set_cons_succ])))
    refine callL (i := 3) rfl (by kernel_rfl) (fun K hK => ?_)
    (rw [if_pos (by rfl)]; go_simp; (with_reducible refine (kO.out _).mono ?_); rintro e' w1 ⟨rfl, hb⟩; have E1 := Lib.hid (E.out.later hb); clear hb E; have E := E1; clear E1; go_wp2_with fail; (refine hK.out _ _ (E.out.part _ _ (by repeat (first | exact List.Sublist.refl _ | apply List.Sublist.cons_cons | apply List.Sublist.cons)) (by simp)) (fun kS => ?_); clear hK K; (try simp only [Act.put, List.setIfInBounds_toArray, List.set_cons_zero, List.set_cons_succ])))
    (refine takeL (i := 4) (v := _) rfl (by kernel_rfl) (by kernel_rfl) (by kernel_rfl) (fun _ _ _ h => h) (by first | exact Or.inl ⟨by rfl, (by intro u hSu; clear hSu; go_simp; try with_reducible rfl)⟩ | exact Or.inr ⟨by rfl, rfl⟩) kS ?_; (try simp only [Act.put, List.setIfInBounds_toArray, List.set_cons_zero, List.set_cons_succ]))
    refine wpAnyH_done (by kernel_rfl) ?_ _
    go_wp2_with (first
      | (go_at_call 13; (with_reducible refine (kD.out _).mono ?_); clear kD; rintro e w2 ⟨rfl, hb⟩; have E1 := Lib.hid (E.out.later hb); clear hb E; have E := E1; clear E1)
      | ((with_reducible refine kn_load E.out rfl rfl rfl rfl ?_)) | ((with_reducible refine kn_load_if E.out rfl rfl rfl rfl ?_)) | ((with_reducible refine kn_loads E.out rfl rfl rfl ?_ ?_); (focus (first | rfl | (simp only [i64s_length, u8s_length]; first | rfl | assumption | omega)))) | ((with_reducible refine kn_loads_if E.out rfl rfl rfl ?_ ?_); (focus (first | rfl | (simp only [i64s_length, u8s_length]; first | rfl | assumption | omega)))) | ((with_reducible refine kn_stores E.out rfl rfl rfl rfl rfl ?_ ?_ ?_); (focus (first | exact ⟨rfl, rfl⟩ | (simp only [i64s_length, u8s_length]; refine ⟨?_, ?_⟩ <;> first | rfl | assumption | omega))); (focus (first | exact i64s_one _ | exact u8s_one _ | simp [Value.oneCell'])); clear E; intro u E0; have E := Lib.hid E0; clear E0))
    refine wp_region_held_drew (S := Kn w [.row g9 34 (i64s [y0, y1, y2]), .row g8 34 (i64s [x0, x1, x2])] []) (by kernel_rfl) (E.out.drew.part _ _ (by repeat (first | exact List.Sublist.refl _ | apply List.Sublist.cons_cons | apply List.Sublist.cons)) (by simp)) (fun kS => ?_)
    have E1 := Lib.hid E.out.drew
    generalize World.drew _ = u1 at kS E1 ⊢
    clear E
    have E := E1
    clear E1
    (refine takeL (i := 0) (v := _) rfl (by kernel_rfl) (by kernel_rfl) (by kernel_rfl) (fun _ _ _ h => h) (by first | exact yield_load rfl rfl rfl rfl | exact yield_loads rfl rfl rfl rfl | exact yield_loads rfl rfl rfl (by simp only [i64s_length, u8s_length]; first | assumption | omega) | exact yield_loadi rfl rfl rfl (by first | assumption | omega) | exact yield_loadp rfl rfl rfl (by first | assumption | omega)) kS ?_; (try simp only [Act.put, List.setIfInBounds_toArray, List.set_cons_zero, List.set_cons_succ]))
    (refine takeL (i := 2) (v := _) rfl (by kernel_rfl) (by kernel_rfl) (by kernel_rfl) (fun _ _ _ h => h) (by first | exact Or.inl ⟨by rfl, (by intro u hSu; clear hSu; go_simp; try with_reducible rfl)⟩ | exact Or.inr ⟨by rfl, rfl⟩) kS ?_; (try simp only [Act.put, List.setIfInBounds_toArray, List.set_cons_zero, List.set_cons_succ]))
    (refine takeL (i := 4) (v := _) rfl (by kernel_rfl) (by kernel_rfl) (by kernel_rfl) (fun _ _ _ h => h) (by first | exact yield_load rfl rfl rfl rfl | exact yield_loads rfl rfl rfl rfl | exact yield_loads rfl rfl rfl (by simp only [i64s_length, u8s_length]; first | assumption | omega) | exact yield_loadi rfl rfl rfl (by first | assumption | omega) | exact yield_loadp rfl rfl rfl (by first | assumption | omega)) kS ?_; (try simp only [Act.put, List.setIfInBounds_toArray, List.set_cons_zero, List.set_cons_succ]))
    (refine takeL (i := 6) (v := _) rfl (by kernel_rfl) (by kernel_rfl) (by kernel_rfl) (fun _ _ _ h => h) (by first | exact Or.inl ⟨by rfl, (by intro u hSu; clear hSu; go_simp; try with_reducible rfl)⟩ | exact Or.inr ⟨by rfl, rfl⟩) kS ?_; (try simp only [Act.put, List.setIfInBounds_toArray, List.set_cons_zero, List.set_cons_succ])); (refine takeL (i := 7) (v := _) rfl (by kernel_rfl) (by kernel_rfl) (by kernel_rfl) (fun _ _ _ h => h) (by first | exact Or.inl ⟨by rfl, (by intro u hSu; clear hSu; go_simp; try with_reducible rfl)⟩ | exact Or.inr ⟨by rfl, rfl⟩) kS ?_; (try simp only [Act.put, List.setIfInBounds_toArray, List.set_cons_zero, List.set_cons_succ]))
    (refine takeL (i := 9) (v := _) rfl (by kernel_rfl) (by kernel_rfl) (by kernel_rfl) (fun _ _ _ h => h) (by first | exact yield_load rfl rfl rfl rfl | exact yield_loads rfl rfl rfl rfl | exact yield_loads rfl rfl rfl (by simp only [i64s_length, u8s_length]; first | assumption | omega) | exact yield_loadi rfl rfl rfl (by first | assumption | omega) | exact yield_loadp rfl rfl rfl (by first | assumption | omega)) kS ?_; (try simp only [Act.put, List.setIfInBounds_toArray, List.set_cons_zero, List.set_cons_succ]))
    (refine takeL (i := 11) (v := _) rfl (by kernel_rfl) (by kernel_rfl) (by kernel_rfl) (fun _ _ _ h => h) (by first | exact Or.inl ⟨by rfl, (by intro u hSu; clear hSu; go_simp; try with_reducible rfl)⟩ | exact Or.inr ⟨by rfl, rfl⟩) kS ?_; (try simp only [Act.put, List.setIfInBounds_toArray, List.set_cons_zero, List.set_cons_succ]))
    (refine takeL (i := 13) (v := _) rfl (by kernel_rfl) (by kernel_rfl) (by kernel_rfl) (fun _ _ _ h => h) (by first | exact yield_load rfl rfl rfl rfl | exact yield_loads rfl rfl rfl rfl | exact yield_loads rfl rfl rfl (by simp only [i64s_length, u8s_length]; first | assumption | omega) | exact yield_loadi rfl rfl rfl (by first | assumption | omega) | exact yield_loadp rfl rfl rfl (by first | assumption | omega)) kS ?_; (try simp only [Act.put, List.setIfInBounds_toArray, List.set_cons_zero, List.set_cons_succ]))
    (refine takeL (i := 15) (v := _) rfl (by kernel_rfl) (by kernel_rfl) (by kernel_rfl) (fun _ _ _ h => h) (by first | exact Or.inl ⟨by rfl, (by intro u hSu; clear hSu; go_simp; try with_reducible rfl)⟩ | exact Or.inr ⟨by rfl, rfl⟩) kS ?_; (try simp only [Act.put, List.setIfInBounds_toArray, List.set_cons_zero, List.set_cons_succ])); (refine takeL (i := 16) (v := _) rfl (by kernel_rfl) (by kernel_rfl) (by kernel_rfl) (fun _ _ _ h => h) (by first | exact Or.inl ⟨by rfl, (by intro u hSu; clear hSu; go_simp; try with_reducible rfl)⟩ | exact Or.inr ⟨by rfl, rfl⟩) kS ?_; (try simp only [Act.put, List.setIfInBounds_toArray, List.set_cons_zero, List.set_cons_succ]))
    try rw [hneg.out]
    refine callL (i := 1) rfl (by kernel_rfl) (fun K hK => ?_)
    (rw [if_pos (by rfl)]; go_simp; (with_reducible refine (kA.out _).mono ?_); rintro e' w1 ⟨rfl, hb⟩; have E1 := Lib.hid (E.out.later hb); clear hb E; have E := E1; clear E1; go_wp2_with fail; (refine hK.out _ _ (E.out.part _ _ (by repeat (first | exact List.Sublist.refl _ | apply List.Sublist.cons_cons | apply List.Sublist.cons)) (by simp)) (fun kS => ?_); clear hK K; (try simp only [Act.put, List.setIfInBounds_toArray, List.set_cons_zero, List.set_cons_succ])))
    refine callL (i := 3) rfl (by kernel_rfl) (fun K hK => ?_)
    (rw [if_pos (by rfl)]; go_simp; (with_reducible refine (kAp.out _).mono ?_); rintro e' w1 ⟨rfl, hb⟩; have E1 := Lib.hid (E.out.later hb); clear hb E; have E := E1; clear E1; go_wp2_with fail; (refine hK.out _ _ (E.out.part _ _ (by repeat (first | exact List.Sublist.refl _ | apply List.Sublist.cons_cons | apply List.Sublist.cons)) (by simp)) (fun kS => ?_); clear hK K; (try simp only [Act.put, List.setIfInBounds_toArray, List.set_cons_zero, List.set_cons_succ])))
    refine callL (i := 5) rfl (by kernel_rfl) (fun K hK => ?_)
    (rw [if_pos (by rfl)]; go_simp; (with_reducible refine (kA.out _).mono ?_); rintro e' w1 ⟨rfl, hb⟩; have E1 := Lib.hid (E.out.later hb); clear hb E; have E := E1; clear E1; go_wp2_with fail; (refine hK.out _ _ (E.out.part _ _ (by repeat (first | exact List.Sublist.refl _ | apply List.Sublist.cons_cons | apply List.Sublist.cons)) (by simp)) (fun kS => ?_); clear hK K; (try simp only [Act.put, List.setIfInBounds_toArray, List.set_cons_zero, List.set_cons_succ])))
    refine callL (i := 8) rfl (by kernel_rfl) (fun K hK => ?_)
    (rw [if_pos (by rfl)]; go_simp; (with_reducible refine (kAm.out _).mono ?_); rintro e' w1 ⟨rfl, hb⟩; have E1 := Lib.hid (E.out.later hb); clear hb E; have E := E1; clear E1; go_wp2_with fail; (refine hK.out _ _ (E.out.part _ _ (by repeat (first | exact List.Sublist.refl _ | apply List.Sublist.cons_cons | apply List.Sublist.cons)) (by simp)) (fun kS => ?_); clear hK K; (try simp only [Act.put, List.setIfInBounds_toArray, List.set_cons_zero, List.set_cons_succ])))
    refine callL (i := 10) rfl (by kernel_rfl) (fun K hK => ?_)
    (rw [if_pos (by rfl)]; go_simp; (with_reducible refine (kB.out _).mono ?_); rintro e' w1 ⟨rfl, hb⟩; have E1 := Lib.hid (E.out.later hb); clear hb E; have E := E1; clear E1; go_wp2_with fail; (refine hK.out _ _ (E.out.part _ _ (by repeat (first | exact List.Sublist.refl _ | apply List.Sublist.cons_cons | apply List.Sublist.cons)) (by simp)) (fun kS => ?_); clear hK K; (try simp only [Act.put, List.setIfInBounds_toArray, List.set_cons_zero, List.set_cons_succ])))
    refine callL (i := 12) rfl (by kernel_rfl) (fun K hK => ?_)
    (rw [if_pos (by rfl)]; go_simp; (with_reducible refine (kBp.out _).mono ?_); rintro e' w1 ⟨rfl, hb⟩; have E1 := Lib.hid (E.out.later hb); clear hb E; have E := E1; clear E1; go_wp2_with fail; (refine hK.out _ _ (E.out.part _ _ (by repeat (first | exact List.Sublist.refl _ | apply List.Sublist.cons_cons | apply List.Sublist.cons)) (by simp)) (fun kS => ?_); clear hK K; (try simp only [Act.put, List.setIfInBounds_toArray, List.set_cons_zero, List.set_cons_succ])))
    refine callL (i := 14) rfl (by kernel_rfl) (fun K hK => ?_)
    (rw [if_pos (by rfl)]; go_simp; (with_reducible refine (kB.out _).mono ?_); rintro e' w1 ⟨rfl, hb⟩; have E1 := Lib.hid (E.out.later hb); clear hb E; have E := E1; clear E1; go_wp2_with fail; (refine hK.out _ _ (E.out.part _ _ (by repeat (first | exact List.Sublist.refl _ | apply List.Sublist.cons_cons | apply List.Sublist.cons)) (by simp)) (fun kS => ?_); clear hK K; (try simp only [Act.put, List.setIfInBounds_toArray, List.set_cons_zero, List.set_cons_succ])))
    refine callL (i := 17) rfl (by kernel_rfl) (fun K hK => ?_)
    (rw [if_pos (by rfl)]; go_simp; (with_reducible refine (kBm.out _).mono ?_); rintro e' w1 ⟨rfl, hb⟩; have E1 := Lib.hid (E.out.later hb); clear hb E; have E := E1; clear E1; go_wp2_with fail; (refine hK.out _ _ (E.out.part _ _ (by repeat (first | exact List.Sublist.refl _ | apply List.Sublist.cons_cons | apply List.Sublist.cons)) (by simp)) (fun kS => ?_); clear hK K; (try simp only [Act.put, List.setIfInBounds_toArray, List.set_cons_zero, List.set_cons_succ])))
    (refine takeL (i := 18) (v := arr FR) rfl (by kernel_rfl) (by kernel_rfl) (by kernel_rfl) (fun _ _ _ h => h) (yield_build4 rfl rfl hBt (by simp only [List.map_toArray, List.map_cons, List.map_nil]; rfl)) kS ?_; (try simp only [Act.put, List.setIfInBounds_toArray, List.set_cons_zero, List.set_cons_succ]))
    refine callL (i := 19) rfl (by kernel_rfl) (fun K hK => ?_)
    (rw [if_pos (by rfl)]; refine wp_kn_stores (g := g4) (vs := i64s FR) E.out rfl rfl rfl rfl ⟨rfl, by rw [i64s_length]; exact hfl.out⟩ (i64s_one _) ?_; clear E kS; intro u E0; have E := Lib.hid E0; clear E0; (refine hK.out _ _ (E.out.part _ _ (by repeat (first | exact List.Sublist.refl _ | apply List.Sublist.cons_cons | apply List.Sublist.cons)) (by simp)) (fun kS => ?_); clear hK K; (try simp only [Act.put, List.setIfInBounds_toArray, List.set_cons_zero, List.set_cons_succ])))
    refine wpAnyH_done (by kernel_rfl) ?_ _
    go_wp2_with fail
    refine bodyPost_ret (results_kn E.out rfl _ rfl (by rw [i64s_length]; exact hfl.out)) rfl ?_
    exact ⟨rfl, E.out.bel⟩
  · rw [if_neg hq] at hHD
    have kD := Lib.hid (fun u => show Calls Tryd.prog 13 #[.int .i64 (2 * nv)] u (fun e w' => e = .returned (.int .i64 dv) ∧ Below u.heap.size u w') from by rw [hHD, Int.add_zero]; exact rdist11 _ u)
    have hge : decide (lv ≥ mv) = false := decide_eq_false hq
    clear hHD
    go_enter Tryd.func31, Tryd.ntmps31
    go_wp2_with (first
      | ((with_reducible refine kn_buildi E.out rfl rfl [5, 6, 7, 11] Tryd.underlying73 hsz_int hz_int ?_ ?_ ?_ ?_ ?_); (focus (rfl)); (focus (omega)); (focus (omega)); (focus (rfl)); clear E; intro gl1 u E0 hg; have E := Lib.hid (E0.rest gl1); clear E0 hg)
      | ((with_reducible refine kn_buildi E.out rfl rfl [12, 14, 15, 16] Tryd.underlying73 hsz_int hz_int ?_ ?_ ?_ ?_ ?_); (focus (rfl)); (focus (omega)); (focus (omega)); (focus (rfl)); clear E; intro gl2 u E0 hg; have E := Lib.hid (E0.rest gl2); clear E0 hg)
      | ((with_reducible refine kn_buildi E.out rfl rfl [29, 31] Tryd.underlying73 hsz_int hz_int ?_ ?_ ?_ ?_ ?_); (focus (rfl)); (focus (omega)); (focus (omega)); (focus (rfl)); clear E; intro gl3 u E0 hg; have E := Lib.hid (E0.rest gl3); clear E0 hg)
      | (go_at_call 59; (with_reducible refine (k1.out _ _ ?ha ?hb).mono ?_); (case ha => exact E.out.bs (by simp)); (case hb => exact E.out.see); clear k1; rintro e w2 ⟨rfl, hb⟩; have E1 := Lib.hid (E.out.later hb); clear hb E; have E := E1; clear E1)
      | (go_at_call 59; (with_reducible refine (k2.out _ _ ?ha ?hb).mono ?_); (case ha => exact E.out.bs (by simp)); (case hb => exact E.out.see); clear k2; rintro e w2 ⟨rfl, hb⟩; have E1 := Lib.hid (E.out.later hb); clear hb E; have E := E1; clear E1)
      | (go_at_call 59; (with_reducible refine (k6.out _ _ ?ha ?hb).mono ?_); (case ha => exact E.out.bs (by simp)); (case hb => exact E.out.see); clear k6; rintro e w2 ⟨rfl, hb⟩; have E1 := Lib.hid (E.out.later hb); clear hb E; have E := E1; clear E1)
      | (go_at_call 41; (with_reducible refine (k0.out _ ?ha).mono ?_); (case ha => exact E.out.bs (by simp)); clear k0; rintro e w2 ⟨rfl, hb⟩; have E1 := Lib.hid (E.out.later hb); clear hb E; have E := E1; clear E1)
      | (go_at_call 41; (with_reducible refine (k3.out _ ?ha).mono ?_); (case ha => exact E.out.bs (by simp)); clear k3; rintro e w2 ⟨rfl, hb⟩; have E1 := Lib.hid (E.out.later hb); clear hb E; have E := E1; clear E1)
      | (go_at_call 41; (with_reducible refine (k4.out _ ?ha).mono ?_); (case ha => exact E.out.bs (by simp)); clear k4; rintro e w2 ⟨rfl, hb⟩; have E1 := Lib.hid (E.out.later hb); clear hb E; have E := E1; clear E1)
      | (go_at_call 41; (with_reducible refine (k5.out _ ?ha).mono ?_); (case ha => exact E.out.bs (by simp)); clear k5; rintro e w2 ⟨rfl, hb⟩; have E1 := Lib.hid (E.out.later hb); clear hb E; have E := E1; clear E1)
      | ((with_reducible refine kn_stores (g := g8) (vs := i64s [x0, x1, x2]) E.out rfl rfl rfl rfl ?hy ?hl ?h1 ?_); (case hy => rfl); (case hl => exact ⟨rfl, rfl⟩); (case h1 => exact i64s_one _); clear E; intro u E0; have E := Lib.hid E0; clear E0)
      | ((with_reducible refine kn_stores (g := g9) (vs := i64s [y0, y1, y2]) E.out rfl rfl rfl rfl ?hy ?hl ?h1 ?_); (case hy => rfl); (case hl => exact ⟨rfl, rfl⟩); (case h1 => exact i64s_one _); clear E; intro u E0; have E := Lib.hid E0; clear E0)
      | ((with_reducible refine kn_load E.out rfl rfl rfl rfl ?_)) | ((with_reducible refine kn_load_if E.out rfl rfl rfl rfl ?_)) | ((with_reducible refine kn_loads E.out rfl rfl rfl ?_ ?_); (focus (first | rfl | (simp only [i64s_length, u8s_length]; first | rfl | assumption | omega)))) | ((with_reducible refine kn_loads_if E.out rfl rfl rfl ?_ ?_); (focus (first | rfl | (simp only [i64s_length, u8s_length]; first | rfl | assumption | omega)))) | ((with_reducible refine kn_stores E.out rfl rfl rfl rfl rfl ?_ ?_ ?_); (focus (first | exact ⟨rfl, rfl⟩ | (simp only [i64s_length, u8s_length]; refine ⟨?_, ?_⟩ <;> first | rfl | assumption | omega))); (focus (first | exact i64s_one _ | exact u8s_one _ | simp [Value.oneCell'])); clear E; intro u E0; have E := Lib.hid E0; clear E0) | ((with_reducible refine kn_alloc (o := ⟨some 4, _, _, _, _, _⟩) E.out rfl rfl ?_); clear E; intro g4 u E0 hb0; have E := Lib.hid E0; clear E0 hb0) | ((with_reducible refine kn_box (o := ⟨some 4, _, _, _, _, _⟩) E.out rfl rfl rfl ?_); clear E; intro g4 u E0 hb0; have E := Lib.hid E0; clear E0 hb0) | ((with_reducible refine kn_box_int (o := ⟨some 4, _, _, _, _, _⟩) E.out rfl rfl rfl ?_); clear E; intro g4 u E0 hb0; have E := Lib.hid E0; clear E0 hb0) | ((with_reducible refine kn_box_slice (o := ⟨some 4, _, _, _, _, _⟩) E.out rfl rfl rfl ?_); clear E; intro g4 u E0 hb0; have E := Lib.hid E0; clear E0 hb0) | ((with_reducible refine kn_box_bool (o := ⟨some 4, _, _, _, _, _⟩) E.out rfl rfl rfl ?_); clear E; intro g4 u E0 hb0; have E := Lib.hid E0; clear E0 hb0) | ((with_reducible refine kn_box_func (o := ⟨some 4, _, _, _, _, _⟩) E.out rfl rfl rfl ?_); clear E; intro g4 u E0 hb0; have E := Lib.hid E0; clear E0 hb0) | ((with_reducible refine kn_alloc (o := ⟨some 8, _, _, _, _, _⟩) E.out rfl rfl ?_); clear E; intro g8 u E0 hb0; have E := Lib.hid E0; clear E0 hb0) | ((with_reducible refine kn_box (o := ⟨some 8, _, _, _, _, _⟩) E.out rfl rfl rfl ?_); clear E; intro g8 u E0 hb0; have E := Lib.hid E0; clear E0 hb0) | ((with_reducible refine kn_box_int (o := ⟨some 8, _, _, _, _, _⟩) E.out rfl rfl rfl ?_); clear E; intro g8 u E0 hb0; have E := Lib.hid E0; clear E0 hb0) | ((with_reducible refine kn_box_slice (o := ⟨some 8, _, _, _, _, _⟩) E.out rfl rfl rfl ?_); clear E; intro g8 u E0 hb0; have E := Lib.hid E0; clear E0 hb0) | ((with_reducible refine kn_box_bool (o := ⟨some 8, _, _, _, _, _⟩) E.out rfl rfl rfl ?_); clear E; intro g8 u E0 hb0; have E := Lib.hid E0; clear E0 hb0) | ((with_reducible refine kn_box_func (o := ⟨some 8, _, _, _, _, _⟩) E.out rfl rfl rfl ?_); clear E; intro g8 u E0 hb0; have E := Lib.hid E0; clear E0 hb0) | ((with_reducible refine kn_alloc (o := ⟨some 9, _, _, _, _, _⟩) E.out rfl rfl ?_); clear E; intro g9 u E0 hb0; have E := Lib.hid E0; clear E0 hb0) | ((with_reducible refine kn_box (o := ⟨some 9, _, _, _, _, _⟩) E.out rfl rfl rfl ?_); clear E; intro g9 u E0 hb0; have E := Lib.hid E0; clear E0 hb0) | ((with_reducible refine kn_box_int (o := ⟨some 9, _, _, _, _, _⟩) E.out rfl rfl rfl ?_); clear E; intro g9 u E0 hb0; have E := Lib.hid E0; clear E0 hb0) | ((with_reducible refine kn_box_slice (o := ⟨some 9, _, _, _, _, _⟩) E.out rfl rfl rfl ?_); clear E; intro g9 u E0 hb0; have E := Lib.hid E0; clear E0 hb0) | ((with_reducible refine kn_box_bool (o := ⟨some 9, _, _, _, _, _⟩) E.out rfl rfl rfl ?_); clear E; intro g9 u E0 hb0; have E := Lib.hid E0; clear E0 hb0) | ((with_reducible refine kn_box_func (o := ⟨some 9, _, _, _, _, _⟩) E.out rfl rfl rfl ?_); clear E; intro g9 u E0 hb0; have E := Lib.hid E0; clear E0 hb0))
    refine wp_region_held_drew (S := Kn w [.row g9 34 (i64s [y0, y1, y2]), .row g8 34 (i64s [x0, x1, x2])] []) (by kernel_rfl) (E.out.drew.part _ _ (by repeat (first | exact List.Sublist.refl _ | apply List.Sublist.cons_cons | apply List.Sublist.cons)) (by simp)) (fun kS => ?_)
    have E1 := Lib.hid E.out.drew
    generalize World.drew _ = u1 at kS E1 ⊢
    clear E
    have E := E1
    clear E1
    (refine takeL (i := 0) (v := _) rfl (by kernel_rfl) (by kernel_rfl) (by kernel_rfl) (fun _ _ _ h => h) (by first | exact yield_load rfl rfl rfl rfl | exact yield_loads rfl rfl rfl rfl | exact yield_loads rfl rfl rfl (by simp only [i64s_length, u8s_length]; first | assumption | omega) | exact yield_loadi rfl rfl rfl (by first | assumption | omega) | exact yield_loadp rfl rfl rfl (by first | assumption | omega)) kS ?_; (try simp only [Act.put, List.setIfInBounds_toArray, List.set_cons_zero, List.set_cons_succ])); (refine takeL (i := 2) (v := _) rfl (by kernel_rfl) (by kernel_rfl) (by kernel_rfl) (fun _ _ _ h => h) (by first | exact yield_load rfl rfl rfl rfl | exact yield_loads rfl rfl rfl rfl | exact yield_loads rfl rfl rfl (by simp only [i64s_length, u8s_length]; first | assumption | omega) | exact yield_loadi rfl rfl rfl (by first | assumption | omega) | exact yield_loadp rfl rfl rfl (by first | assumption | omega)) kS ?_; (try simp only [Act.put, List.setIfInBounds_toArray, List.set_cons_zero, List.set_cons_succ]))
    refine callL (i := 1) rfl (by kernel_rfl) (fun K hK => ?_)
    (rw [if_pos (by rfl)]; go_simp; (with_reducible refine (kN.out _).mono ?_); rintro e' w1 ⟨rfl, hb⟩; have E1 := Lib.hid (E.out.later hb); clear hb E; have E := E1; clear E1; go_wp2_with fail; (refine hK.out _ _ (E.out.part _ _ (by repeat (first | exact List.Sublist.refl _ | apply List.Sublist.cons_cons | apply List.Sublist.cons)) (by simp)) (fun kS => ?_); clear hK K; (try simp only [Act.put, List.setIfInBounds_toArray, List.set_cons_zero, List.set_cons_succ])))
    refine callL (i := 3) rfl (by kernel_rfl) (fun K hK => ?_)
    (rw [if_pos (by rfl)]; go_simp; (with_reducible refine (kO.out _).mono ?_); rintro e' w1 ⟨rfl, hb⟩; have E1 := Lib.hid (E.out.later hb); clear hb E; have E := E1; clear E1; go_wp2_with fail; (refine hK.out _ _ (E.out.part _ _ (by repeat (first | exact List.Sublist.refl _ | apply List.Sublist.cons_cons | apply List.Sublist.cons)) (by simp)) (fun kS => ?_); clear hK K; (try simp only [Act.put, List.setIfInBounds_toArray, List.set_cons_zero, List.set_cons_succ])))
    (refine takeL (i := 4) (v := _) rfl (by kernel_rfl) (by kernel_rfl) (by kernel_rfl) (fun _ _ _ h => h) (by first | exact Or.inl ⟨by rfl, (by intro u hSu; clear hSu; go_simp; try with_reducible rfl)⟩ | exact Or.inr ⟨by rfl, rfl⟩) kS ?_; (try simp only [Act.put, List.setIfInBounds_toArray, List.set_cons_zero, List.set_cons_succ]))
    refine wpAnyH_done (by kernel_rfl) ?_ _
    go_wp2_with (first
      | (go_at_call 13; (with_reducible refine (kD.out _).mono ?_); clear kD; rintro e w2 ⟨rfl, hb⟩; have E1 := Lib.hid (E.out.later hb); clear hb E; have E := E1; clear E1)
      | ((with_reducible refine kn_load E.out rfl rfl rfl rfl ?_)) | ((with_reducible refine kn_load_if E.out rfl rfl rfl rfl ?_)) | ((with_reducible refine kn_loads E.out rfl rfl rfl ?_ ?_); (focus (first | rfl | (simp only [i64s_length, u8s_length]; first | rfl | assumption | omega)))) | ((with_reducible refine kn_loads_if E.out rfl rfl rfl ?_ ?_); (focus (first | rfl | (simp only [i64s_length, u8s_length]; first | rfl | assumption | omega)))) | ((with_reducible refine kn_stores E.out rfl rfl rfl rfl rfl ?_ ?_ ?_); (focus (first | exact ⟨rfl, rfl⟩ | (simp only [i64s_length, u8s_length]; refine ⟨?_, ?_⟩ <;> first | rfl | assumption | omega))); (focus (first | exact i64s_one _ | exact u8s_one _ | simp [Value.oneCell'])); clear E; intro u E0; have E := Lib.hid E0; clear E0))
    refine wp_region_held_drew (S := Kn w [.row g9 34 (i64s [y0, y1, y2]), .row g8 34 (i64s [x0, x1, x2])] []) (by kernel_rfl) (E.out.drew.part _ _ (by repeat (first | exact List.Sublist.refl _ | apply List.Sublist.cons_cons | apply List.Sublist.cons)) (by simp)) (fun kS => ?_)
    have E1 := Lib.hid E.out.drew
    generalize World.drew _ = u1 at kS E1 ⊢
    clear E
    have E := E1
    clear E1
    (refine takeL (i := 0) (v := _) rfl (by kernel_rfl) (by kernel_rfl) (by kernel_rfl) (fun _ _ _ h => h) (by first | exact yield_load rfl rfl rfl rfl | exact yield_loads rfl rfl rfl rfl | exact yield_loads rfl rfl rfl (by simp only [i64s_length, u8s_length]; first | assumption | omega) | exact yield_loadi rfl rfl rfl (by first | assumption | omega) | exact yield_loadp rfl rfl rfl (by first | assumption | omega)) kS ?_; (try simp only [Act.put, List.setIfInBounds_toArray, List.set_cons_zero, List.set_cons_succ]))
    (refine takeL (i := 2) (v := _) rfl (by kernel_rfl) (by kernel_rfl) (by kernel_rfl) (fun _ _ _ h => h) (by first | exact Or.inl ⟨by rfl, (by intro u hSu; clear hSu; go_simp; try with_reducible rfl)⟩ | exact Or.inr ⟨by rfl, rfl⟩) kS ?_; (try simp only [Act.put, List.setIfInBounds_toArray, List.set_cons_zero, List.set_cons_succ]))
    (refine takeL (i := 4) (v := _) rfl (by kernel_rfl) (by kernel_rfl) (by kernel_rfl) (fun _ _ _ h => h) (by first | exact yield_load rfl rfl rfl rfl | exact yield_loads rfl rfl rfl rfl | exact yield_loads rfl rfl rfl (by simp only [i64s_length, u8s_length]; first | assumption | omega) | exact yield_loadi rfl rfl rfl (by first | assumption | omega) | exact yield_loadp rfl rfl rfl (by first | assumption | omega)) kS ?_; (try simp only [Act.put, List.setIfInBounds_toArray, List.set_cons_zero, List.set_cons_succ]))
    (refine takeL (i := 6) (v := _) rfl (by kernel_rfl) (by kernel_rfl) (by kernel_rfl) (fun _ _ _ h => h) (by first | exact Or.inl ⟨by rfl, (by intro u hSu; clear hSu; go_simp; try with_reducible rfl)⟩ | exact Or.inr ⟨by rfl, rfl⟩) kS ?_; (try simp only [Act.put, List.setIfInBounds_toArray, List.set_cons_zero, List.set_cons_succ])); (refine takeL (i := 7) (v := _) rfl (by kernel_rfl) (by kernel_rfl) (by kernel_rfl) (fun _ _ _ h => h) (by first | exact Or.inl ⟨by rfl, (by intro u hSu; clear hSu; go_simp; try with_reducible rfl)⟩ | exact Or.inr ⟨by rfl, rfl⟩) kS ?_; (try simp only [Act.put, List.setIfInBounds_toArray, List.set_cons_zero, List.set_cons_succ]))
    (refine takeL (i := 9) (v := _) rfl (by kernel_rfl) (by kernel_rfl) (by kernel_rfl) (fun _ _ _ h => h) (by first | exact yield_load rfl rfl rfl rfl | exact yield_loads rfl rfl rfl rfl | exact yield_loads rfl rfl rfl (by simp only [i64s_length, u8s_length]; first | assumption | omega) | exact yield_loadi rfl rfl rfl (by first | assumption | omega) | exact yield_loadp rfl rfl rfl (by first | assumption | omega)) kS ?_; (try simp only [Act.put, List.setIfInBounds_toArray, List.set_cons_zero, List.set_cons_succ]))
    (refine takeL (i := 11) (v := _) rfl (by kernel_rfl) (by kernel_rfl) (by kernel_rfl) (fun _ _ _ h => h) (by first | exact Or.inl ⟨by rfl, (by intro u hSu; clear hSu; go_simp; try with_reducible rfl)⟩ | exact Or.inr ⟨by rfl, rfl⟩) kS ?_; (try simp only [Act.put, List.setIfInBounds_toArray, List.set_cons_zero, List.set_cons_succ]))
    (refine takeL (i := 13) (v := _) rfl (by kernel_rfl) (by kernel_rfl) (by kernel_rfl) (fun _ _ _ h => h) (by first | exact yield_load rfl rfl rfl rfl | exact yield_loads rfl rfl rfl rfl | exact yield_loads rfl rfl rfl (by simp only [i64s_length, u8s_length]; first | assumption | omega) | exact yield_loadi rfl rfl rfl (by first | assumption | omega) | exact yield_loadp rfl rfl rfl (by first | assumption | omega)) kS ?_; (try simp only [Act.put, List.setIfInBounds_toArray, List.set_cons_zero, List.set_cons_succ]))
    (refine takeL (i := 15) (v := _) rfl (by kernel_rfl) (by kernel_rfl) (by kernel_rfl) (fun _ _ _ h => h) (by first | exact Or.inl ⟨by rfl, (by intro u hSu; clear hSu; go_simp; try with_reducible rfl)⟩ | exact Or.inr ⟨by rfl, rfl⟩) kS ?_; (try simp only [Act.put, List.setIfInBounds_toArray, List.set_cons_zero, List.set_cons_succ])); (refine takeL (i := 16) (v := _) rfl (by kernel_rfl) (by kernel_rfl) (by kernel_rfl) (fun _ _ _ h => h) (by first | exact Or.inl ⟨by rfl, (by intro u hSu; clear hSu; go_simp; try with_reducible rfl)⟩ | exact Or.inr ⟨by rfl, rfl⟩) kS ?_; (try simp only [Act.put, List.setIfInBounds_toArray, List.set_cons_zero, List.set_cons_succ]))
    try rw [hneg.out]
    refine callL (i := 1) rfl (by kernel_rfl) (fun K hK => ?_)
    (rw [if_pos (by rfl)]; go_simp; (with_reducible refine (kA.out _).mono ?_); rintro e' w1 ⟨rfl, hb⟩; have E1 := Lib.hid (E.out.later hb); clear hb E; have E := E1; clear E1; go_wp2_with fail; (refine hK.out _ _ (E.out.part _ _ (by repeat (first | exact List.Sublist.refl _ | apply List.Sublist.cons_cons | apply List.Sublist.cons)) (by simp)) (fun kS => ?_); clear hK K; (try simp only [Act.put, List.setIfInBounds_toArray, List.set_cons_zero, List.set_cons_succ])))
    refine callL (i := 3) rfl (by kernel_rfl) (fun K hK => ?_)
    (rw [if_pos (by rfl)]; go_simp; (with_reducible refine (kAp.out _).mono ?_); rintro e' w1 ⟨rfl, hb⟩; have E1 := Lib.hid (E.out.later hb); clear hb E; have E := E1; clear E1; go_wp2_with fail; (refine hK.out _ _ (E.out.part _ _ (by repeat (first | exact List.Sublist.refl _ | apply List.Sublist.cons_cons | apply List.Sublist.cons)) (by simp)) (fun kS => ?_); clear hK K; (try simp only [Act.put, List.setIfInBounds_toArray, List.set_cons_zero, List.set_cons_succ])))
    refine callL (i := 5) rfl (by kernel_rfl) (fun K hK => ?_)
    (rw [if_pos (by rfl)]; go_simp; (with_reducible refine (kA.out _).mono ?_); rintro e' w1 ⟨rfl, hb⟩; have E1 := Lib.hid (E.out.later hb); clear hb E; have E := E1; clear E1; go_wp2_with fail; (refine hK.out _ _ (E.out.part _ _ (by repeat (first | exact List.Sublist.refl _ | apply List.Sublist.cons_cons | apply List.Sublist.cons)) (by simp)) (fun kS => ?_); clear hK K; (try simp only [Act.put, List.setIfInBounds_toArray, List.set_cons_zero, List.set_cons_succ])))
    refine callL (i := 8) rfl (by kernel_rfl) (fun K hK => ?_)
    (rw [if_pos (by rfl)]; go_simp; (with_reducible refine (kAm.out _).mono ?_); rintro e' w1 ⟨rfl, hb⟩; have E1 := Lib.hid (E.out.later hb); clear hb E; have E := E1; clear E1; go_wp2_with fail; (refine hK.out _ _ (E.out.part _ _ (by repeat (first | exact List.Sublist.refl _ | apply List.Sublist.cons_cons | apply List.Sublist.cons)) (by simp)) (fun kS => ?_); clear hK K; (try simp only [Act.put, List.setIfInBounds_toArray, List.set_cons_zero, List.set_cons_succ])))
    refine callL (i := 10) rfl (by kernel_rfl) (fun K hK => ?_)
    (rw [if_pos (by rfl)]; go_simp; (with_reducible refine (kB.out _).mono ?_); rintro e' w1 ⟨rfl, hb⟩; have E1 := Lib.hid (E.out.later hb); clear hb E; have E := E1; clear E1; go_wp2_with fail; (refine hK.out _ _ (E.out.part _ _ (by repeat (first | exact List.Sublist.refl _ | apply List.Sublist.cons_cons | apply List.Sublist.cons)) (by simp)) (fun kS => ?_); clear hK K; (try simp only [Act.put, List.setIfInBounds_toArray, List.set_cons_zero, List.set_cons_succ])))
    refine callL (i := 12) rfl (by kernel_rfl) (fun K hK => ?_)
    (rw [if_pos (by rfl)]; go_simp; (with_reducible refine (kBp.out _).mono ?_); rintro e' w1 ⟨rfl, hb⟩; have E1 := Lib.hid (E.out.later hb); clear hb E; have E := E1; clear E1; go_wp2_with fail; (refine hK.out _ _ (E.out.part _ _ (by repeat (first | exact List.Sublist.refl _ | apply List.Sublist.cons_cons | apply List.Sublist.cons)) (by simp)) (fun kS => ?_); clear hK K; (try simp only [Act.put, List.setIfInBounds_toArray, List.set_cons_zero, List.set_cons_succ])))
    refine callL (i := 14) rfl (by kernel_rfl) (fun K hK => ?_)
    (rw [if_pos (by rfl)]; go_simp; (with_reducible refine (kB.out _).mono ?_); rintro e' w1 ⟨rfl, hb⟩; have E1 := Lib.hid (E.out.later hb); clear hb E; have E := E1; clear E1; go_wp2_with fail; (refine hK.out _ _ (E.out.part _ _ (by repeat (first | exact List.Sublist.refl _ | apply List.Sublist.cons_cons | apply List.Sublist.cons)) (by simp)) (fun kS => ?_); clear hK K; (try simp only [Act.put, List.setIfInBounds_toArray, List.set_cons_zero, List.set_cons_succ])))
    refine callL (i := 17) rfl (by kernel_rfl) (fun K hK => ?_)
    (rw [if_pos (by rfl)]; go_simp; (with_reducible refine (kBm.out _).mono ?_); rintro e' w1 ⟨rfl, hb⟩; have E1 := Lib.hid (E.out.later hb); clear hb E; have E := E1; clear E1; go_wp2_with fail; (refine hK.out _ _ (E.out.part _ _ (by repeat (first | exact List.Sublist.refl _ | apply List.Sublist.cons_cons | apply List.Sublist.cons)) (by simp)) (fun kS => ?_); clear hK K; (try simp only [Act.put, List.setIfInBounds_toArray, List.set_cons_zero, List.set_cons_succ])))
    (refine takeL (i := 18) (v := arr FR) rfl (by kernel_rfl) (by kernel_rfl) (by kernel_rfl) (fun _ _ _ h => h) (yield_build4 rfl rfl hBt (by simp only [List.map_toArray, List.map_cons, List.map_nil]; rfl)) kS ?_; (try simp only [Act.put, List.setIfInBounds_toArray, List.set_cons_zero, List.set_cons_succ]))
    refine callL (i := 19) rfl (by kernel_rfl) (fun K hK => ?_)
    (rw [if_pos (by rfl)]; refine wp_kn_stores (g := g4) (vs := i64s FR) E.out rfl rfl rfl rfl ⟨rfl, by rw [i64s_length]; exact hfl.out⟩ (i64s_one _) ?_; clear E kS; intro u E0; have E := Lib.hid E0; clear E0; (refine hK.out _ _ (E.out.part _ _ (by repeat (first | exact List.Sublist.refl _ | apply List.Sublist.cons_cons | apply List.Sublist.cons)) (by simp)) (fun kS => ?_); clear hK K; (try simp only [Act.put, List.setIfInBounds_toArray, List.set_cons_zero, List.set_cons_succ])))
    refine wpAnyH_done (by kernel_rfl) ?_ _
    go_wp2_with fail
    refine bodyPost_ret (results_kn E.out rfl _ rfl (by rw [i64s_length]; exact hfl.out)) rfl ?_
    exact ⟨rfl, E.out.bel⟩
end Go.Proofs.YtgcijioiicmjiaaDoor
