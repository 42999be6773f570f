/- ETC2 blocks, the program's: the texels of H. -/
import Derived.Test.YtgcijioiicmjiaaDoorE2T
import Derived.Deep.DeepCutAuto
set_option linter.all false
namespace Go.Proofs.YtgcijioiicmjiaaDoor
open Go.RowKit
open Bi Lv Eo Et

namespace Et
def runH (q j : Nat) : Nat × Nat := (([[(1, 4), (0, 0), (0, 0)], [(5, 3), (11, 1), (0, 0)], [(12, 1), (14, 3), (0, 0)], [(17, 4), (0, 0), (0, 0)], [(21, 4), (0, 0), (0, 0)], [(25, 4), (0, 0), (0, 0)]] : List (List (Nat × Nat))).getD q []).getD j (0, 0)
def hcA (k c j : Nat) : Nat := (runH (3 * k + c) j).1
def hcM (k c j : Nat) : Nat := (runH (3 * k + c) j).2
def hcL : List Int := rV3 (hcA 0) (hcM 0) ++ rV3 (hcA 1) (hcM 1)
theorem hc_ok (k : Nat) (hk : k < 2) : ∀ c, c < 3 → okR (hcA k c) (hcM k c) := by
  have h : ∀ k, k < 2 → ∀ c, c < 3 → ∀ j, j < 3 → hcM k c j ≤ 7 ∧ hcA k c j + hcM k c j ≤ 64 := by decide
  exact fun c hc j hj => h k hk c hc j hj
def dhA (j : Nat) : Nat := (([(29, 1), (31, 1), (0, 0)] : List (Nat × Nat)).getD j (0, 0)).1
def dhM (j : Nat) : Nat := (([(29, 1), (31, 1), (0, 0)] : List (Nat × Nat)).getD j (0, 0)).2
theorem dh_ok : okR dhA dhM := by
  have h : ∀ j, j < 3 → dhM j ≤ 7 ∧ dhA j + dhM j ≤ 64 := by decide
  exact h
def hCa (xs : List Nat) : List Int := col4 (hA xs 0) (hA xs 1) (hA xs 2)
def hCb (xs : List Nat) : List Int := col4 (hB xs 0) (hB xs 1) (hB xs 2)
theorem hc_col (xs : List Nat) : clV xs (hcA 0) (hcM 0) = hCa xs ∧ clV xs (hcA 1) (hcM 1) = hCb xs := by
  unfold clV chV hCa hCb col4 hA hB
  rw [tk_bits xs _ _ [1, 2, 3, 4] rfl, tk_bits xs _ _ [5, 6, 7, 11] rfl, tk_bits xs _ _ [12, 14, 15, 16] rfl, tk_bits xs _ _ [17, 18, 19, 20] rfl, tk_bits xs _ _ [21, 22, 23, 24] rfl, tk_bits xs _ _ [25, 26, 27, 28] rfl]
  exact ⟨rfl, rfl⟩
theorem hc_num (xs : List Nat) : ((whN xs (hcA 0) (hcM 0) 3 : Nat) : Int) = num3 (hA xs) ∧ ((whN xs (hcA 1) (hcM 1) 3 : Nat) : Int) = num3 (hB xs) := by
  have e : ∀ k, k < 2 → whN xs (hcA k) (hcM k) 3 = 256 * tkN xs (hcA k 0) (hcM k 0) 3 + 16 * tkN xs (hcA k 1) (hcM k 1) 3 + tkN xs (hcA k 2) (hcM k 2) 3 := by
    intro k hk
    have hw : ∀ k, k < 2 → ∀ c, c < 3 → wdN (hcM k c) 3 = 4 := by decide
    simp only [whN]
    rw [hw k hk 0 (by omega), hw k hk 1 (by omega), hw k hk 2 (by omega)]
    omega
  have h0 := tk_bits xs (hcA 0 0) (hcM 0 0) [1, 2, 3, 4] rfl
  have h1 := tk_bits xs (hcA 0 1) (hcM 0 1) [5, 6, 7, 11] rfl
  have h2 := tk_bits xs (hcA 0 2) (hcM 0 2) [12, 14, 15, 16] rfl
  have h3 := tk_bits xs (hcA 1 0) (hcM 1 0) [17, 18, 19, 20] rfl
  have h4 := tk_bits xs (hcA 1 1) (hcM 1 1) [21, 22, 23, 24] rfl
  have h5 := tk_bits xs (hcA 1 2) (hcM 1 2) [25, 26, 27, 28] rfl
  rw [e 0 (by omega), e 1 (by omega)]
  refine ⟨?_, ?_⟩
  · show _ = 256 * Et.bits xs [1, 2, 3, 4] + 16 * Et.bits xs [5, 6, 7, 11] + Et.bits xs [12, 14, 15, 16]
    rw [← h0, ← h1, ← h2]; omega
  · show _ = 256 * Et.bits xs [17, 18, 19, 20] + 16 * Et.bits xs [21, 22, 23, 24] + Et.bits xs [25, 26, 27, 28]
    rw [← h3, ← h4, ← h5]; omega
theorem hc_wd : ∀ k, k < 2 → ∀ c, c < 3 → wdN (hcM k c) 3 ≤ 7 := by decide
end Et
theorem built_frH (xs : List Nat) (u : World) : (Instr.build 69 #[(0, arr (addV (hCa xs) (hD xs))), (1, arr (addV (hCa xs) (-hD xs))), (2, arr (addV (hCb xs) (hD xs))), (3, arr (addV (hCb xs) (-hD xs)))]).run Tryd.prog u = .ok (arr (frH xs)) u := run_build u _ _ _ (by kernel_rfl)
set_option maxHeartbeats 8000000 in
set_option maxRecDepth 100000 in
theorem h2 (B : List Value) (hB : B.length = 29) (gb : Nat) (hT : B[28]? = some (tkF gb)) (hO : ∀ v ∈ B, v.oneCell' = true) (W : List Int) (hW : W.length = 16) (hBW : (B.drop 10).take 16 = i64s W) (hWb : ∀ i, i < 16 → 0 ≤ W.getD i 0 ∧ W.getD i 0 < 4) (A : Option Addr) (c : Nat) (xs : List Nat) (w : World) (hg : cellsF gb [.slice A 8 c] w) (hx : Bs w w.heap.size A 8 xs) (hC : cellsF 12 (i64s hcL) w) (hD' : cellsF 11 (i64s (rV dhA dhM)) w) (hDi : cellsF 0 (i64s disL) w) :
    Calls Tryd.prog 56 #[.agg B.toArray] w fun e w' => e = .returned (arr (choV W (frH xs))) ∧ Below w.heap.size w w' := by
  have E := Lib.hid ((((((Kn.start w).arg_cells hDi).arg_cells hD').arg_cells hC).arg_cells hg).arg_bs hx)
  have HC := Lib.hid (fun k (hk : k < 2) u hg hx => colour2 B hB gb hT hO A c xs (hcA k) (hcM k) u hg hx (hc_ok k hk))
  have HCA := Lib.hid (fun u hg hx => HC.out 0 (by omega) u hg hx)
  have HCB := Lib.hid (fun u hg hx => HC.out 1 (by omega) u hg hx)
  rw [(hc_col xs).1] at HCA
  rw [(hc_col xs).2] at HCB
  have HWh := Lib.hid (fun k (hk : k < 2) u hg hx => whole2 B hB gb hT hO A c xs (hcA k) (hcM k) u hg hx (hc_ok k hk) (hc_wd k hk))
  have HWA := Lib.hid (fun u hg hx => HWh.out 0 (by omega) u hg hx)
  have HWB := Lib.hid (fun u hg hx => HWh.out 1 (by omega) u hg hx)
  rw [(hc_num xs).1] at HWA
  rw [(hc_num xs).2] at HWB
  have HTk := Lib.hid (fun (u : World) (R : List Res) (E : Kn w R [bsF A 8 xs, cellsF gb [.slice A 8 c], cellsF 12 (i64s hcL), cellsF 11 (i64s (rV dhA dhM)), cellsF 0 (i64s disL)] u) => show Calls Tryd.prog 71 #[.agg (i64s (rV dhA dhM)).toArray, .pointer (some ⟨gb, 0, none⟩)] u (fun e u1 => e = .returned (.int .i64 (Et.bits xs [29, 31])) ∧ Kn w R [bsF A 8 xs, cellsF gb [.slice A 8 c], cellsF 12 (i64s hcL), cellsF 11 (i64s (rV dhA dhM)), cellsF 0 (i64s disL)] u1) from by
    rw [← tk_bits xs dhA dhM [29, 31] rfl]
    exact take3 E gb A c xs dhA dhM (by simp) (by simp) dh_ok)
  have hbb := bits_bd xs [29, 31]
  have hb4 : 0 ≤ Et.bits xs [29, 31] ∧ Et.bits xs [29, 31] < 4 := hbb
  have hNe : hN xs = 2 * Et.bits xs [29, 31] + (if num3 (Et.hB xs) ≤ num3 (Et.hA xs) then 1 else 0) := rfl
  have HDi := Lib.hid (fun u hu => show Calls Tryd.prog 12 #[.int .i64 (hN xs)] u (fun e w' => e = .returned (.int .i64 (hD xs)) ∧ u = w') from distance_any (hN xs) u hu)
  have hdb := disV_bd (hN xs)
  have HSap := Lib.hid (fun u => shifted2 (hCa xs) (hD xs) u rfl (col4_bd _ _ _) (by unfold hD; omega))
  have HSam := Lib.hid (fun u => shifted2 (hCa xs) (-hD xs) u rfl (col4_bd _ _ _) (by unfold hD; omega))
  have HSbp := Lib.hid (fun u => shifted2 (hCb xs) (hD xs) u rfl (col4_bd _ _ _) (by unfold hD; omega))
  have HSbm := Lib.hid (fun u => shifted2 (hCb xs) (-hD xs) u rfl (col4_bd _ _ _) (by unfold hD; omega))
  have hBt := fun u => built_frH xs u
  have HCh := Lib.hid (fun u => choose2 B hB hO W (frH xs) hW hBW hWb rfl u)
  have hal : Hid ((hCa xs).length = 4) := rfl
  have hbl : Hid ((hCb xs).length = 4) := rfl
  have hchl := Lib.hid (show (choV W (frH xs)).length = 64 from by unfold choV; rw [fl_length]; exact z64_length)
  have hneg := Lib.hid (show IntKind.i64.wrap (-hD xs) = -hD xs from by unfold hD; rw [IntKind.wrap_i64]; omega)
  have q0 := Lib.hid (show (hcL.drop 0).take 18 = rV3 (hcA 0) (hcM 0) from rfl)
  have q1 := Lib.hid (show (hcL.drop 18).take 18 = rV3 (hcA 1) (hcM 1) from rfl)
  have hpl : Hid (hcL.length = 36) := rfl
  have hdl : Hid ((i64s (rV dhA dhM)).length = 6) := rfl
  unfold tkF at hT
  replace hT := Lib.hid hT
  replace hO := Lib.hid hO
  clear HC HWh hg hx hC hD' hDi hBW hWb hW hdb hbb
  generalize choV W (frH xs) = CV at *
  generalize frH xs = FR at *
  obtain ⟨s1, hs1⟩ : ∃ z, addV (hCa xs) (hD xs) = z := ⟨_, rfl⟩
  obtain ⟨s2, hs2⟩ : ∃ z, addV (hCa xs) (-hD xs) = z := ⟨_, rfl⟩
  obtain ⟨s3, hs3⟩ : ∃ z, addV (hCb xs) (hD xs) = z := ⟨_, rfl⟩
  obtain ⟨s4, hs4⟩ : ∃ z, addV (hCb xs) (-hD xs) = z := ⟨_, rfl⟩
  rw [hs1] at HSap hBt
  rw [hs2] at HSam hBt
  rw [hs3] at HSbp hBt
  rw [hs4] at HSbm hBt
  clear hs1 hs2 hs3 hs4
  generalize hCa xs = aV at *
  generalize hCb xs = bV at *
  generalize hD xs = dv at *
  generalize hN xs = nv at *
  generalize Et.bits xs [29, 31] = tv at *
  generalize num3 (Et.hA xs) = na at *
  generalize num3 (Et.hB xs) = nb at *
  generalize rV3 (hcA 0) (hcM 0) = r0 at *
  generalize rV3 (hcA 1) (hcM 1) = r1 at *
  generalize hcL = PL at *
  generalize rV dhA dhM = DR at *
  generalize disL = DL at *
  have hsh : wrap64 (tv * 2) = 2 * tv := by rw [wrap64_small _ (by omega) (by omega)]; omega
  have hsh2 : wrap64 (2 * tv) = 2 * tv := by rw [wrap64_small _ (by omega) (by omega)]
  have hsh3 : wrap64 (2 * tv + 1) = 2 * tv + 1 := by rw [wrap64_small _ (by omega) (by omega)]
  by_cases hc : nb ≤ na
  all_goals
    (first | (rw [if_pos hc] at hNe; rw [show nv = tv * 2 + 1 by omega] at HDi) | (rw [if_neg hc] at hNe; rw [show nv = tv * 2 by omega] at HDi))
    clear hNe
    go_enter Tryd.func56, Tryd.ntmps56
    go_wp2_with (first
      | (go_at_call 71; refine (HTk.out _ _ E.out).mono ?_; clear HTk; rintro e w1 ⟨rfl, E0⟩; clear E; have E := Lib.hid E0; clear E0)
      | ((with_reducible refine kn_load (g := g1) (i := 28) E.out rfl rfl rfl hT.out ?_))
      | ((with_reducible refine kn_gloads (g := 11) (vs := i64s DR) E.out rfl rfl ?hx ?h1 ?h2 ?_); (case hx => rfl); (case h1 => simp); (case h2 => exact hdl.out))
      | ((with_reducible refine kn_load E.out rfl rfl rfl rfl ?_)) | ((with_reducible refine kn_load_if E.out rfl rfl rfl rfl ?_)) | ((with_reducible refine kn_loads E.out rfl rfl rfl ?_ ?_); (focus (first | rfl | (simp only [i64s_length, u8s_length]; first | rfl | assumption | omega)))) | ((with_reducible refine kn_loads_if E.out rfl rfl rfl ?_ ?_); (focus (first | rfl | (simp only [i64s_length, u8s_length]; first | rfl | assumption | omega)))) | ((with_reducible refine kn_stores E.out rfl rfl rfl rfl rfl ?_ ?_ ?_); (focus (first | exact ⟨rfl, rfl⟩ | (simp only [i64s_length, u8s_length]; refine ⟨?_, ?_⟩ <;> first | rfl | assumption | omega))); (focus (first | exact i64s_one _ | exact u8s_one _ | simp [Value.oneCell'])); clear E; intro u E0; have E := Lib.hid E0; clear E0) | ((with_reducible refine kn_alloc (o := ⟨some 1, _, _, _, _, _⟩) E.out rfl rfl ?_); clear E; intro g1 u E0 hb0; have E := Lib.hid E0; clear E0 hb0) | ((with_reducible refine kn_box (o := ⟨some 1, _, _, _, _, _⟩) E.out rfl rfl rfl ?_); clear E; intro g1 u E0 hb0; have E := Lib.hid E0; clear E0 hb0) | ((with_reducible refine kn_box_int (o := ⟨some 1, _, _, _, _, _⟩) E.out rfl rfl rfl ?_); clear E; intro g1 u E0 hb0; have E := Lib.hid E0; clear E0 hb0) | ((with_reducible refine kn_box_slice (o := ⟨some 1, _, _, _, _, _⟩) E.out rfl rfl rfl ?_); clear E; intro g1 u E0 hb0; have E := Lib.hid E0; clear E0 hb0) | ((with_reducible refine kn_box_bool (o := ⟨some 1, _, _, _, _, _⟩) E.out rfl rfl rfl ?_); clear E; intro g1 u E0 hb0; have E := Lib.hid E0; clear E0 hb0) | ((with_reducible refine kn_box_func (o := ⟨some 1, _, _, _, _, _⟩) E.out rfl rfl rfl ?_); clear E; intro g1 u E0 hb0; have E := Lib.hid E0; clear E0 hb0) | ((with_reducible refine kn_alloc (o := ⟨some 2, _, _, _, _, _⟩) E.out rfl rfl ?_); clear E; intro g2 u E0 hb0; have E := Lib.hid E0; clear E0 hb0) | ((with_reducible refine kn_box (o := ⟨some 2, _, _, _, _, _⟩) E.out rfl rfl rfl ?_); clear E; intro g2 u E0 hb0; have E := Lib.hid E0; clear E0 hb0) | ((with_reducible refine kn_box_int (o := ⟨some 2, _, _, _, _, _⟩) E.out rfl rfl rfl ?_); clear E; intro g2 u E0 hb0; have E := Lib.hid E0; clear E0 hb0) | ((with_reducible refine kn_box_slice (o := ⟨some 2, _, _, _, _, _⟩) E.out rfl rfl rfl ?_); clear E; intro g2 u E0 hb0; have E := Lib.hid E0; clear E0 hb0) | ((with_reducible refine kn_box_bool (o := ⟨some 2, _, _, _, _, _⟩) E.out rfl rfl rfl ?_); clear E; intro g2 u E0 hb0; have E := Lib.hid E0; clear E0 hb0) | ((with_reducible refine kn_box_func (o := ⟨some 2, _, _, _, _, _⟩) E.out rfl rfl rfl ?_); clear E; intro g2 u E0 hb0; have E := Lib.hid E0; clear E0 hb0))
    refine wp_region_held_drew (S := Kn w [.row g1 57 B] [bsF A 8 xs, cellsF gb [.slice A 8 c], cellsF 12 (i64s PL)]) (by kernel_rfl) (E.out.drew.part _ _ (by repeat (first | exact List.Sublist.refl _ | apply List.Sublist.cons_cons | apply List.Sublist.cons)) (by simp)) (fun kS => ?_)
    have E1 := Lib.hid E.out.drew
    generalize World.drew _ = u1 at kS E1 ⊢
    clear E
    have E := E1
    clear E1
    (refine takeL (i := 0) (v := .agg B.toArray) rfl (by kernel_rfl) (by kernel_rfl) (by kernel_rfl) (fun _ _ _ h => h) (yield_loads (g := g1) rfl rfl rfl hB) kS ?_; (try simp only [Act.put, List.setIfInBounds_toArray, List.set_cons_zero, List.set_cons_succ]))
    (refine takeL (i := 1) (v := _) rfl (by kernel_rfl) (by kernel_rfl) (by kernel_rfl) (fun _ _ _ h => h) (by first | exact Or.inl ⟨by rfl, (by intro u hSu; clear hSu; go_simp; try with_reducible rfl)⟩ | exact Or.inr ⟨by rfl, rfl⟩) kS ?_; (try simp only [Act.put, List.setIfInBounds_toArray, List.set_cons_zero, List.set_cons_succ]))
    (refine takeL (i := 2) (v := _) rfl (by kernel_rfl) (by kernel_rfl) (by kernel_rfl) (fun _ _ _ h => h) (yield_gloadp (off := 0) rfl rfl rfl (by simp) q0.out (by rw [hpl.out]; omega)) kS ?_; (try simp only [Act.put, List.setIfInBounds_toArray, List.set_cons_zero, List.set_cons_succ]))
    (refine takeL (i := 4) (v := .agg B.toArray) rfl (by kernel_rfl) (by kernel_rfl) (by kernel_rfl) (fun _ _ _ h => h) (yield_loads (g := g1) rfl rfl rfl hB) kS ?_; (try simp only [Act.put, List.setIfInBounds_toArray, List.set_cons_zero, List.set_cons_succ]))
    (refine takeL (i := 5) (v := _) rfl (by kernel_rfl) (by kernel_rfl) (by kernel_rfl) (fun _ _ _ h => h) (by first | exact Or.inl ⟨by rfl, (by intro u hSu; clear hSu; go_simp; try with_reducible rfl)⟩ | exact Or.inr ⟨by rfl, rfl⟩) kS ?_; (try simp only [Act.put, List.setIfInBounds_toArray, List.set_cons_zero, List.set_cons_succ]))
    (refine takeL (i := 6) (v := _) rfl (by kernel_rfl) (by kernel_rfl) (by kernel_rfl) (fun _ _ _ h => h) (yield_gloadp (off := 18) rfl rfl rfl (by simp) q1.out (by rw [hpl.out]; omega)) kS ?_; (try simp only [Act.put, List.setIfInBounds_toArray, List.set_cons_zero, List.set_cons_succ]))
    refine callL (i := 3) rfl (by kernel_rfl) (fun K hK => ?_)
    (go_simp; (with_reducible refine (HWA.out _ ?h1 ?h2).mono ?_); (case h1 => exact E.out.get (by simp)); (case h2 => exact E.out.bs (by simp)); rintro e' w1 ⟨rfl, hb⟩; have E1 := Lib.hid (E.out.later hb); clear hb E; have E := E1; clear E1; go_wp2_with fail; (refine hK.out _ _ (E.out.part _ _ (by repeat (first | exact List.Sublist.refl _ | apply List.Sublist.cons_cons | apply List.Sublist.cons)) (by simp)) (fun kS => ?_); clear hK K; (try simp only [Act.put, List.setIfInBounds_toArray, List.set_cons_zero, List.set_cons_succ])))
    refine callL (i := 7) rfl (by kernel_rfl) (fun K hK => ?_)
    (go_simp; (with_reducible refine (HWB.out _ ?h1 ?h2).mono ?_); (case h1 => exact E.out.get (by simp)); (case h2 => exact E.out.bs (by simp)); rintro e' w1 ⟨rfl, hb⟩; have E1 := Lib.hid (E.out.later hb); clear hb E; have E := E1; clear E1; go_wp2_with fail; (refine hK.out _ _ (E.out.part _ _ (by repeat (first | exact List.Sublist.refl _ | apply List.Sublist.cons_cons | apply List.Sublist.cons)) (by simp)) (fun kS => ?_); clear hK K; (try simp only [Act.put, List.setIfInBounds_toArray, List.set_cons_zero, List.set_cons_succ])))
    (refine takeL (i := 8) (v := _) rfl (by kernel_rfl) (by kernel_rfl) (by kernel_rfl) (fun _ _ _ h => h) (by first | exact Or.inl ⟨by rfl, (by intro u hSu; clear hSu; go_simp; try with_reducible rfl)⟩ | exact Or.inr ⟨by rfl, rfl⟩) kS ?_; (try simp only [Act.put, List.setIfInBounds_toArray, List.set_cons_zero, List.set_cons_succ]))
    refine wpAnyH_done (by kernel_rfl) ?_ _
    clear HWA HWB
    go_upto_region 4 with (first | ((with_reducible refine kn_load E.out rfl rfl rfl rfl ?_)) | ((with_reducible refine kn_load_if E.out rfl rfl rfl rfl ?_)) | ((with_reducible refine kn_loads E.out rfl rfl rfl ?_ ?_); (focus (first | rfl | (simp only [i64s_length, u8s_length]; first | rfl | assumption | omega)))) | ((with_reducible refine kn_loads_if E.out rfl rfl rfl ?_ ?_); (focus (first | rfl | (simp only [i64s_length, u8s_length]; first | rfl | assumption | omega)))) | ((with_reducible refine kn_stores E.out rfl rfl rfl rfl rfl ?_ ?_ ?_); (focus (first | exact ⟨rfl, rfl⟩ | (simp only [i64s_length, u8s_length]; refine ⟨?_, ?_⟩ <;> first | rfl | assumption | omega))); (focus (first | exact i64s_one _ | exact u8s_one _ | simp [Value.oneCell'])); clear E; intro u E0; have E := Lib.hid E0; clear E0))
    (try simp only [Act.put, List.setIfInBounds_toArray, List.set_cons_zero, List.set_cons_succ])
    go_cut [4, 5] from 23 to 30 (fun s3 s4 wx => ∃ ga gc : Nat, s3 = .pointer (some ⟨ga, 0, none⟩) ∧ s4 = .pointer (some ⟨gc, 0, none⟩) ∧ Hid (Kn w [.row gc 25 (i64s bV), .row ga 25 (i64s aV), .row g2 27 (i64s z64), .row g1 57 B] [bsF A 8 xs, cellsF gb [.slice A 8 c], cellsF 12 (i64s PL), cellsF 11 (i64s DR), cellsF 0 (i64s DL)] wx))
    case first =>
      refine wp_region_held_drew (S := Kn w [.row g1 57 B] [bsF A 8 xs, cellsF gb [.slice A 8 c], cellsF 12 (i64s PL)]) (by kernel_rfl) (E.out.drew.part _ _ (by repeat (first | exact List.Sublist.refl _ | apply List.Sublist.cons_cons | apply List.Sublist.cons)) (by simp)) (fun kS => ?_)
      have E1 := Lib.hid E.out.drew
      generalize World.drew _ = u1 at kS E1 ⊢
      clear E
      have E := E1
      clear E1
      (refine takeL (i := 0) (v := .agg B.toArray) rfl (by kernel_rfl) (by kernel_rfl) (by kernel_rfl) (fun _ _ _ h => h) (yield_loads (g := g1) rfl rfl rfl hB) kS ?_; (try simp only [Act.put, List.setIfInBounds_toArray, List.set_cons_zero, List.set_cons_succ]))
      (refine takeL (i := 1) (v := _) rfl (by kernel_rfl) (by kernel_rfl) (by kernel_rfl) (fun _ _ _ h => h) (by first | exact Or.inl ⟨by rfl, (by intro u hSu; clear hSu; go_simp; try with_reducible rfl)⟩ | exact Or.inr ⟨by rfl, rfl⟩) kS ?_; (try simp only [Act.put, List.setIfInBounds_toArray, List.set_cons_zero, List.set_cons_succ]))
      (refine takeL (i := 2) (v := _) rfl (by kernel_rfl) (by kernel_rfl) (by kernel_rfl) (fun _ _ _ h => h) (yield_gloadp (off := 0) rfl rfl rfl (by simp) q0.out (by rw [hpl.out]; omega)) kS ?_; (try simp only [Act.put, List.setIfInBounds_toArray, List.set_cons_zero, List.set_cons_succ]))
      (refine takeL (i := 4) (v := .agg B.toArray) rfl (by kernel_rfl) (by kernel_rfl) (by kernel_rfl) (fun _ _ _ h => h) (yield_loads (g := g1) rfl rfl rfl hB) kS ?_; (try simp only [Act.put, List.setIfInBounds_toArray, List.set_cons_zero, List.set_cons_succ]))
      (refine takeL (i := 5) (v := _) rfl (by kernel_rfl) (by kernel_rfl) (by kernel_rfl) (fun _ _ _ h => h) (by first | exact Or.inl ⟨by rfl, (by intro u hSu; clear hSu; go_simp; try with_reducible rfl)⟩ | exact Or.inr ⟨by rfl, rfl⟩) kS ?_; (try simp only [Act.put, List.setIfInBounds_toArray, List.set_cons_zero, List.set_cons_succ]))
      (refine takeL (i := 6) (v := _) rfl (by kernel_rfl) (by kernel_rfl) (by kernel_rfl) (fun _ _ _ h => h) (yield_gloadp (off := 18) rfl rfl rfl (by simp) q1.out (by rw [hpl.out]; omega)) kS ?_; (try simp only [Act.put, List.setIfInBounds_toArray, List.set_cons_zero, List.set_cons_succ]))
      refine callL3 (i := 3) (j := 8) (k := 9) rfl rfl rfl (by kernel_rfl) (fun K hK => ?_) (fun K hK => ?_) (fun K hK => ?_) 
      · (go_simp; (with_reducible refine (HCA.out _ ?h1 ?h2).mono ?_); (case h1 => exact E.out.get (by simp)); (case h2 => exact E.out.bs (by simp)); rintro e' w1 ⟨rfl, hb⟩; have E1 := Lib.hid (E.out.later hb); clear hb E; have E := E1; clear E1; go_wp2_with fail; (refine hK.out _ _ (E.out.part _ _ (by repeat (first | exact List.Sublist.refl _ | apply List.Sublist.cons_cons | apply List.Sublist.cons)) (by simp)) (fun kS => ?_); clear hK K; (try simp only [Act.put, List.setIfInBounds_toArray, List.set_cons_zero, List.set_cons_succ])))
        refine callL3 (i := 7) (j := 8) (k := 9) rfl rfl rfl (by kernel_rfl) (fun K hK => ?_) (fun K hK => ?_) (fun K hK => ?_) 
        · (go_simp; (with_reducible refine (HCB.out _ ?h1 ?h2).mono ?_); (case h1 => exact E.out.get (by simp)); (case h2 => exact E.out.bs (by simp)); rintro e' w1 ⟨rfl, hb⟩; have E1 := Lib.hid (E.out.later hb); clear hb E; have E := E1; clear E1; go_wp2_with fail; (refine hK.out _ _ (E.out.part _ _ (by repeat (first | exact List.Sublist.refl _ | apply List.Sublist.cons_cons | apply List.Sublist.cons)) (by simp)) (fun kS => ?_); clear hK K; (try simp only [Act.put, List.setIfInBounds_toArray, List.set_cons_zero, List.set_cons_succ])))
          refine callL2 (i := 8) (j := 9) rfl rfl (by kernel_rfl) (fun K hK => ?_) (fun K hK => ?_) 
          · (rw [if_pos (by rfl)]; refine wp_kn_alloc E.out rfl ?_; clear E kS; intro ga u E0; have E := Lib.hid E0; clear E0; (refine hK.out _ _ (E.out.part _ _ (by repeat (first | exact List.Sublist.refl _ | apply List.Sublist.cons_cons | apply List.Sublist.cons)) (by simp)) (fun kS => ?_); clear hK K; (try simp only [Act.put, List.setIfInBounds_toArray, List.set_cons_zero, List.set_cons_succ])))
            refine callL (i := 9) rfl (by kernel_rfl) (fun K hK => ?_) 
            (rw [if_pos (by rfl)]; refine wp_kn_alloc E.out rfl ?_; clear E kS; intro gc u E0; have E := Lib.hid E0; clear E0; (refine hK.out _ _ (E.out.part _ _ (by repeat (first | exact List.Sublist.refl _ | apply List.Sublist.cons_cons | apply List.Sublist.cons)) (by simp)) (fun kS => ?_); clear hK K; (try simp only [Act.put, List.setIfInBounds_toArray, List.set_cons_zero, List.set_cons_succ])))
            refine callL (i := 10) rfl (by kernel_rfl) (fun K hK => ?_)
            (rw [if_pos (by rfl)]; refine wp_kn_stores (g := ga) (vs := i64s aV) E.out rfl rfl rfl rfl ⟨rfl, by rw [i64s_length]; exact hal.out⟩ (i64s_one _) ?_; clear E kS; intro u E0; have E := Lib.hid E0; clear E0; (refine hK.out _ _ (E.out.part _ _ (by repeat (first | exact List.Sublist.refl _ | apply List.Sublist.cons_cons | apply List.Sublist.cons)) (by simp)) (fun kS => ?_); clear hK K; (try simp only [Act.put, List.setIfInBounds_toArray, List.set_cons_zero, List.set_cons_succ])))
            refine callL (i := 11) rfl (by kernel_rfl) (fun K hK => ?_)
            (rw [if_pos (by rfl)]; refine wp_kn_stores (g := gc) (vs := i64s bV) E.out rfl rfl rfl rfl ⟨rfl, by rw [i64s_length]; exact hbl.out⟩ (i64s_one _) ?_; clear E kS; intro u E0; have E := Lib.hid E0; clear E0; (refine hK.out _ _ (E.out.part _ _ (by repeat (first | exact List.Sublist.refl _ | apply List.Sublist.cons_cons | apply List.Sublist.cons)) (by simp)) (fun kS => ?_); clear hK K; (try simp only [Act.put, List.setIfInBounds_toArray, List.set_cons_zero, List.set_cons_succ])))
            refine wpAnyH_done (by kernel_rfl) ?_ _
            go_wp2_with fail
            go_meet
            exact ⟨ga, gc, rfl, rfl, E⟩
          · (rw [if_pos (by rfl)]; refine wp_kn_alloc E.out rfl ?_; clear E kS; intro gc u E0; have E := Lib.hid E0; clear E0; (refine hK.out _ _ (E.out.part _ _ (by repeat (first | exact List.Sublist.refl _ | apply List.Sublist.cons_cons | apply List.Sublist.cons)) (by simp)) (fun kS => ?_); clear hK K; (try simp only [Act.put, List.setIfInBounds_toArray, List.set_cons_zero, List.set_cons_succ])))
            refine callL (i := 8) rfl (by kernel_rfl) (fun K hK => ?_) 
            (rw [if_pos (by rfl)]; refine wp_kn_alloc E.out rfl ?_; clear E kS; intro ga u E0; have E := Lib.hid E0; clear E0; (refine hK.out _ _ (E.out.part _ _ (by repeat (first | exact List.Sublist.refl _ | apply List.Sublist.cons_cons | apply List.Sublist.cons)) (by simp)) (fun kS => ?_); clear hK K; (try simp only [Act.put, List.setIfInBounds_toArray, List.set_cons_zero, List.set_cons_succ])))
            refine callL (i := 10) rfl (by kernel_rfl) (fun K hK => ?_)
            (rw [if_pos (by rfl)]; refine wp_kn_stores (g := ga) (vs := i64s aV) E.out rfl rfl rfl rfl ⟨rfl, by rw [i64s_length]; exact hal.out⟩ (i64s_one _) ?_; clear E kS; intro u E0; have E := Lib.hid E0; clear E0; (refine hK.out _ _ (E.out.part _ _ (by repeat (first | exact List.Sublist.refl _ | apply List.Sublist.cons_cons | apply List.Sublist.cons)) (by simp)) (fun kS => ?_); clear hK K; (try simp only [Act.put, List.setIfInBounds_toArray, List.set_cons_zero, List.set_cons_succ])))
            refine callL (i := 11) rfl (by kernel_rfl) (fun K hK => ?_)
            (rw [if_pos (by rfl)]; refine wp_kn_stores (g := gc) (vs := i64s bV) E.out rfl rfl rfl rfl ⟨rfl, by rw [i64s_length]; exact hbl.out⟩ (i64s_one _) ?_; clear E kS; intro u E0; have E := Lib.hid E0; clear E0; (refine hK.out _ _ (E.out.part _ _ (by repeat (first | exact List.Sublist.refl _ | apply List.Sublist.cons_cons | apply List.Sublist.cons)) (by simp)) (fun kS => ?_); clear hK K; (try simp only [Act.put, List.setIfInBounds_toArray, List.set_cons_zero, List.set_cons_succ])))
            refine wpAnyH_done (by kernel_rfl) ?_ _
            go_wp2_with fail
            go_meet
            exact ⟨ga, gc, rfl, rfl, Lib.hid (kn_front (r := .row gc 25 (i64s bV)) E.out)⟩
        · (rw [if_pos (by rfl)]; refine wp_kn_alloc E.out rfl ?_; clear E kS; intro ga u E0; have E := Lib.hid E0; clear E0; (refine hK.out _ _ (E.out.part _ _ (by repeat (first | exact List.Sublist.refl _ | apply List.Sublist.cons_cons | apply List.Sublist.cons)) (by simp)) (fun kS => ?_); clear hK K; (try simp only [Act.put, List.setIfInBounds_toArray, List.set_cons_zero, List.set_cons_succ])))
          refine callL2 (i := 7) (j := 9) rfl rfl (by kernel_rfl) (fun K hK => ?_) (fun K hK => ?_) 
          · (go_simp; (with_reducible refine (HCB.out _ ?h1 ?h2).mono ?_); (case h1 => exact E.out.get (by simp)); (case h2 => exact E.out.bs (by simp)); rintro e' w1 ⟨rfl, hb⟩; have E1 := Lib.hid (E.out.later hb); clear hb E; have E := E1; clear E1; go_wp2_with fail; (refine hK.out _ _ (E.out.part _ _ (by repeat (first | exact List.Sublist.refl _ | apply List.Sublist.cons_cons | apply List.Sublist.cons)) (by simp)) (fun kS => ?_); clear hK K; (try simp only [Act.put, List.setIfInBounds_toArray, List.set_cons_zero, List.set_cons_succ])))
            refine callL (i := 9) rfl (by kernel_rfl) (fun K hK => ?_) 
            (rw [if_pos (by rfl)]; refine wp_kn_alloc E.out rfl ?_; clear E kS; intro gc u E0; have E := Lib.hid E0; clear E0; (refine hK.out _ _ (E.out.part _ _ (by repeat (first | exact List.Sublist.refl _ | apply List.Sublist.cons_cons | apply List.Sublist.cons)) (by simp)) (fun kS => ?_); clear hK K; (try simp only [Act.put, List.setIfInBounds_toArray, List.set_cons_zero, List.set_cons_succ])))
            refine callL (i := 10) rfl (by kernel_rfl) (fun K hK => ?_)
            (rw [if_pos (by rfl)]; refine wp_kn_stores (g := ga) (vs := i64s aV) E.out rfl rfl rfl rfl ⟨rfl, by rw [i64s_length]; exact hal.out⟩ (i64s_one _) ?_; clear E kS; intro u E0; have E := Lib.hid E0; clear E0; (refine hK.out _ _ (E.out.part _ _ (by repeat (first | exact List.Sublist.refl _ | apply List.Sublist.cons_cons | apply List.Sublist.cons)) (by simp)) (fun kS => ?_); clear hK K; (try simp only [Act.put, List.setIfInBounds_toArray, List.set_cons_zero, List.set_cons_succ])))
            refine callL (i := 11) rfl (by kernel_rfl) (fun K hK => ?_)
            (rw [if_pos (by rfl)]; refine wp_kn_stores (g := gc) (vs := i64s bV) E.out rfl rfl rfl rfl ⟨rfl, by rw [i64s_length]; exact hbl.out⟩ (i64s_one _) ?_; clear E kS; intro u E0; have E := Lib.hid E0; clear E0; (refine hK.out _ _ (E.out.part _ _ (by repeat (first | exact List.Sublist.refl _ | apply List.Sublist.cons_cons | apply List.Sublist.cons)) (by simp)) (fun kS => ?_); clear hK K; (try simp only [Act.put, List.setIfInBounds_toArray, List.set_cons_zero, List.set_cons_succ])))
            refine wpAnyH_done (by kernel_rfl) ?_ _
            go_wp2_with fail
            go_meet
            exact ⟨ga, gc, rfl, rfl, E⟩
          · (rw [if_pos (by rfl)]; refine wp_kn_alloc E.out rfl ?_; clear E kS; intro gc u E0; have E := Lib.hid E0; clear E0; (refine hK.out _ _ (E.out.part _ _ (by repeat (first | exact List.Sublist.refl _ | apply List.Sublist.cons_cons | apply List.Sublist.cons)) (by simp)) (fun kS => ?_); clear hK K; (try simp only [Act.put, List.setIfInBounds_toArray, List.set_cons_zero, List.set_cons_succ])))
            refine callL (i := 7) rfl (by kernel_rfl) (fun K hK => ?_) 
            (go_simp; (with_reducible refine (HCB.out _ ?h1 ?h2).mono ?_); (case h1 => exact E.out.get (by simp)); (case h2 => exact E.out.bs (by simp)); rintro e' w1 ⟨rfl, hb⟩; have E1 := Lib.hid (E.out.later hb); clear hb E; have E := E1; clear E1; go_wp2_with fail; (refine hK.out _ _ (E.out.part _ _ (by repeat (first | exact List.Sublist.refl _ | apply List.Sublist.cons_cons | apply List.Sublist.cons)) (by simp)) (fun kS => ?_); clear hK K; (try simp only [Act.put, List.setIfInBounds_toArray, List.set_cons_zero, List.set_cons_succ])))
            refine callL (i := 10) rfl (by kernel_rfl) (fun K hK => ?_)
            (rw [if_pos (by rfl)]; refine wp_kn_stores (g := ga) (vs := i64s aV) E.out rfl rfl rfl rfl ⟨rfl, by rw [i64s_length]; exact hal.out⟩ (i64s_one _) ?_; clear E kS; intro u E0; have E := Lib.hid E0; clear E0; (refine hK.out _ _ (E.out.part _ _ (by repeat (first | exact List.Sublist.refl _ | apply List.Sublist.cons_cons | apply List.Sublist.cons)) (by simp)) (fun kS => ?_); clear hK K; (try simp only [Act.put, List.setIfInBounds_toArray, List.set_cons_zero, List.set_cons_succ])))
            refine callL (i := 11) rfl (by kernel_rfl) (fun K hK => ?_)
            (rw [if_pos (by rfl)]; refine wp_kn_stores (g := gc) (vs := i64s bV) E.out rfl rfl rfl rfl ⟨rfl, by rw [i64s_length]; exact hbl.out⟩ (i64s_one _) ?_; clear E kS; intro u E0; have E := Lib.hid E0; clear E0; (refine hK.out _ _ (E.out.part _ _ (by repeat (first | exact List.Sublist.refl _ | apply List.Sublist.cons_cons | apply List.Sublist.cons)) (by simp)) (fun kS => ?_); clear hK K; (try simp only [Act.put, List.setIfInBounds_toArray, List.set_cons_zero, List.set_cons_succ])))
            refine wpAnyH_done (by kernel_rfl) ?_ _
            go_wp2_with fail
            go_meet
            exact ⟨ga, gc, rfl, rfl, E⟩
        · (rw [if_pos (by rfl)]; refine wp_kn_alloc E.out rfl ?_; clear E kS; intro gc u E0; have E := Lib.hid E0; clear E0; (refine hK.out _ _ (E.out.part _ _ (by repeat (first | exact List.Sublist.refl _ | apply List.Sublist.cons_cons | apply List.Sublist.cons)) (by simp)) (fun kS => ?_); clear hK K; (try simp only [Act.put, List.setIfInBounds_toArray, List.set_cons_zero, List.set_cons_succ])))
          refine callL2 (i := 7) (j := 8) rfl rfl (by kernel_rfl) (fun K hK => ?_) (fun K hK => ?_) 
          · (go_simp; (with_reducible refine (HCB.out _ ?h1 ?h2).mono ?_); (case h1 => exact E.out.get (by simp)); (case h2 => exact E.out.bs (by simp)); rintro e' w1 ⟨rfl, hb⟩; have E1 := Lib.hid (E.out.later hb); clear hb E; have E := E1; clear E1; go_wp2_with fail; (refine hK.out _ _ (E.out.part _ _ (by repeat (first | exact List.Sublist.refl _ | apply List.Sublist.cons_cons | apply List.Sublist.cons)) (by simp)) (fun kS => ?_); clear hK K; (try simp only [Act.put, List.setIfInBounds_toArray, List.set_cons_zero, List.set_cons_succ])))
            refine callL (i := 8) rfl (by kernel_rfl) (fun K hK => ?_) 
            (rw [if_pos (by rfl)]; refine wp_kn_alloc E.out rfl ?_; clear E kS; intro ga u E0; have E := Lib.hid E0; clear E0; (refine hK.out _ _ (E.out.part _ _ (by repeat (first | exact List.Sublist.refl _ | apply List.Sublist.cons_cons | apply List.Sublist.cons)) (by simp)) (fun kS => ?_); clear hK K; (try simp only [Act.put, List.setIfInBounds_toArray, List.set_cons_zero, List.set_cons_succ])))
            refine callL (i := 10) rfl (by kernel_rfl) (fun K hK => ?_)
            (rw [if_pos (by rfl)]; refine wp_kn_stores (g := ga) (vs := i64s aV) E.out rfl rfl rfl rfl ⟨rfl, by rw [i64s_length]; exact hal.out⟩ (i64s_one _) ?_; clear E kS; intro u E0; have E := Lib.hid E0; clear E0; (refine hK.out _ _ (E.out.part _ _ (by repeat (first | exact List.Sublist.refl _ | apply List.Sublist.cons_cons | apply List.Sublist.cons)) (by simp)) (fun kS => ?_); clear hK K; (try simp only [Act.put, List.setIfInBounds_toArray, List.set_cons_zero, List.set_cons_succ])))
            refine callL (i := 11) rfl (by kernel_rfl) (fun K hK => ?_)
            (rw [if_pos (by rfl)]; refine wp_kn_stores (g := gc) (vs := i64s bV) E.out rfl rfl rfl rfl ⟨rfl, by rw [i64s_length]; exact hbl.out⟩ (i64s_one _) ?_; clear E kS; intro u E0; have E := Lib.hid E0; clear E0; (refine hK.out _ _ (E.out.part _ _ (by repeat (first | exact List.Sublist.refl _ | apply List.Sublist.cons_cons | apply List.Sublist.cons)) (by simp)) (fun kS => ?_); clear hK K; (try simp only [Act.put, List.setIfInBounds_toArray, List.set_cons_zero, List.set_cons_succ])))
            refine wpAnyH_done (by kernel_rfl) ?_ _
            go_wp2_with fail
            go_meet
            exact ⟨ga, gc, rfl, rfl, Lib.hid (kn_front (r := .row gc 25 (i64s bV)) E.out)⟩
          · (rw [if_pos (by rfl)]; refine wp_kn_alloc E.out rfl ?_; clear E kS; intro ga u E0; have E := Lib.hid E0; clear E0; (refine hK.out _ _ (E.out.part _ _ (by repeat (first | exact List.Sublist.refl _ | apply List.Sublist.cons_cons | apply List.Sublist.cons)) (by simp)) (fun kS => ?_); clear hK K; (try simp only [Act.put, List.setIfInBounds_toArray, List.set_cons_zero, List.set_cons_succ])))
            refine callL (i := 7) rfl (by kernel_rfl) (fun K hK => ?_) 
            (go_simp; (with_reducible refine (HCB.out _ ?h1 ?h2).mono ?_); (case h1 => exact E.out.get (by simp)); (case h2 => exact E.out.bs (by simp)); rintro e' w1 ⟨rfl, hb⟩; have E1 := Lib.hid (E.out.later hb); clear hb E; have E := E1; clear E1; go_wp2_with fail; (refine hK.out _ _ (E.out.part _ _ (by repeat (first | exact List.Sublist.refl _ | apply List.Sublist.cons_cons | apply List.Sublist.cons)) (by simp)) (fun kS => ?_); clear hK K; (try simp only [Act.put, List.setIfInBounds_toArray, List.set_cons_zero, List.set_cons_succ])))
            refine callL (i := 10) rfl (by kernel_rfl) (fun K hK => ?_)
            (rw [if_pos (by rfl)]; refine wp_kn_stores (g := ga) (vs := i64s aV) E.out rfl rfl rfl rfl ⟨rfl, by rw [i64s_length]; exact hal.out⟩ (i64s_one _) ?_; clear E kS; intro u E0; have E := Lib.hid E0; clear E0; (refine hK.out _ _ (E.out.part _ _ (by repeat (first | exact List.Sublist.refl _ | apply List.Sublist.cons_cons | apply List.Sublist.cons)) (by simp)) (fun kS => ?_); clear hK K; (try simp only [Act.put, List.setIfInBounds_toArray, List.set_cons_zero, List.set_cons_succ])))
            refine callL (i := 11) rfl (by kernel_rfl) (fun K hK => ?_)
            (rw [if_pos (by rfl)]; refine wp_kn_stores (g := gc) (vs := i64s bV) E.out rfl rfl rfl rfl ⟨rfl, by rw [i64s_length]; exact hbl.out⟩ (i64s_one _) ?_; clear E kS; intro u E0; have E := Lib.hid E0; clear E0; (refine hK.out _ _ (E.out.part _ _ (by repeat (first | exact List.Sublist.refl _ | apply List.Sublist.cons_cons | apply List.Sublist.cons)) (by simp)) (fun kS => ?_); clear hK K; (try simp only [Act.put, List.setIfInBounds_toArray, List.set_cons_zero, List.set_cons_succ])))
            refine wpAnyH_done (by kernel_rfl) ?_ _
            go_wp2_with fail
            go_meet
            exact ⟨ga, gc, rfl, rfl, Lib.hid (kn_front (r := .row gc 25 (i64s bV)) E.out)⟩
      · (rw [if_pos (by rfl)]; refine wp_kn_alloc E.out rfl ?_; clear E kS; intro ga u E0; have E := Lib.hid E0; clear E0; (refine hK.out _ _ (E.out.part _ _ (by repeat (first | exact List.Sublist.refl _ | apply List.Sublist.cons_cons | apply List.Sublist.cons)) (by simp)) (fun kS => ?_); clear hK K; (try simp only [Act.put, List.setIfInBounds_toArray, List.set_cons_zero, List.set_cons_succ])))
        refine callL2 (i := 3) (j := 9) rfl rfl (by kernel_rfl) (fun K hK => ?_) (fun K hK => ?_) 
        · (go_simp; (with_reducible refine (HCA.out _ ?h1 ?h2).mono ?_); (case h1 => exact E.out.get (by simp)); (case h2 => exact E.out.bs (by simp)); rintro e' w1 ⟨rfl, hb⟩; have E1 := Lib.hid (E.out.later hb); clear hb E; have E := E1; clear E1; go_wp2_with fail; (refine hK.out _ _ (E.out.part _ _ (by repeat (first | exact List.Sublist.refl _ | apply List.Sublist.cons_cons | apply List.Sublist.cons)) (by simp)) (fun kS => ?_); clear hK K; (try simp only [Act.put, List.setIfInBounds_toArray, List.set_cons_zero, List.set_cons_succ])))
          refine callL2 (i := 7) (j := 9) rfl rfl (by kernel_rfl) (fun K hK => ?_) (fun K hK => ?_) 
          · (go_simp; (with_reducible refine (HCB.out _ ?h1 ?h2).mono ?_); (case h1 => exact E.out.get (by simp)); (case h2 => exact E.out.bs (by simp)); rintro e' w1 ⟨rfl, hb⟩; have E1 := Lib.hid (E.out.later hb); clear hb E; have E := E1; clear E1; go_wp2_with fail; (refine hK.out _ _ (E.out.part _ _ (by repeat (first | exact List.Sublist.refl _ | apply List.Sublist.cons_cons | apply List.Sublist.cons)) (by simp)) (fun kS => ?_); clear hK K; (try simp only [Act.put, List.setIfInBounds_toArray, List.set_cons_zero, List.set_cons_succ])))
            refine callL (i := 9) rfl (by kernel_rfl) (fun K hK => ?_) 
            (rw [if_pos (by rfl)]; refine wp_kn_alloc E.out rfl ?_; clear E kS; intro gc u E0; have E := Lib.hid E0; clear E0; (refine hK.out _ _ (E.out.part _ _ (by repeat (first | exact List.Sublist.refl _ | apply List.Sublist.cons_cons | apply List.Sublist.cons)) (by simp)) (fun kS => ?_); clear hK K; (try simp only [Act.put, List.setIfInBounds_toArray, List.set_cons_zero, List.set_cons_succ])))
            refine callL (i := 10) rfl (by kernel_rfl) (fun K hK => ?_)
            (rw [if_pos (by rfl)]; refine wp_kn_stores (g := ga) (vs := i64s aV) E.out rfl rfl rfl rfl ⟨rfl, by rw [i64s_length]; exact hal.out⟩ (i64s_one _) ?_; clear E kS; intro u E0; have E := Lib.hid E0; clear E0; (refine hK.out _ _ (E.out.part _ _ (by repeat (first | exact List.Sublist.refl _ | apply List.Sublist.cons_cons | apply List.Sublist.cons)) (by simp)) (fun kS => ?_); clear hK K; (try simp only [Act.put, List.setIfInBounds_toArray, List.set_cons_zero, List.set_cons_succ])))
            refine callL (i := 11) rfl (by kernel_rfl) (fun K hK => ?_)
            (rw [if_pos (by rfl)]; refine wp_kn_stores (g := gc) (vs := i64s bV) E.out rfl rfl rfl rfl ⟨rfl, by rw [i64s_length]; exact hbl.out⟩ (i64s_one _) ?_; clear E kS; intro u E0; have E := Lib.hid E0; clear E0; (refine hK.out _ _ (E.out.part _ _ (by repeat (first | exact List.Sublist.refl _ | apply List.Sublist.cons_cons | apply List.Sublist.cons)) (by simp)) (fun kS => ?_); clear hK K; (try simp only [Act.put, List.setIfInBounds_toArray, List.set_cons_zero, List.set_cons_succ])))
            refine wpAnyH_done (by kernel_rfl) ?_ _
            go_wp2_with fail
            go_meet
            exact ⟨ga, gc, rfl, rfl, E⟩
          · (rw [if_pos (by rfl)]; refine wp_kn_alloc E.out rfl ?_; clear E kS; intro gc u E0; have E := Lib.hid E0; clear E0; (refine hK.out _ _ (E.out.part _ _ (by repeat (first | exact List.Sublist.refl _ | apply List.Sublist.cons_cons | apply List.Sublist.cons)) (by simp)) (fun kS => ?_); clear hK K; (try simp only [Act.put, List.setIfInBounds_toArray, List.set_cons_zero, List.set_cons_succ])))
            refine callL (i := 7) rfl (by kernel_rfl) (fun K hK => ?_) 
            (go_simp; (with_reducible refine (HCB.out _ ?h1 ?h2).mono ?_); (case h1 => exact E.out.get (by simp)); (case h2 => exact E.out.bs (by simp)); rintro e' w1 ⟨rfl, hb⟩; have E1 := Lib.hid (E.out.later hb); clear hb E; have E := E1; clear E1; go_wp2_with fail; (refine hK.out _ _ (E.out.part _ _ (by repeat (first | exact List.Sublist.refl _ | apply List.Sublist.cons_cons | apply List.Sublist.cons)) (by simp)) (fun kS => ?_); clear hK K; (try simp only [Act.put, List.setIfInBounds_toArray, List.set_cons_zero, List.set_cons_succ])))
            refine callL (i := 10) rfl (by kernel_rfl) (fun K hK => ?_)
            (rw [if_pos (by rfl)]; refine wp_kn_stores (g := ga) (vs := i64s aV) E.out rfl rfl rfl rfl ⟨rfl, by rw [i64s_length]; exact hal.out⟩ (i64s_one _) ?_; clear E kS; intro u E0; have E := Lib.hid E0; clear E0; (refine hK.out _ _ (E.out.part _ _ (by repeat (first | exact List.Sublist.refl _ | apply List.Sublist.cons_cons | apply List.Sublist.cons)) (by simp)) (fun kS => ?_); clear hK K; (try simp only [Act.put, List.setIfInBounds_toArray, List.set_cons_zero, List.set_cons_succ])))
            refine callL (i := 11) rfl (by kernel_rfl) (fun K hK => ?_)
            (rw [if_pos (by rfl)]; refine wp_kn_stores (g := gc) (vs := i64s bV) E.out rfl rfl rfl rfl ⟨rfl, by rw [i64s_length]; exact hbl.out⟩ (i64s_one _) ?_; clear E kS; intro u E0; have E := Lib.hid E0; clear E0; (refine hK.out _ _ (E.out.part _ _ (by repeat (first | exact List.Sublist.refl _ | apply List.Sublist.cons_cons | apply List.Sublist.cons)) (by simp)) (fun kS => ?_); clear hK K; (try simp only [Act.put, List.setIfInBounds_toArray, List.set_cons_zero, List.set_cons_succ])))
            refine wpAnyH_done (by kernel_rfl) ?_ _
            go_wp2_with fail
            go_meet
            exact ⟨ga, gc, rfl, rfl, E⟩
        · (rw [if_pos (by rfl)]; refine wp_kn_alloc E.out rfl ?_; clear E kS; intro gc u E0; have E := Lib.hid E0; clear E0; (refine hK.out _ _ (E.out.part _ _ (by repeat (first | exact List.Sublist.refl _ | apply List.Sublist.cons_cons | apply List.Sublist.cons)) (by simp)) (fun kS => ?_); clear hK K; (try simp only [Act.put, List.setIfInBounds_toArray, List.set_cons_zero, List.set_cons_succ])))
          refine callL (i := 3) rfl (by kernel_rfl) (fun K hK => ?_) 
          (go_simp; (with_reducible refine (HCA.out _ ?h1 ?h2).mono ?_); (case h1 => exact E.out.get (by simp)); (case h2 => exact E.out.bs (by simp)); rintro e' w1 ⟨rfl, hb⟩; have E1 := Lib.hid (E.out.later hb); clear hb E; have E := E1; clear E1; go_wp2_with fail; (refine hK.out _ _ (E.out.part _ _ (by repeat (first | exact List.Sublist.refl _ | apply List.Sublist.cons_cons | apply List.Sublist.cons)) (by simp)) (fun kS => ?_); clear hK K; (try simp only [Act.put, List.setIfInBounds_toArray, List.set_cons_zero, List.set_cons_succ])))
          refine callL (i := 7) rfl (by kernel_rfl) (fun K hK => ?_) 
          (go_simp; (with_reducible refine (HCB.out _ ?h1 ?h2).mono ?_); (case h1 => exact E.out.get (by simp)); (case h2 => exact E.out.bs (by simp)); rintro e' w1 ⟨rfl, hb⟩; have E1 := Lib.hid (E.out.later hb); clear hb E; have E := E1; clear E1; go_wp2_with fail; (refine hK.out _ _ (E.out.part _ _ (by repeat (first | exact List.Sublist.refl _ | apply List.Sublist.cons_cons | apply List.Sublist.cons)) (by simp)) (fun kS => ?_); clear hK K; (try simp only [Act.put, List.setIfInBounds_toArray, List.set_cons_zero, List.set_cons_succ])))
          refine callL (i := 10) rfl (by kernel_rfl) (fun K hK => ?_)
          (rw [if_pos (by rfl)]; refine wp_kn_stores (g := ga) (vs := i64s aV) E.out rfl rfl rfl rfl ⟨rfl, by rw [i64s_length]; exact hal.out⟩ (i64s_one _) ?_; clear E kS; intro u E0; have E := Lib.hid E0; clear E0; (refine hK.out _ _ (E.out.part _ _ (by repeat (first | exact List.Sublist.refl _ | apply List.Sublist.cons_cons | apply List.Sublist.cons)) (by simp)) (fun kS => ?_); clear hK K; (try simp only [Act.put, List.setIfInBounds_toArray, List.set_cons_zero, List.set_cons_succ])))
          refine callL (i := 11) rfl (by kernel_rfl) (fun K hK => ?_)
          (rw [if_pos (by rfl)]; refine wp_kn_stores (g := gc) (vs := i64s bV) E.out rfl rfl rfl rfl ⟨rfl, by rw [i64s_length]; exact hbl.out⟩ (i64s_one _) ?_; clear E kS; intro u E0; have E := Lib.hid E0; clear E0; (refine hK.out _ _ (E.out.part _ _ (by repeat (first | exact List.Sublist.refl _ | apply List.Sublist.cons_cons | apply List.Sublist.cons)) (by simp)) (fun kS => ?_); clear hK K; (try simp only [Act.put, List.setIfInBounds_toArray, List.set_cons_zero, List.set_cons_succ])))
          refine wpAnyH_done (by kernel_rfl) ?_ _
          go_wp2_with fail
          go_meet
          exact ⟨ga, gc, rfl, rfl, E⟩
      · (rw [if_pos (by rfl)]; refine wp_kn_alloc E.out rfl ?_; clear E kS; intro gc u E0; have E := Lib.hid E0; clear E0; (refine hK.out _ _ (E.out.part _ _ (by repeat (first | exact List.Sublist.refl _ | apply List.Sublist.cons_cons | apply List.Sublist.cons)) (by simp)) (fun kS => ?_); clear hK K; (try simp only [Act.put, List.setIfInBounds_toArray, List.set_cons_zero, List.set_cons_succ])))
        refine callL2 (i := 3) (j := 8) rfl rfl (by kernel_rfl) (fun K hK => ?_) (fun K hK => ?_) 
        · (go_simp; (with_reducible refine (HCA.out _ ?h1 ?h2).mono ?_); (case h1 => exact E.out.get (by simp)); (case h2 => exact E.out.bs (by simp)); rintro e' w1 ⟨rfl, hb⟩; have E1 := Lib.hid (E.out.later hb); clear hb E; have E := E1; clear E1; go_wp2_with fail; (refine hK.out _ _ (E.out.part _ _ (by repeat (first | exact List.Sublist.refl _ | apply List.Sublist.cons_cons | apply List.Sublist.cons)) (by simp)) (fun kS => ?_); clear hK K; (try simp only [Act.put, List.setIfInBounds_toArray, List.set_cons_zero, List.set_cons_succ])))
          refine callL2 (i := 7) (j := 8) rfl rfl (by kernel_rfl) (fun K hK => ?_) (fun K hK => ?_) 
          · (go_simp; (with_reducible refine (HCB.out _ ?h1 ?h2).mono ?_); (case h1 => exact E.out.get (by simp)); (case h2 => exact E.out.bs (by simp)); rintro e' w1 ⟨rfl, hb⟩; have E1 := Lib.hid (E.out.later hb); clear hb E; have E := E1; clear E1; go_wp2_with fail; (refine hK.out _ _ (E.out.part _ _ (by repeat (first | exact List.Sublist.refl _ | apply List.Sublist.cons_cons | apply List.Sublist.cons)) (by simp)) (fun kS => ?_); clear hK K; (try simp only [Act.put, List.setIfInBounds_toArray, List.set_cons_zero, List.set_cons_succ])))
            refine callL (i := 8) rfl (by kernel_rfl) (fun K hK => ?_) 
            (rw [if_pos (by rfl)]; refine wp_kn_alloc E.out rfl ?_; clear E kS; intro ga u E0; have E := Lib.hid E0; clear E0; (refine hK.out _ _ (E.out.part _ _ (by repeat (first | exact List.Sublist.refl _ | apply List.Sublist.cons_cons | apply List.Sublist.cons)) (by simp)) (fun kS => ?_); clear hK K; (try simp only [Act.put, List.setIfInBounds_toArray, List.set_cons_zero, List.set_cons_succ])))
            refine callL (i := 10) rfl (by kernel_rfl) (fun K hK => ?_)
            (rw [if_pos (by rfl)]; refine wp_kn_stores (g := ga) (vs := i64s aV) E.out rfl rfl rfl rfl ⟨rfl, by rw [i64s_length]; exact hal.out⟩ (i64s_one _) ?_; clear E kS; intro u E0; have E := Lib.hid E0; clear E0; (refine hK.out _ _ (E.out.part _ _ (by repeat (first | exact List.Sublist.refl _ | apply List.Sublist.cons_cons | apply List.Sublist.cons)) (by simp)) (fun kS => ?_); clear hK K; (try simp only [Act.put, List.setIfInBounds_toArray, List.set_cons_zero, List.set_cons_succ])))
            refine callL (i := 11) rfl (by kernel_rfl) (fun K hK => ?_)
            (rw [if_pos (by rfl)]; refine wp_kn_stores (g := gc) (vs := i64s bV) E.out rfl rfl rfl rfl ⟨rfl, by rw [i64s_length]; exact hbl.out⟩ (i64s_one _) ?_; clear E kS; intro u E0; have E := Lib.hid E0; clear E0; (refine hK.out _ _ (E.out.part _ _ (by repeat (first | exact List.Sublist.refl _ | apply List.Sublist.cons_cons | apply List.Sublist.cons)) (by simp)) (fun kS => ?_); clear hK K; (try simp only [Act.put, List.setIfInBounds_toArray, List.set_cons_zero, List.set_cons_succ])))
            refine wpAnyH_done (by kernel_rfl) ?_ _
            go_wp2_with fail
            go_meet
            exact ⟨ga, gc, rfl, rfl, Lib.hid (kn_front (r := .row gc 25 (i64s bV)) E.out)⟩
          · (rw [if_pos (by rfl)]; refine wp_kn_alloc E.out rfl ?_; clear E kS; intro ga u E0; have E := Lib.hid E0; clear E0; (refine hK.out _ _ (E.out.part _ _ (by repeat (first | exact List.Sublist.refl _ | apply List.Sublist.cons_cons | apply List.Sublist.cons)) (by simp)) (fun kS => ?_); clear hK K; (try simp only [Act.put, List.setIfInBounds_toArray, List.set_cons_zero, List.set_cons_succ])))
            refine callL (i := 7) rfl (by kernel_rfl) (fun K hK => ?_) 
            (go_simp; (with_reducible refine (HCB.out _ ?h1 ?h2).mono ?_); (case h1 => exact E.out.get (by simp)); (case h2 => exact E.out.bs (by simp)); rintro e' w1 ⟨rfl, hb⟩; have E1 := Lib.hid (E.out.later hb); clear hb E; have E := E1; clear E1; go_wp2_with fail; (refine hK.out _ _ (E.out.part _ _ (by repeat (first | exact List.Sublist.refl _ | apply List.Sublist.cons_cons | apply List.Sublist.cons)) (by simp)) (fun kS => ?_); clear hK K; (try simp only [Act.put, List.setIfInBounds_toArray, List.set_cons_zero, List.set_cons_succ])))
            refine callL (i := 10) rfl (by kernel_rfl) (fun K hK => ?_)
            (rw [if_pos (by rfl)]; refine wp_kn_stores (g := ga) (vs := i64s aV) E.out rfl rfl rfl rfl ⟨rfl, by rw [i64s_length]; exact hal.out⟩ (i64s_one _) ?_; clear E kS; intro u E0; have E := Lib.hid E0; clear E0; (refine hK.out _ _ (E.out.part _ _ (by repeat (first | exact List.Sublist.refl _ | apply List.Sublist.cons_cons | apply List.Sublist.cons)) (by simp)) (fun kS => ?_); clear hK K; (try simp only [Act.put, List.setIfInBounds_toArray, List.set_cons_zero, List.set_cons_succ])))
            refine callL (i := 11) rfl (by kernel_rfl) (fun K hK => ?_)
            (rw [if_pos (by rfl)]; refine wp_kn_stores (g := gc) (vs := i64s bV) E.out rfl rfl rfl rfl ⟨rfl, by rw [i64s_length]; exact hbl.out⟩ (i64s_one _) ?_; clear E kS; intro u E0; have E := Lib.hid E0; clear E0; (refine hK.out _ _ (E.out.part _ _ (by repeat (first | exact List.Sublist.refl _ | apply List.Sublist.cons_cons | apply List.Sublist.cons)) (by simp)) (fun kS => ?_); clear hK K; (try simp only [Act.put, List.setIfInBounds_toArray, List.set_cons_zero, List.set_cons_succ])))
            refine wpAnyH_done (by kernel_rfl) ?_ _
            go_wp2_with fail
            go_meet
            exact ⟨ga, gc, rfl, rfl, Lib.hid (kn_front (r := .row gc 25 (i64s bV)) E.out)⟩
        · (rw [if_pos (by rfl)]; refine wp_kn_alloc E.out rfl ?_; clear E kS; intro ga u E0; have E := Lib.hid E0; clear E0; (refine hK.out _ _ (E.out.part _ _ (by repeat (first | exact List.Sublist.refl _ | apply List.Sublist.cons_cons | apply List.Sublist.cons)) (by simp)) (fun kS => ?_); clear hK K; (try simp only [Act.put, List.setIfInBounds_toArray, List.set_cons_zero, List.set_cons_succ])))
          refine callL (i := 3) rfl (by kernel_rfl) (fun K hK => ?_) 
          (go_simp; (with_reducible refine (HCA.out _ ?h1 ?h2).mono ?_); (case h1 => exact E.out.get (by simp)); (case h2 => exact E.out.bs (by simp)); rintro e' w1 ⟨rfl, hb⟩; have E1 := Lib.hid (E.out.later hb); clear hb E; have E := E1; clear E1; go_wp2_with fail; (refine hK.out _ _ (E.out.part _ _ (by repeat (first | exact List.Sublist.refl _ | apply List.Sublist.cons_cons | apply List.Sublist.cons)) (by simp)) (fun kS => ?_); clear hK K; (try simp only [Act.put, List.setIfInBounds_toArray, List.set_cons_zero, List.set_cons_succ])))
          refine callL (i := 7) rfl (by kernel_rfl) (fun K hK => ?_) 
          (go_simp; (with_reducible refine (HCB.out _ ?h1 ?h2).mono ?_); (case h1 => exact E.out.get (by simp)); (case h2 => exact E.out.bs (by simp)); rintro e' w1 ⟨rfl, hb⟩; have E1 := Lib.hid (E.out.later hb); clear hb E; have E := E1; clear E1; go_wp2_with fail; (refine hK.out _ _ (E.out.part _ _ (by repeat (first | exact List.Sublist.refl _ | apply List.Sublist.cons_cons | apply List.Sublist.cons)) (by simp)) (fun kS => ?_); clear hK K; (try simp only [Act.put, List.setIfInBounds_toArray, List.set_cons_zero, List.set_cons_succ])))
          refine callL (i := 10) rfl (by kernel_rfl) (fun K hK => ?_)
          (rw [if_pos (by rfl)]; refine wp_kn_stores (g := ga) (vs := i64s aV) E.out rfl rfl rfl rfl ⟨rfl, by rw [i64s_length]; exact hal.out⟩ (i64s_one _) ?_; clear E kS; intro u E0; have E := Lib.hid E0; clear E0; (refine hK.out _ _ (E.out.part _ _ (by repeat (first | exact List.Sublist.refl _ | apply List.Sublist.cons_cons | apply List.Sublist.cons)) (by simp)) (fun kS => ?_); clear hK K; (try simp only [Act.put, List.setIfInBounds_toArray, List.set_cons_zero, List.set_cons_succ])))
          refine callL (i := 11) rfl (by kernel_rfl) (fun K hK => ?_)
          (rw [if_pos (by rfl)]; refine wp_kn_stores (g := gc) (vs := i64s bV) E.out rfl rfl rfl rfl ⟨rfl, by rw [i64s_length]; exact hbl.out⟩ (i64s_one _) ?_; clear E kS; intro u E0; have E := Lib.hid E0; clear E0; (refine hK.out _ _ (E.out.part _ _ (by repeat (first | exact List.Sublist.refl _ | apply List.Sublist.cons_cons | apply List.Sublist.cons)) (by simp)) (fun kS => ?_); clear hK K; (try simp only [Act.put, List.setIfInBounds_toArray, List.set_cons_zero, List.set_cons_succ])))
          refine wpAnyH_done (by kernel_rfl) ?_ _
          go_wp2_with fail
          go_meet
          exact ⟨ga, gc, rfl, rfl, Lib.hid (kn_front (r := .row gc 25 (i64s bV)) E.out)⟩
    case rest =>
      clear E
      obtain ⟨ga, gc, rfl, rfl, E⟩ := hcut
      go_wp2_with (first
        | (go_at_call 12; (with_reducible refine (HDi.out _ ?h1).mono ?_); (case h1 => exact E.out.get (by simp)); rintro e w1 ⟨rfl, rfl⟩)
        | ((with_reducible refine kn_load E.out rfl rfl rfl rfl ?_)) | ((with_reducible refine kn_load_if E.out rfl rfl rfl rfl ?_)) | ((with_reducible refine kn_loads E.out rfl rfl rfl ?_ ?_); (focus (first | rfl | (simp only [i64s_length, u8s_length]; first | rfl | assumption | omega)))) | ((with_reducible refine kn_loads_if E.out rfl rfl rfl ?_ ?_); (focus (first | rfl | (simp only [i64s_length, u8s_length]; first | rfl | assumption | omega)))) | ((with_reducible refine kn_stores E.out rfl rfl rfl rfl rfl ?_ ?_ ?_); (focus (first | exact ⟨rfl, rfl⟩ | (simp only [i64s_length, u8s_length]; refine ⟨?_, ?_⟩ <;> first | rfl | assumption | omega))); (focus (first | exact i64s_one _ | exact u8s_one _ | simp [Value.oneCell'])); clear E; intro u E0; have E := Lib.hid E0; clear E0))
      refine wp_region_held_drew (S := Kn w [.row gc 25 (i64s bV), .row ga 25 (i64s aV), .row g1 57 B] []) (by kernel_rfl) (E.out.drew.part _ _ (by repeat (first | exact List.Sublist.refl _ | apply List.Sublist.cons_cons | apply List.Sublist.cons)) (by simp)) (fun kS => ?_)
      have E1 := Lib.hid E.out.drew
      generalize World.drew _ = u1 at kS E1 ⊢
      clear E
      have E := E1
      clear E1
      (refine takeL (i := 0) (v := .agg B.toArray) rfl (by kernel_rfl) (by kernel_rfl) (by kernel_rfl) (fun _ _ _ h => h) (yield_loads (g := g1) rfl rfl rfl hB) kS ?_; (try simp only [Act.put, List.setIfInBounds_toArray, List.set_cons_zero, List.set_cons_succ]))
      (refine takeL (i := 1) (v := _) rfl (by kernel_rfl) (by kernel_rfl) (by kernel_rfl) (fun _ _ _ h => h) (yield_loads (g := ga) rfl rfl rfl (by rw [i64s_length]; exact hal.out)) kS ?_; (try simp only [Act.put, List.setIfInBounds_toArray, List.set_cons_zero, List.set_cons_succ]))
      (refine takeL (i := 2) (v := _) rfl (by kernel_rfl) (by kernel_rfl) (by kernel_rfl) (fun _ _ _ h => h) (by first | exact Or.inl ⟨by rfl, (by intro u hSu; clear hSu; go_simp; try with_reducible rfl)⟩ | exact Or.inr ⟨by rfl, rfl⟩) kS ?_; (try simp only [Act.put, List.setIfInBounds_toArray, List.set_cons_zero, List.set_cons_succ]))
      (refine takeL (i := 4) (v := _) rfl (by kernel_rfl) (by kernel_rfl) (by kernel_rfl) (fun _ _ _ h => h) (yield_loads (g := ga) rfl rfl rfl (by rw [i64s_length]; exact hal.out)) kS ?_; (try simp only [Act.put, List.setIfInBounds_toArray, List.set_cons_zero, List.set_cons_succ]))
      (refine takeL (i := 5) (v := _) rfl (by kernel_rfl) (by kernel_rfl) (by kernel_rfl) (fun _ _ _ h => h) (by first | exact Or.inl ⟨by rfl, (by intro u hSu; clear hSu; go_simp; try with_reducible rfl)⟩ | exact Or.inr ⟨by rfl, rfl⟩) kS ?_; (try simp only [Act.put, List.setIfInBounds_toArray, List.set_cons_zero, List.set_cons_succ])); (refine takeL (i := 6) (v := _) rfl (by kernel_rfl) (by kernel_rfl) (by kernel_rfl) (fun _ _ _ h => h) (by first | exact Or.inl ⟨by rfl, (by intro u hSu; clear hSu; go_simp; try with_reducible rfl)⟩ | exact Or.inr ⟨by rfl, rfl⟩) kS ?_; (try simp only [Act.put, List.setIfInBounds_toArray, List.set_cons_zero, List.set_cons_succ]))
      try rw [hneg.out]
      (refine takeL (i := 8) (v := _) rfl (by kernel_rfl) (by kernel_rfl) (by kernel_rfl) (fun _ _ _ h => h) (yield_loads (g := gc) rfl rfl rfl (by rw [i64s_length]; exact hbl.out)) kS ?_; (try simp only [Act.put, List.setIfInBounds_toArray, List.set_cons_zero, List.set_cons_succ]))
      (refine takeL (i := 9) (v := _) rfl (by kernel_rfl) (by kernel_rfl) (by kernel_rfl) (fun _ _ _ h => h) (by first | exact Or.inl ⟨by rfl, (by intro u hSu; clear hSu; go_simp; try with_reducible rfl)⟩ | exact Or.inr ⟨by rfl, rfl⟩) kS ?_; (try simp only [Act.put, List.setIfInBounds_toArray, List.set_cons_zero, List.set_cons_succ]))
      (refine takeL (i := 11) (v := _) rfl (by kernel_rfl) (by kernel_rfl) (by kernel_rfl) (fun _ _ _ h => h) (yield_loads (g := gc) rfl rfl rfl (by rw [i64s_length]; exact hbl.out)) kS ?_; (try simp only [Act.put, List.setIfInBounds_toArray, List.set_cons_zero, List.set_cons_succ]))
      (refine takeL (i := 12) (v := _) rfl (by kernel_rfl) (by kernel_rfl) (by kernel_rfl) (fun _ _ _ h => h) (by first | exact Or.inl ⟨by rfl, (by intro u hSu; clear hSu; go_simp; try with_reducible rfl)⟩ | exact Or.inr ⟨by rfl, rfl⟩) kS ?_; (try simp only [Act.put, List.setIfInBounds_toArray, List.set_cons_zero, List.set_cons_succ])); (refine takeL (i := 13) (v := _) rfl (by kernel_rfl) (by kernel_rfl) (by kernel_rfl) (fun _ _ _ h => h) (by first | exact Or.inl ⟨by rfl, (by intro u hSu; clear hSu; go_simp; try with_reducible rfl)⟩ | exact Or.inr ⟨by rfl, rfl⟩) kS ?_; (try simp only [Act.put, List.setIfInBounds_toArray, List.set_cons_zero, List.set_cons_succ]))
      try rw [hneg.out]
      refine callL (i := 3) rfl (by kernel_rfl) (fun K hK => ?_)
      (go_simp; (with_reducible refine (HSap.out _).mono ?_); rintro e' w1 ⟨rfl, hb⟩; have E1 := Lib.hid (E.out.later hb); clear hb E; have E := E1; clear E1; go_wp2_with fail; (refine hK.out _ _ (E.out.part _ _ (by repeat (first | exact List.Sublist.refl _ | apply List.Sublist.cons_cons | apply List.Sublist.cons)) (by simp)) (fun kS => ?_); clear hK K; (try simp only [Act.put, List.setIfInBounds_toArray, List.set_cons_zero, List.set_cons_succ])))
      refine callL (i := 7) rfl (by kernel_rfl) (fun K hK => ?_)
      (go_simp; (with_reducible refine (HSam.out _).mono ?_); rintro e' w1 ⟨rfl, hb⟩; have E1 := Lib.hid (E.out.later hb); clear hb E; have E := E1; clear E1; go_wp2_with fail; (refine hK.out _ _ (E.out.part _ _ (by repeat (first | exact List.Sublist.refl _ | apply List.Sublist.cons_cons | apply List.Sublist.cons)) (by simp)) (fun kS => ?_); clear hK K; (try simp only [Act.put, List.setIfInBounds_toArray, List.set_cons_zero, List.set_cons_succ])))
      refine callL (i := 10) rfl (by kernel_rfl) (fun K hK => ?_)
      (go_simp; (with_reducible refine (HSbp.out _).mono ?_); rintro e' w1 ⟨rfl, hb⟩; have E1 := Lib.hid (E.out.later hb); clear hb E; have E := E1; clear E1; go_wp2_with fail; (refine hK.out _ _ (E.out.part _ _ (by repeat (first | exact List.Sublist.refl _ | apply List.Sublist.cons_cons | apply List.Sublist.cons)) (by simp)) (fun kS => ?_); clear hK K; (try simp only [Act.put, List.setIfInBounds_toArray, List.set_cons_zero, List.set_cons_succ])))
      refine callL (i := 14) rfl (by kernel_rfl) (fun K hK => ?_)
      (go_simp; (with_reducible refine (HSbm.out _).mono ?_); rintro e' w1 ⟨rfl, hb⟩; have E1 := Lib.hid (E.out.later hb); clear hb E; have E := E1; clear E1; go_wp2_with fail; (refine hK.out _ _ (E.out.part _ _ (by repeat (first | exact List.Sublist.refl _ | apply List.Sublist.cons_cons | apply List.Sublist.cons)) (by simp)) (fun kS => ?_); clear hK K; (try simp only [Act.put, List.setIfInBounds_toArray, List.set_cons_zero, List.set_cons_succ])))
      (refine takeL (i := 15) (v := arr FR) rfl (by kernel_rfl) (by kernel_rfl) (by kernel_rfl) (fun _ _ _ h => h) (yield_build4 rfl rfl hBt (by simp only [List.map_toArray, List.map_cons, List.map_nil]; rfl)) kS ?_; (try simp only [Act.put, List.setIfInBounds_toArray, List.set_cons_zero, List.set_cons_succ]))
      refine callL (i := 16) rfl (by kernel_rfl) (fun K hK => ?_)
      (go_simp; (with_reducible refine (HCh.out _).mono ?_); rintro e' w1 ⟨rfl, hb⟩; have E1 := Lib.hid (E.out.later hb); clear hb E; have E := E1; clear E1; go_wp2_with fail; (refine hK.out _ _ (E.out.part _ _ (by repeat (first | exact List.Sublist.refl _ | apply List.Sublist.cons_cons | apply List.Sublist.cons)) (by simp)) (fun kS => ?_); clear hK K; (try simp only [Act.put, List.setIfInBounds_toArray, List.set_cons_zero, List.set_cons_succ])))
      refine callL (i := 17) rfl (by kernel_rfl) (fun K hK => ?_)
      (rw [if_pos (by rfl)]; refine wp_kn_stores (g := g2) (vs := i64s CV) E.out rfl rfl rfl rfl ⟨rfl, by rw [i64s_length]; exact hchl.out⟩ (i64s_one _) ?_; clear E kS; intro u E0; have E := Lib.hid E0; clear E0; (refine hK.out _ _ (E.out.part _ _ (by repeat (first | exact List.Sublist.refl _ | apply List.Sublist.cons_cons | apply List.Sublist.cons)) (by simp)) (fun kS => ?_); clear hK K; (try simp only [Act.put, List.setIfInBounds_toArray, List.set_cons_zero, List.set_cons_succ])))
      refine wpAnyH_done (by kernel_rfl) ?_ _
      go_wp2_with fail
      refine bodyPost_ret (results_kn E.out rfl _ rfl (by rw [i64s_length]; exact hchl.out)) rfl ?_
      exact ⟨rfl, E.out.bel⟩
end Go.Proofs.YtgcijioiicmjiaaDoor
