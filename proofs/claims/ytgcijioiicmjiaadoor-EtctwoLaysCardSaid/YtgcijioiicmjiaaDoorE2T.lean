/- ETC2 blocks, the program's: the texels of T. -/
import Derived.Test.YtgcijioiicmjiaaDoorG9
import Derived.Deep.DeepCutAuto
set_option linter.all false
namespace Go.Proofs.YtgcijioiicmjiaaDoor
open Go.RowKit
open Bi Lv Eo Et

section
variable {P : Program} {Q : Exit → Act → World → Prop} {md : Region.Mode} {S : World → Prop}
theorem callL3 {l : List Oper} {i j k : Nat} {o o' o'' : Oper} {tl tl' tl'' : List Oper} {fuel : Nat} {listed : Array Bool} {a : Act} {w : World} (hd : l.drop i = o :: tl) (hd' : l.drop j = o' :: tl') (hd'' : l.drop k = o'' :: tl'') (hr : Region.ready md l.toArray listed = [i, j, k])
    (h : ∀ K' : Act → World → Prop, Shut (∀ a w, S w → (S w → wpAnyH P md l.toArray Q S fuel (listed.setIfInBounds i true) a w) → K' a w) → if Region.wanted o (yielded l.toArray a.tmps) = true then Oper.wp P o a w K' Q else K' (a.put o.dst undef) w)
    (h' : ∀ K' : Act → World → Prop, Shut (∀ a w, S w → (S w → wpAnyH P md l.toArray Q S fuel (listed.setIfInBounds j true) a w) → K' a w) → if Region.wanted o' (yielded l.toArray a.tmps) = true then Oper.wp P o' a w K' Q else K' (a.put o'.dst undef) w)
    (h'' : ∀ K' : Act → World → Prop, Shut (∀ a w, S w → (S w → wpAnyH P md l.toArray Q S fuel (listed.setIfInBounds k true) a w) → K' a w) → if Region.wanted o'' (yielded l.toArray a.tmps) = true then Oper.wp P o'' a w K' Q else K' (a.put o''.dst undef) w) :
    wpAnyH P md l.toArray Q S (fuel + 1) listed a w :=
  wpAnyH_ready hr (by simp) (AllReadyH.cons (get_of_drop hd) h (AllReadyH.cons (get_of_drop hd') h' (AllReadyH.cons (get_of_drop hd'') h'' AllReadyH.nil)))
end
theorem kn_front {w u : World} {R R' : List Res} {F : List (World → Prop)} {r : Res} (E : Kn w R F u) [P : Pull R r R'] : Kn w (r :: R') F u := by
  obtain ⟨R1, R2, rfl, rfl⟩ := P.h
  exact E.perm List.perm_middle
theorem yield_build4 {S : World → Prop} {ops : Array Oper} {o : Oper} {a : Act} (hw : Region.wanted o (yielded ops a.tmps) = true) {ty : TypeId} {parts : Array (Nat × Operand)} (ho : o.op = .build ty parts) {ps : Array (Nat × Value)} {v : Value} (hb : ∀ u, (Instr.build ty ps).run Tryd.prog u = .ok v u) (hps : (parts.map fun (i, x) => (i, a.eval x)) = ps) :
    YieldsIf Tryd.prog ops S o v a :=
  .inl ⟨hw, fun u _ => by
    unfold execOp
    simp only [ho, hps, hb, Sem.run_bind, Sem.run_pure, Result.andThen_ok]⟩
namespace Et
def runT (q j : Nat) : Nat × Nat := (([[(3, 2), (6, 2), (0, 0)], [(8, 4), (0, 0), (0, 0)], [(12, 4), (0, 0), (0, 0)], [(16, 4), (0, 0), (0, 0)], [(20, 4), (0, 0), (0, 0)], [(24, 4), (0, 0), (0, 0)]] : List (List (Nat × Nat))).getD q []).getD j (0, 0)
def tcA (k c j : Nat) : Nat := (runT (3 * k + c) j).1
def tcM (k c j : Nat) : Nat := (runT (3 * k + c) j).2
def tcL : List Int := rV3 (tcA 0) (tcM 0) ++ rV3 (tcA 1) (tcM 1)
theorem tc_ok (k : Nat) (hk : k < 2) : ∀ c, c < 3 → okR (tcA k c) (tcM k c) := by
  have h : ∀ k, k < 2 → ∀ c, c < 3 → ∀ j, j < 3 → tcM k c j ≤ 7 ∧ tcA k c j + tcM k c j ≤ 64 := by decide
  exact fun c hc j hj => h k hk c hc j hj
def dtA (j : Nat) : Nat := (([(28, 2), (31, 1), (0, 0)] : List (Nat × Nat)).getD j (0, 0)).1
def dtM (j : Nat) : Nat := (([(28, 2), (31, 1), (0, 0)] : List (Nat × Nat)).getD j (0, 0)).2
theorem dt_ok : okR dtA dtM := by
  have h : ∀ j, j < 3 → dtM j ≤ 7 ∧ dtA j + dtM j ≤ 64 := by decide
  exact h
theorem tc_col (xs : List Nat) : clV xs (tcA 0) (tcM 0) = tA xs ∧ clV xs (tcA 1) (tcM 1) = tB xs := by
  unfold clV chV tA tB col4
  rw [tk_bits xs _ _ [3, 4, 6, 7] rfl, tk_bits xs _ _ [8, 9, 10, 11] rfl, tk_bits xs _ _ [12, 13, 14, 15] rfl, tk_bits xs _ _ [16, 17, 18, 19] rfl, tk_bits xs _ _ [20, 21, 22, 23] rfl, tk_bits xs _ _ [24, 25, 26, 27] rfl]
  exact ⟨rfl, rfl⟩
theorem tD_is (xs : List Nat) : disV ((tkN xs dtA dtM 3 : Nat) : Int) = tD xs := by unfold tD; rw [tk_bits xs _ _ [28, 29, 31] rfl]
end Et
theorem built_frT (xs : List Nat) (u : World) : (Instr.build 69 #[(0, arr (tA xs)), (1, arr (addV (tB xs) (tD xs))), (2, arr (tB xs)), (3, arr (addV (tB xs) (-tD xs)))]).run Tryd.prog u = .ok (arr (frT xs)) u := run_build u _ _ _ (by kernel_rfl)
set_option maxHeartbeats 4000000 in
set_option maxRecDepth 100000 in
theorem t2 (B : List Value) (hB : B.length = 29) (gb : Nat) (hT : B[28]? = some (tkF gb)) (hO : ∀ v ∈ B, v.oneCell' = true) (W : List Int) (hW : W.length = 16) (hBW : (B.drop 10).take 16 = i64s W) (hWb : ∀ i, i < 16 → 0 ≤ W.getD i 0 ∧ W.getD i 0 < 4) (A : Option Addr) (c : Nat) (xs : List Nat) (w : World) (hg : cellsF gb [.slice A 8 c] w) (hx : Bs w w.heap.size A 8 xs) (hC : cellsF 9 (i64s tcL) w) (hD : cellsF 10 (i64s (rV dtA dtM)) w) (hDi : cellsF 0 (i64s disL) w) :
    Calls Tryd.prog 55 #[.agg B.toArray] w fun e w' => e = .returned (arr (choV W (frT xs))) ∧ Below w.heap.size w w' := by
  have E := Lib.hid ((((((Kn.start w).arg_cells hDi).arg_cells hD).arg_cells hC).arg_cells hg).arg_bs hx)
  have HC := Lib.hid (fun k (hk : k < 2) u hg hx => colour2 B hB gb hT hO A c xs (tcA k) (tcM k) u hg hx (tc_ok k hk))
  have HCA := Lib.hid (fun u hg hx => HC.out 0 (by omega) u hg hx)
  have HCB := Lib.hid (fun u hg hx => HC.out 1 (by omega) u hg hx)
  rw [(tc_col xs).1] at HCA
  rw [(tc_col xs).2] at HCB
  have HTk := Lib.hid (fun (u : World) (R : List Res) (E : Kn w R [bsF A 8 xs, cellsF gb [.slice A 8 c], cellsF 9 (i64s tcL), cellsF 10 (i64s (rV dtA dtM)), cellsF 0 (i64s disL)] u) => show Calls Tryd.prog 71 #[.agg (i64s (rV dtA dtM)).toArray, .pointer (some ⟨gb, 0, none⟩)] u (fun e u1 => e = .returned (.int .i64 ((tkN xs dtA dtM 3 : Nat) : Int)) ∧ Kn w R [bsF A 8 xs, cellsF gb [.slice A 8 c], cellsF 9 (i64s tcL), cellsF 10 (i64s (rV dtA dtM)), cellsF 0 (i64s disL)] u1) from take3 E gb A c xs dtA dtM (by simp) (by simp) dt_ok)
  have HDi := Lib.hid (fun u hu => distance_any ((tkN xs dtA dtM 3 : Nat) : Int) u hu)
  rw [tD_is xs] at HDi
  have hdb := disV_bd (Et.bits xs [28, 29, 31])
  have HSp := Lib.hid (fun u => shifted2 (tB xs) (tD xs) u rfl (col4_bd _ _ _) (by unfold tD; omega))
  have HSm := Lib.hid (fun u => shifted2 (tB xs) (-tD xs) u rfl (col4_bd _ _ _) (by unfold tD; omega))
  have hBt := fun u => built_frT xs u
  have HCh := Lib.hid (fun u => choose2 B hB hO W (frT xs) hW hBW hWb rfl u)
  have hal : Hid ((tA xs).length = 4) := rfl
  have hbl : Hid ((tB xs).length = 4) := rfl
  have hchl := Lib.hid (show (choV W (frT xs)).length = 64 from by unfold choV; rw [fl_length]; exact z64_length)
  have hneg := Lib.hid (show IntKind.i64.wrap (-tD xs) = -tD xs from by unfold tD; rw [IntKind.wrap_i64]; omega)
  have q0 := Lib.hid (show (tcL.drop 0).take 18 = rV3 (tcA 0) (tcM 0) from rfl)
  have q1 := Lib.hid (show (tcL.drop 18).take 18 = rV3 (tcA 1) (tcM 1) from rfl)
  have hpl : Hid (tcL.length = 36) := rfl
  have hdl : Hid ((i64s (rV dtA dtM)).length = 6) := rfl
  unfold tkF at hT
  replace hT := Lib.hid hT
  replace hO := Lib.hid hO
  clear HC hg hx hC hD hDi hBW hWb hW hdb
  generalize choV W (frT xs) = CV at *
  generalize frT xs = FR at *
  generalize ((tkN xs dtA dtM 3 : Nat) : Int) = tv at *
  obtain ⟨sp, hsp⟩ : ∃ z, addV (tB xs) (tD xs) = z := ⟨_, rfl⟩
  obtain ⟨sm, hsm⟩ : ∃ z, addV (tB xs) (-tD xs) = z := ⟨_, rfl⟩
  rw [hsp] at HSp hBt
  rw [hsm] at HSm hBt
  clear hsp hsm
  generalize tA xs = aV at *
  generalize tB xs = bV at *
  generalize tD xs = dv at *
  generalize rV3 (tcA 0) (tcM 0) = r0 at *
  generalize rV3 (tcA 1) (tcM 1) = r1 at *
  generalize tcL = PL at *
  generalize rV dtA dtM = DR at *
  generalize disL = DL at *
  go_enter Tryd.func55, Tryd.ntmps55
  go_upto_region 1 with (first | ((with_reducible refine kn_load E.out rfl rfl rfl rfl ?_)) | ((with_reducible refine kn_load_if E.out rfl rfl rfl rfl ?_)) | ((with_reducible refine kn_loads E.out rfl rfl rfl ?_ ?_); (focus (first | rfl | (simp only [i64s_length, u8s_length]; first | rfl | assumption | omega)))) | ((with_reducible refine kn_loads_if E.out rfl rfl rfl ?_ ?_); (focus (first | rfl | (simp only [i64s_length, u8s_length]; first | rfl | assumption | omega)))) | ((with_reducible refine kn_stores E.out rfl rfl rfl rfl rfl ?_ ?_ ?_); (focus (first | exact ⟨rfl, rfl⟩ | (simp only [i64s_length, u8s_length]; refine ⟨?_, ?_⟩ <;> first | rfl | assumption | omega))); (focus (first | exact i64s_one _ | exact u8s_one _ | simp [Value.oneCell'])); clear E; intro u E0; have E := Lib.hid E0; clear E0) | ((with_reducible refine kn_alloc (o := ⟨some 1, _, _, _, _, _⟩) E.out rfl rfl ?_); clear E; intro g1 u E0 hb0; have E := Lib.hid E0; clear E0 hb0) | ((with_reducible refine kn_box (o := ⟨some 1, _, _, _, _, _⟩) E.out rfl rfl rfl ?_); clear E; intro g1 u E0 hb0; have E := Lib.hid E0; clear E0 hb0) | ((with_reducible refine kn_box_int (o := ⟨some 1, _, _, _, _, _⟩) E.out rfl rfl rfl ?_); clear E; intro g1 u E0 hb0; have E := Lib.hid E0; clear E0 hb0) | ((with_reducible refine kn_box_slice (o := ⟨some 1, _, _, _, _, _⟩) E.out rfl rfl rfl ?_); clear E; intro g1 u E0 hb0; have E := Lib.hid E0; clear E0 hb0) | ((with_reducible refine kn_box_bool (o := ⟨some 1, _, _, _, _, _⟩) E.out rfl rfl rfl ?_); clear E; intro g1 u E0 hb0; have E := Lib.hid E0; clear E0 hb0) | ((with_reducible refine kn_box_func (o := ⟨some 1, _, _, _, _, _⟩) E.out rfl rfl rfl ?_); clear E; intro g1 u E0 hb0; have E := Lib.hid E0; clear E0 hb0) | ((with_reducible refine kn_alloc (o := ⟨some 2, _, _, _, _, _⟩) E.out rfl rfl ?_); clear E; intro g2 u E0 hb0; have E := Lib.hid E0; clear E0 hb0) | ((with_reducible refine kn_box (o := ⟨some 2, _, _, _, _, _⟩) E.out rfl rfl rfl ?_); clear E; intro g2 u E0 hb0; have E := Lib.hid E0; clear E0 hb0) | ((with_reducible refine kn_box_int (o := ⟨some 2, _, _, _, _, _⟩) E.out rfl rfl rfl ?_); clear E; intro g2 u E0 hb0; have E := Lib.hid E0; clear E0 hb0) | ((with_reducible refine kn_box_slice (o := ⟨some 2, _, _, _, _, _⟩) E.out rfl rfl rfl ?_); clear E; intro g2 u E0 hb0; have E := Lib.hid E0; clear E0 hb0) | ((with_reducible refine kn_box_bool (o := ⟨some 2, _, _, _, _, _⟩) E.out rfl rfl rfl ?_); clear E; intro g2 u E0 hb0; have E := Lib.hid E0; clear E0 hb0) | ((with_reducible refine kn_box_func (o := ⟨some 2, _, _, _, _, _⟩) E.out rfl rfl rfl ?_); clear E; intro g2 u E0 hb0; have E := Lib.hid E0; clear E0 hb0))
  (try simp only [Act.put, List.setIfInBounds_toArray, List.set_cons_zero, List.set_cons_succ])
  go_cut [3, 4] from 6 to 13 (fun s3 s4 wx => ∃ ga gc : Nat, s3 = .pointer (some ⟨ga, 0, none⟩) ∧ s4 = .pointer (some ⟨gc, 0, none⟩) ∧ Hid (Kn w [.row gc 25 (i64s bV), .row ga 25 (i64s aV), .row g2 27 (i64s z64), .row g1 57 B] [bsF A 8 xs, cellsF gb [.slice A 8 c], cellsF 9 (i64s PL), cellsF 10 (i64s DR), cellsF 0 (i64s DL)] wx))
  case first =>
    refine wp_region_held_drew (S := Kn w [.row g1 57 B] [bsF A 8 xs, cellsF gb [.slice A 8 c], cellsF 9 (i64s PL)]) (by kernel_rfl) (E.out.drew.part _ _ (by repeat (first | exact List.Sublist.refl _ | apply List.Sublist.cons_cons | apply List.Sublist.cons)) (by simp)) (fun kS => ?_)
    have E1 := Lib.hid E.out.drew
    generalize World.drew _ = u1 at kS E1 ⊢
    clear E
    have E := E1
    clear E1
    (refine takeL (i := 0) (v := .agg B.toArray) rfl (by kernel_rfl) (by kernel_rfl) (by kernel_rfl) (fun _ _ _ h => h) (yield_loads (g := g1) rfl rfl rfl hB) kS ?_; (try simp only [Act.put, List.setIfInBounds_toArray, List.set_cons_zero, List.set_cons_succ]))
    (refine takeL (i := 1) (v := _) rfl (by kernel_rfl) (by kernel_rfl) (by kernel_rfl) (fun _ _ _ h => h) (by first | exact Or.inl ⟨by rfl, (by intro u hSu; clear hSu; go_simp; try with_reducible rfl)⟩ | exact Or.inr ⟨by rfl, rfl⟩) kS ?_; (try simp only [Act.put, List.setIfInBounds_toArray, List.set_cons_zero, List.set_cons_succ]))
    (refine takeL (i := 2) (v := _) rfl (by kernel_rfl) (by kernel_rfl) (by kernel_rfl) (fun _ _ _ h => h) (yield_gloadp (off := 0) rfl rfl rfl (by simp) q0.out (by rw [hpl.out]; omega)) kS ?_; (try simp only [Act.put, List.setIfInBounds_toArray, List.set_cons_zero, List.set_cons_succ]))
    (refine takeL (i := 4) (v := .agg B.toArray) rfl (by kernel_rfl) (by kernel_rfl) (by kernel_rfl) (fun _ _ _ h => h) (yield_loads (g := g1) rfl rfl rfl hB) kS ?_; (try simp only [Act.put, List.setIfInBounds_toArray, List.set_cons_zero, List.set_cons_succ]))
    (refine takeL (i := 5) (v := _) rfl (by kernel_rfl) (by kernel_rfl) (by kernel_rfl) (fun _ _ _ h => h) (by first | exact Or.inl ⟨by rfl, (by intro u hSu; clear hSu; go_simp; try with_reducible rfl)⟩ | exact Or.inr ⟨by rfl, rfl⟩) kS ?_; (try simp only [Act.put, List.setIfInBounds_toArray, List.set_cons_zero, List.set_cons_succ]))
    (refine takeL (i := 6) (v := _) rfl (by kernel_rfl) (by kernel_rfl) (by kernel_rfl) (fun _ _ _ h => h) (yield_gloadp (off := 18) rfl rfl rfl (by simp) q1.out (by rw [hpl.out]; omega)) kS ?_; (try simp only [Act.put, List.setIfInBounds_toArray, List.set_cons_zero, List.set_cons_succ]))
    refine callL3 (i := 3) (j := 8) (k := 9) rfl rfl rfl (by kernel_rfl) (fun K hK => ?_) (fun K hK => ?_) (fun K hK => ?_) 
    · (go_simp; (with_reducible refine (HCA.out _ ?h1 ?h2).mono ?_); (case h1 => exact E.out.get (by simp)); (case h2 => exact E.out.bs (by simp)); rintro e' w1 ⟨rfl, hb⟩; have E1 := Lib.hid (E.out.later hb); clear hb E; have E := E1; clear E1; go_wp2_with fail; (refine hK.out _ _ (E.out.part _ _ (by repeat (first | exact List.Sublist.refl _ | apply List.Sublist.cons_cons | apply List.Sublist.cons)) (by simp)) (fun kS => ?_); clear hK K; (try simp only [Act.put, List.setIfInBounds_toArray, List.set_cons_zero, List.set_cons_succ])))
      refine callL3 (i := 7) (j := 8) (k := 9) rfl rfl rfl (by kernel_rfl) (fun K hK => ?_) (fun K hK => ?_) (fun K hK => ?_) 
      · (go_simp; (with_reducible refine (HCB.out _ ?h1 ?h2).mono ?_); (case h1 => exact E.out.get (by simp)); (case h2 => exact E.out.bs (by simp)); rintro e' w1 ⟨rfl, hb⟩; have E1 := Lib.hid (E.out.later hb); clear hb E; have E := E1; clear E1; go_wp2_with fail; (refine hK.out _ _ (E.out.part _ _ (by repeat (first | exact List.Sublist.refl _ | apply List.Sublist.cons_cons | apply List.Sublist.cons)) (by simp)) (fun kS => ?_); clear hK K; (try simp only [Act.put, List.setIfInBounds_toArray, List.set_cons_zero, List.set_cons_succ])))
        refine callL2 (i := 8) (j := 9) rfl rfl (by kernel_rfl) (fun K hK => ?_) (fun K hK => ?_) 
        · (rw [if_pos (by rfl)]; refine wp_kn_alloc E.out rfl ?_; clear E kS; intro ga u E0; have E := Lib.hid E0; clear E0; (refine hK.out _ _ (E.out.part _ _ (by repeat (first | exact List.Sublist.refl _ | apply List.Sublist.cons_cons | apply List.Sublist.cons)) (by simp)) (fun kS => ?_); clear hK K; (try simp only [Act.put, List.setIfInBounds_toArray, List.set_cons_zero, List.set_cons_succ])))
          refine callL (i := 9) rfl (by kernel_rfl) (fun K hK => ?_) 
          (rw [if_pos (by rfl)]; refine wp_kn_alloc E.out rfl ?_; clear E kS; intro gc u E0; have E := Lib.hid E0; clear E0; (refine hK.out _ _ (E.out.part _ _ (by repeat (first | exact List.Sublist.refl _ | apply List.Sublist.cons_cons | apply List.Sublist.cons)) (by simp)) (fun kS => ?_); clear hK K; (try simp only [Act.put, List.setIfInBounds_toArray, List.set_cons_zero, List.set_cons_succ])))
          refine callL (i := 10) rfl (by kernel_rfl) (fun K hK => ?_)
          (rw [if_pos (by rfl)]; refine wp_kn_stores (g := ga) (vs := i64s aV) E.out rfl rfl rfl rfl ⟨rfl, by rw [i64s_length]; exact hal.out⟩ (i64s_one _) ?_; clear E kS; intro u E0; have E := Lib.hid E0; clear E0; (refine hK.out _ _ (E.out.part _ _ (by repeat (first | exact List.Sublist.refl _ | apply List.Sublist.cons_cons | apply List.Sublist.cons)) (by simp)) (fun kS => ?_); clear hK K; (try simp only [Act.put, List.setIfInBounds_toArray, List.set_cons_zero, List.set_cons_succ])))
          refine callL (i := 11) rfl (by kernel_rfl) (fun K hK => ?_)
          (rw [if_pos (by rfl)]; refine wp_kn_stores (g := gc) (vs := i64s bV) E.out rfl rfl rfl rfl ⟨rfl, by rw [i64s_length]; exact hbl.out⟩ (i64s_one _) ?_; clear E kS; intro u E0; have E := Lib.hid E0; clear E0; (refine hK.out _ _ (E.out.part _ _ (by repeat (first | exact List.Sublist.refl _ | apply List.Sublist.cons_cons | apply List.Sublist.cons)) (by simp)) (fun kS => ?_); clear hK K; (try simp only [Act.put, List.setIfInBounds_toArray, List.set_cons_zero, List.set_cons_succ])))
          refine wpAnyH_done (by kernel_rfl) ?_ _
          go_wp2_with fail
          go_meet
          exact ⟨ga, gc, rfl, rfl, E⟩
        · (rw [if_pos (by rfl)]; refine wp_kn_alloc E.out rfl ?_; clear E kS; intro gc u E0; have E := Lib.hid E0; clear E0; (refine hK.out _ _ (E.out.part _ _ (by repeat (first | exact List.Sublist.refl _ | apply List.Sublist.cons_cons | apply List.Sublist.cons)) (by simp)) (fun kS => ?_); clear hK K; (try simp only [Act.put, List.setIfInBounds_toArray, List.set_cons_zero, List.set_cons_succ])))
          refine callL (i := 8) rfl (by kernel_rfl) (fun K hK => ?_) 
          (rw [if_pos (by rfl)]; refine wp_kn_alloc E.out rfl ?_; clear E kS; intro ga u E0; have E := Lib.hid E0; clear E0; (refine hK.out _ _ (E.out.part _ _ (by repeat (first | exact List.Sublist.refl _ | apply List.Sublist.cons_cons | apply List.Sublist.cons)) (by simp)) (fun kS => ?_); clear hK K; (try simp only [Act.put, List.setIfInBounds_toArray, List.set_cons_zero, List.set_cons_succ])))
          refine callL (i := 10) rfl (by kernel_rfl) (fun K hK => ?_)
          (rw [if_pos (by rfl)]; refine wp_kn_stores (g := ga) (vs := i64s aV) E.out rfl rfl rfl rfl ⟨rfl, by rw [i64s_length]; exact hal.out⟩ (i64s_one _) ?_; clear E kS; intro u E0; have E := Lib.hid E0; clear E0; (refine hK.out _ _ (E.out.part _ _ (by repeat (first | exact List.Sublist.refl _ | apply List.Sublist.cons_cons | apply List.Sublist.cons)) (by simp)) (fun kS => ?_); clear hK K; (try simp only [Act.put, List.setIfInBounds_toArray, List.set_cons_zero, List.set_cons_succ])))
          refine callL (i := 11) rfl (by kernel_rfl) (fun K hK => ?_)
          (rw [if_pos (by rfl)]; refine wp_kn_stores (g := gc) (vs := i64s bV) E.out rfl rfl rfl rfl ⟨rfl, by rw [i64s_length]; exact hbl.out⟩ (i64s_one _) ?_; clear E kS; intro u E0; have E := Lib.hid E0; clear E0; (refine hK.out _ _ (E.out.part _ _ (by repeat (first | exact List.Sublist.refl _ | apply List.Sublist.cons_cons | apply List.Sublist.cons)) (by simp)) (fun kS => ?_); clear hK K; (try simp only [Act.put, List.setIfInBounds_toArray, List.set_cons_zero, List.set_cons_succ])))
          refine wpAnyH_done (by kernel_rfl) ?_ _
          go_wp2_with fail
          go_meet
          exact ⟨ga, gc, rfl, rfl, Lib.hid (kn_front (r := .row gc 25 (i64s bV)) E.out)⟩
      · (rw [if_pos (by rfl)]; refine wp_kn_alloc E.out rfl ?_; clear E kS; intro ga u E0; have E := Lib.hid E0; clear E0; (refine hK.out _ _ (E.out.part _ _ (by repeat (first | exact List.Sublist.refl _ | apply List.Sublist.cons_cons | apply List.Sublist.cons)) (by simp)) (fun kS => ?_); clear hK K; (try simp only [Act.put, List.setIfInBounds_toArray, List.set_cons_zero, List.set_cons_succ])))
        refine callL2 (i := 7) (j := 9) rfl rfl (by kernel_rfl) (fun K hK => ?_) (fun K hK => ?_) 
        · (go_simp; (with_reducible refine (HCB.out _ ?h1 ?h2).mono ?_); (case h1 => exact E.out.get (by simp)); (case h2 => exact E.out.bs (by simp)); rintro e' w1 ⟨rfl, hb⟩; have E1 := Lib.hid (E.out.later hb); clear hb E; have E := E1; clear E1; go_wp2_with fail; (refine hK.out _ _ (E.out.part _ _ (by repeat (first | exact List.Sublist.refl _ | apply List.Sublist.cons_cons | apply List.Sublist.cons)) (by simp)) (fun kS => ?_); clear hK K; (try simp only [Act.put, List.setIfInBounds_toArray, List.set_cons_zero, List.set_cons_succ])))
          refine callL (i := 9) rfl (by kernel_rfl) (fun K hK => ?_) 
          (rw [if_pos (by rfl)]; refine wp_kn_alloc E.out rfl ?_; clear E kS; intro gc u E0; have E := Lib.hid E0; clear E0; (refine hK.out _ _ (E.out.part _ _ (by repeat (first | exact List.Sublist.refl _ | apply List.Sublist.cons_cons | apply List.Sublist.cons)) (by simp)) (fun kS => ?_); clear hK K; (try simp only [Act.put, List.setIfInBounds_toArray, List.set_cons_zero, List.set_cons_succ])))
          refine callL (i := 10) rfl (by kernel_rfl) (fun K hK => ?_)
          (rw [if_pos (by rfl)]; refine wp_kn_stores (g := ga) (vs := i64s aV) E.out rfl rfl rfl rfl ⟨rfl, by rw [i64s_length]; exact hal.out⟩ (i64s_one _) ?_; clear E kS; intro u E0; have E := Lib.hid E0; clear E0; (refine hK.out _ _ (E.out.part _ _ (by repeat (first | exact List.Sublist.refl _ | apply List.Sublist.cons_cons | apply List.Sublist.cons)) (by simp)) (fun kS => ?_); clear hK K; (try simp only [Act.put, List.setIfInBounds_toArray, List.set_cons_zero, List.set_cons_succ])))
          refine callL (i := 11) rfl (by kernel_rfl) (fun K hK => ?_)
          (rw [if_pos (by rfl)]; refine wp_kn_stores (g := gc) (vs := i64s bV) E.out rfl rfl rfl rfl ⟨rfl, by rw [i64s_length]; exact hbl.out⟩ (i64s_one _) ?_; clear E kS; intro u E0; have E := Lib.hid E0; clear E0; (refine hK.out _ _ (E.out.part _ _ (by repeat (first | exact List.Sublist.refl _ | apply List.Sublist.cons_cons | apply List.Sublist.cons)) (by simp)) (fun kS => ?_); clear hK K; (try simp only [Act.put, List.setIfInBounds_toArray, List.set_cons_zero, List.set_cons_succ])))
          refine wpAnyH_done (by kernel_rfl) ?_ _
          go_wp2_with fail
          go_meet
          exact ⟨ga, gc, rfl, rfl, E⟩
        · (rw [if_pos (by rfl)]; refine wp_kn_alloc E.out rfl ?_; clear E kS; intro gc u E0; have E := Lib.hid E0; clear E0; (refine hK.out _ _ (E.out.part _ _ (by repeat (first | exact List.Sublist.refl _ | apply List.Sublist.cons_cons | apply List.Sublist.cons)) (by simp)) (fun kS => ?_); clear hK K; (try simp only [Act.put, List.setIfInBounds_toArray, List.set_cons_zero, List.set_cons_succ])))
          refine callL (i := 7) rfl (by kernel_rfl) (fun K hK => ?_) 
          (go_simp; (with_reducible refine (HCB.out _ ?h1 ?h2).mono ?_); (case h1 => exact E.out.get (by simp)); (case h2 => exact E.out.bs (by simp)); rintro e' w1 ⟨rfl, hb⟩; have E1 := Lib.hid (E.out.later hb); clear hb E; have E := E1; clear E1; go_wp2_with fail; (refine hK.out _ _ (E.out.part _ _ (by repeat (first | exact List.Sublist.refl _ | apply List.Sublist.cons_cons | apply List.Sublist.cons)) (by simp)) (fun kS => ?_); clear hK K; (try simp only [Act.put, List.setIfInBounds_toArray, List.set_cons_zero, List.set_cons_succ])))
          refine callL (i := 10) rfl (by kernel_rfl) (fun K hK => ?_)
          (rw [if_pos (by rfl)]; refine wp_kn_stores (g := ga) (vs := i64s aV) E.out rfl rfl rfl rfl ⟨rfl, by rw [i64s_length]; exact hal.out⟩ (i64s_one _) ?_; clear E kS; intro u E0; have E := Lib.hid E0; clear E0; (refine hK.out _ _ (E.out.part _ _ (by repeat (first | exact List.Sublist.refl _ | apply List.Sublist.cons_cons | apply List.Sublist.cons)) (by simp)) (fun kS => ?_); clear hK K; (try simp only [Act.put, List.setIfInBounds_toArray, List.set_cons_zero, List.set_cons_succ])))
          refine callL (i := 11) rfl (by kernel_rfl) (fun K hK => ?_)
          (rw [if_pos (by rfl)]; refine wp_kn_stores (g := gc) (vs := i64s bV) E.out rfl rfl rfl rfl ⟨rfl, by rw [i64s_length]; exact hbl.out⟩ (i64s_one _) ?_; clear E kS; intro u E0; have E := Lib.hid E0; clear E0; (refine hK.out _ _ (E.out.part _ _ (by repeat (first | exact List.Sublist.refl _ | apply List.Sublist.cons_cons | apply List.Sublist.cons)) (by simp)) (fun kS => ?_); clear hK K; (try simp only [Act.put, List.setIfInBounds_toArray, List.set_cons_zero, List.set_cons_succ])))
          refine wpAnyH_done (by kernel_rfl) ?_ _
          go_wp2_with fail
          go_meet
          exact ⟨ga, gc, rfl, rfl, E⟩
      · (rw [if_pos (by rfl)]; refine wp_kn_alloc E.out rfl ?_; clear E kS; intro gc u E0; have E := Lib.hid E0; clear E0; (refine hK.out _ _ (E.out.part _ _ (by repeat (first | exact List.Sublist.refl _ | apply List.Sublist.cons_cons | apply List.Sublist.cons)) (by simp)) (fun kS => ?_); clear hK K; (try simp only [Act.put, List.setIfInBounds_toArray, List.set_cons_zero, List.set_cons_succ])))
        refine callL2 (i := 7) (j := 8) rfl rfl (by kernel_rfl) (fun K hK => ?_) (fun K hK => ?_) 
        · (go_simp; (with_reducible refine (HCB.out _ ?h1 ?h2).mono ?_); (case h1 => exact E.out.get (by simp)); (case h2 => exact E.out.bs (by simp)); rintro e' w1 ⟨rfl, hb⟩; have E1 := Lib.hid (E.out.later hb); clear hb E; have E := E1; clear E1; go_wp2_with fail; (refine hK.out _ _ (E.out.part _ _ (by repeat (first | exact List.Sublist.refl _ | apply List.Sublist.cons_cons | apply List.Sublist.cons)) (by simp)) (fun kS => ?_); clear hK K; (try simp only [Act.put, List.setIfInBounds_toArray, List.set_cons_zero, List.set_cons_succ])))
          refine callL (i := 8) rfl (by kernel_rfl) (fun K hK => ?_) 
          (rw [if_pos (by rfl)]; refine wp_kn_alloc E.out rfl ?_; clear E kS; intro ga u E0; have E := Lib.hid E0; clear E0; (refine hK.out _ _ (E.out.part _ _ (by repeat (first | exact List.Sublist.refl _ | apply List.Sublist.cons_cons | apply List.Sublist.cons)) (by simp)) (fun kS => ?_); clear hK K; (try simp only [Act.put, List.setIfInBounds_toArray, List.set_cons_zero, List.set_cons_succ])))
          refine callL (i := 10) rfl (by kernel_rfl) (fun K hK => ?_)
          (rw [if_pos (by rfl)]; refine wp_kn_stores (g := ga) (vs := i64s aV) E.out rfl rfl rfl rfl ⟨rfl, by rw [i64s_length]; exact hal.out⟩ (i64s_one _) ?_; clear E kS; intro u E0; have E := Lib.hid E0; clear E0; (refine hK.out _ _ (E.out.part _ _ (by repeat (first | exact List.Sublist.refl _ | apply List.Sublist.cons_cons | apply List.Sublist.cons)) (by simp)) (fun kS => ?_); clear hK K; (try simp only [Act.put, List.setIfInBounds_toArray, List.set_cons_zero, List.set_cons_succ])))
          refine callL (i := 11) rfl (by kernel_rfl) (fun K hK => ?_)
          (rw [if_pos (by rfl)]; refine wp_kn_stores (g := gc) (vs := i64s bV) E.out rfl rfl rfl rfl ⟨rfl, by rw [i64s_length]; exact hbl.out⟩ (i64s_one _) ?_; clear E kS; intro u E0; have E := Lib.hid E0; clear E0; (refine hK.out _ _ (E.out.part _ _ (by repeat (first | exact List.Sublist.refl _ | apply List.Sublist.cons_cons | apply List.Sublist.cons)) (by simp)) (fun kS => ?_); clear hK K; (try simp only [Act.put, List.setIfInBounds_toArray, List.set_cons_zero, List.set_cons_succ])))
          refine wpAnyH_done (by kernel_rfl) ?_ _
          go_wp2_with fail
          go_meet
          exact ⟨ga, gc, rfl, rfl, Lib.hid (kn_front (r := .row gc 25 (i64s bV)) E.out)⟩
        · (rw [if_pos (by rfl)]; refine wp_kn_alloc E.out rfl ?_; clear E kS; intro ga u E0; have E := Lib.hid E0; clear E0; (refine hK.out _ _ (E.out.part _ _ (by repeat (first | exact List.Sublist.refl _ | apply List.Sublist.cons_cons | apply List.Sublist.cons)) (by simp)) (fun kS => ?_); clear hK K; (try simp only [Act.put, List.setIfInBounds_toArray, List.set_cons_zero, List.set_cons_succ])))
          refine callL (i := 7) rfl (by kernel_rfl) (fun K hK => ?_) 
          (go_simp; (with_reducible refine (HCB.out _ ?h1 ?h2).mono ?_); (case h1 => exact E.out.get (by simp)); (case h2 => exact E.out.bs (by simp)); rintro e' w1 ⟨rfl, hb⟩; have E1 := Lib.hid (E.out.later hb); clear hb E; have E := E1; clear E1; go_wp2_with fail; (refine hK.out _ _ (E.out.part _ _ (by repeat (first | exact List.Sublist.refl _ | apply List.Sublist.cons_cons | apply List.Sublist.cons)) (by simp)) (fun kS => ?_); clear hK K; (try simp only [Act.put, List.setIfInBounds_toArray, List.set_cons_zero, List.set_cons_succ])))
          refine callL (i := 10) rfl (by kernel_rfl) (fun K hK => ?_)
          (rw [if_pos (by rfl)]; refine wp_kn_stores (g := ga) (vs := i64s aV) E.out rfl rfl rfl rfl ⟨rfl, by rw [i64s_length]; exact hal.out⟩ (i64s_one _) ?_; clear E kS; intro u E0; have E := Lib.hid E0; clear E0; (refine hK.out _ _ (E.out.part _ _ (by repeat (first | exact List.Sublist.refl _ | apply List.Sublist.cons_cons | apply List.Sublist.cons)) (by simp)) (fun kS => ?_); clear hK K; (try simp only [Act.put, List.setIfInBounds_toArray, List.set_cons_zero, List.set_cons_succ])))
          refine callL (i := 11) rfl (by kernel_rfl) (fun K hK => ?_)
          (rw [if_pos (by rfl)]; refine wp_kn_stores (g := gc) (vs := i64s bV) E.out rfl rfl rfl rfl ⟨rfl, by rw [i64s_length]; exact hbl.out⟩ (i64s_one _) ?_; clear E kS; intro u E0; have E := Lib.hid E0; clear E0; (refine hK.out _ _ (E.out.part _ _ (by repeat (first | exact List.Sublist.refl _ | apply List.Sublist.cons_cons | apply List.Sublist.cons)) (by simp)) (fun kS => ?_); clear hK K; (try simp only [Act.put, List.setIfInBounds_toArray, List.set_cons_zero, List.set_cons_succ])))
          refine wpAnyH_done (by kernel_rfl) ?_ _
          go_wp2_with fail
          go_meet
          exact ⟨ga, gc, rfl, rfl, Lib.hid (kn_front (r := .row gc 25 (i64s bV)) E.out)⟩
    · (rw [if_pos (by rfl)]; refine wp_kn_alloc E.out rfl ?_; clear E kS; intro ga u E0; have E := Lib.hid E0; clear E0; (refine hK.out _ _ (E.out.part _ _ (by repeat (first | exact List.Sublist.refl _ | apply List.Sublist.cons_cons | apply List.Sublist.cons)) (by simp)) (fun kS => ?_); clear hK K; (try simp only [Act.put, List.setIfInBounds_toArray, List.set_cons_zero, List.set_cons_succ])))
      refine callL2 (i := 3) (j := 9) rfl rfl (by kernel_rfl) (fun K hK => ?_) (fun K hK => ?_) 
      · (go_simp; (with_reducible refine (HCA.out _ ?h1 ?h2).mono ?_); (case h1 => exact E.out.get (by simp)); (case h2 => exact E.out.bs (by simp)); rintro e' w1 ⟨rfl, hb⟩; have E1 := Lib.hid (E.out.later hb); clear hb E; have E := E1; clear E1; go_wp2_with fail; (refine hK.out _ _ (E.out.part _ _ (by repeat (first | exact List.Sublist.refl _ | apply List.Sublist.cons_cons | apply List.Sublist.cons)) (by simp)) (fun kS => ?_); clear hK K; (try simp only [Act.put, List.setIfInBounds_toArray, List.set_cons_zero, List.set_cons_succ])))
        refine callL2 (i := 7) (j := 9) rfl rfl (by kernel_rfl) (fun K hK => ?_) (fun K hK => ?_) 
        · (go_simp; (with_reducible refine (HCB.out _ ?h1 ?h2).mono ?_); (case h1 => exact E.out.get (by simp)); (case h2 => exact E.out.bs (by simp)); rintro e' w1 ⟨rfl, hb⟩; have E1 := Lib.hid (E.out.later hb); clear hb E; have E := E1; clear E1; go_wp2_with fail; (refine hK.out _ _ (E.out.part _ _ (by repeat (first | exact List.Sublist.refl _ | apply List.Sublist.cons_cons | apply List.Sublist.cons)) (by simp)) (fun kS => ?_); clear hK K; (try simp only [Act.put, List.setIfInBounds_toArray, List.set_cons_zero, List.set_cons_succ])))
          refine callL (i := 9) rfl (by kernel_rfl) (fun K hK => ?_) 
          (rw [if_pos (by rfl)]; refine wp_kn_alloc E.out rfl ?_; clear E kS; intro gc u E0; have E := Lib.hid E0; clear E0; (refine hK.out _ _ (E.out.part _ _ (by repeat (first | exact List.Sublist.refl _ | apply List.Sublist.cons_cons | apply List.Sublist.cons)) (by simp)) (fun kS => ?_); clear hK K; (try simp only [Act.put, List.setIfInBounds_toArray, List.set_cons_zero, List.set_cons_succ])))
          refine callL (i := 10) rfl (by kernel_rfl) (fun K hK => ?_)
          (rw [if_pos (by rfl)]; refine wp_kn_stores (g := ga) (vs := i64s aV) E.out rfl rfl rfl rfl ⟨rfl, by rw [i64s_length]; exact hal.out⟩ (i64s_one _) ?_; clear E kS; intro u E0; have E := Lib.hid E0; clear E0; (refine hK.out _ _ (E.out.part _ _ (by repeat (first | exact List.Sublist.refl _ | apply List.Sublist.cons_cons | apply List.Sublist.cons)) (by simp)) (fun kS => ?_); clear hK K; (try simp only [Act.put, List.setIfInBounds_toArray, List.set_cons_zero, List.set_cons_succ])))
          refine callL (i := 11) rfl (by kernel_rfl) (fun K hK => ?_)
          (rw [if_pos (by rfl)]; refine wp_kn_stores (g := gc) (vs := i64s bV) E.out rfl rfl rfl rfl ⟨rfl, by rw [i64s_length]; exact hbl.out⟩ (i64s_one _) ?_; clear E kS; intro u E0; have E := Lib.hid E0; clear E0; (refine hK.out _ _ (E.out.part _ _ (by repeat (first | exact List.Sublist.refl _ | apply List.Sublist.cons_cons | apply List.Sublist.cons)) (by simp)) (fun kS => ?_); clear hK K; (try simp only [Act.put, List.setIfInBounds_toArray, List.set_cons_zero, List.set_cons_succ])))
          refine wpAnyH_done (by kernel_rfl) ?_ _
          go_wp2_with fail
          go_meet
          exact ⟨ga, gc, rfl, rfl, E⟩
        · (rw [if_pos (by rfl)]; refine wp_kn_alloc E.out rfl ?_; clear E kS; intro gc u E0; have E := Lib.hid E0; clear E0; (refine hK.out _ _ (E.out.part _ _ (by repeat (first | exact List.Sublist.refl _ | apply List.Sublist.cons_cons | apply List.Sublist.cons)) (by simp)) (fun kS => ?_); clear hK K; (try simp only [Act.put, List.setIfInBounds_toArray, List.set_cons_zero, List.set_cons_succ])))
          refine callL (i := 7) rfl (by kernel_rfl) (fun K hK => ?_) 
          (go_simp; (with_reducible refine (HCB.out _ ?h1 ?h2).mono ?_); (case h1 => exact E.out.get (by simp)); (case h2 => exact E.out.bs (by simp)); rintro e' w1 ⟨rfl, hb⟩; have E1 := Lib.hid (E.out.later hb); clear hb E; have E := E1; clear E1; go_wp2_with fail; (refine hK.out _ _ (E.out.part _ _ (by repeat (first | exact List.Sublist.refl _ | apply List.Sublist.cons_cons | apply List.Sublist.cons)) (by simp)) (fun kS => ?_); clear hK K; (try simp only [Act.put, List.setIfInBounds_toArray, List.set_cons_zero, List.set_cons_succ])))
          refine callL (i := 10) rfl (by kernel_rfl) (fun K hK => ?_)
          (rw [if_pos (by rfl)]; refine wp_kn_stores (g := ga) (vs := i64s aV) E.out rfl rfl rfl rfl ⟨rfl, by rw [i64s_length]; exact hal.out⟩ (i64s_one _) ?_; clear E kS; intro u E0; have E := Lib.hid E0; clear E0; (refine hK.out _ _ (E.out.part _ _ (by repeat (first | exact List.Sublist.refl _ | apply List.Sublist.cons_cons | apply List.Sublist.cons)) (by simp)) (fun kS => ?_); clear hK K; (try simp only [Act.put, List.setIfInBounds_toArray, List.set_cons_zero, List.set_cons_succ])))
          refine callL (i := 11) rfl (by kernel_rfl) (fun K hK => ?_)
          (rw [if_pos (by rfl)]; refine wp_kn_stores (g := gc) (vs := i64s bV) E.out rfl rfl rfl rfl ⟨rfl, by rw [i64s_length]; exact hbl.out⟩ (i64s_one _) ?_; clear E kS; intro u E0; have E := Lib.hid E0; clear E0; (refine hK.out _ _ (E.out.part _ _ (by repeat (first | exact List.Sublist.refl _ | apply List.Sublist.cons_cons | apply List.Sublist.cons)) (by simp)) (fun kS => ?_); clear hK K; (try simp only [Act.put, List.setIfInBounds_toArray, List.set_cons_zero, List.set_cons_succ])))
          refine wpAnyH_done (by kernel_rfl) ?_ _
          go_wp2_with fail
          go_meet
          exact ⟨ga, gc, rfl, rfl, E⟩
      · (rw [if_pos (by rfl)]; refine wp_kn_alloc E.out rfl ?_; clear E kS; intro gc u E0; have E := Lib.hid E0; clear E0; (refine hK.out _ _ (E.out.part _ _ (by repeat (first | exact List.Sublist.refl _ | apply List.Sublist.cons_cons | apply List.Sublist.cons)) (by simp)) (fun kS => ?_); clear hK K; (try simp only [Act.put, List.setIfInBounds_toArray, List.set_cons_zero, List.set_cons_succ])))
        refine callL (i := 3) rfl (by kernel_rfl) (fun K hK => ?_) 
        (go_simp; (with_reducible refine (HCA.out _ ?h1 ?h2).mono ?_); (case h1 => exact E.out.get (by simp)); (case h2 => exact E.out.bs (by simp)); rintro e' w1 ⟨rfl, hb⟩; have E1 := Lib.hid (E.out.later hb); clear hb E; have E := E1; clear E1; go_wp2_with fail; (refine hK.out _ _ (E.out.part _ _ (by repeat (first | exact List.Sublist.refl _ | apply List.Sublist.cons_cons | apply List.Sublist.cons)) (by simp)) (fun kS => ?_); clear hK K; (try simp only [Act.put, List.setIfInBounds_toArray, List.set_cons_zero, List.set_cons_succ])))
        refine callL (i := 7) rfl (by kernel_rfl) (fun K hK => ?_) 
        (go_simp; (with_reducible refine (HCB.out _ ?h1 ?h2).mono ?_); (case h1 => exact E.out.get (by simp)); (case h2 => exact E.out.bs (by simp)); rintro e' w1 ⟨rfl, hb⟩; have E1 := Lib.hid (E.out.later hb); clear hb E; have E := E1; clear E1; go_wp2_with fail; (refine hK.out _ _ (E.out.part _ _ (by repeat (first | exact List.Sublist.refl _ | apply List.Sublist.cons_cons | apply List.Sublist.cons)) (by simp)) (fun kS => ?_); clear hK K; (try simp only [Act.put, List.setIfInBounds_toArray, List.set_cons_zero, List.set_cons_succ])))
        refine callL (i := 10) rfl (by kernel_rfl) (fun K hK => ?_)
        (rw [if_pos (by rfl)]; refine wp_kn_stores (g := ga) (vs := i64s aV) E.out rfl rfl rfl rfl ⟨rfl, by rw [i64s_length]; exact hal.out⟩ (i64s_one _) ?_; clear E kS; intro u E0; have E := Lib.hid E0; clear E0; (refine hK.out _ _ (E.out.part _ _ (by repeat (first | exact List.Sublist.refl _ | apply List.Sublist.cons_cons | apply List.Sublist.cons)) (by simp)) (fun kS => ?_); clear hK K; (try simp only [Act.put, List.setIfInBounds_toArray, List.set_cons_zero, List.set_cons_succ])))
        refine callL (i := 11) rfl (by kernel_rfl) (fun K hK => ?_)
        (rw [if_pos (by rfl)]; refine wp_kn_stores (g := gc) (vs := i64s bV) E.out rfl rfl rfl rfl ⟨rfl, by rw [i64s_length]; exact hbl.out⟩ (i64s_one _) ?_; clear E kS; intro u E0; have E := Lib.hid E0; clear E0; (refine hK.out _ _ (E.out.part _ _ (by repeat (first | exact List.Sublist.refl _ | apply List.Sublist.cons_cons | apply List.Sublist.cons)) (by simp)) (fun kS => ?_); clear hK K; (try simp only [Act.put, List.setIfInBounds_toArray, List.set_cons_zero, List.set_cons_succ])))
        refine wpAnyH_done (by kernel_rfl) ?_ _
        go_wp2_with fail
        go_meet
        exact ⟨ga, gc, rfl, rfl, E⟩
    · (rw [if_pos (by rfl)]; refine wp_kn_alloc E.out rfl ?_; clear E kS; intro gc u E0; have E := Lib.hid E0; clear E0; (refine hK.out _ _ (E.out.part _ _ (by repeat (first | exact List.Sublist.refl _ | apply List.Sublist.cons_cons | apply List.Sublist.cons)) (by simp)) (fun kS => ?_); clear hK K; (try simp only [Act.put, List.setIfInBounds_toArray, List.set_cons_zero, List.set_cons_succ])))
      refine callL2 (i := 3) (j := 8) rfl rfl (by kernel_rfl) (fun K hK => ?_) (fun K hK => ?_) 
      · (go_simp; (with_reducible refine (HCA.out _ ?h1 ?h2).mono ?_); (case h1 => exact E.out.get (by simp)); (case h2 => exact E.out.bs (by simp)); rintro e' w1 ⟨rfl, hb⟩; have E1 := Lib.hid (E.out.later hb); clear hb E; have E := E1; clear E1; go_wp2_with fail; (refine hK.out _ _ (E.out.part _ _ (by repeat (first | exact List.Sublist.refl _ | apply List.Sublist.cons_cons | apply List.Sublist.cons)) (by simp)) (fun kS => ?_); clear hK K; (try simp only [Act.put, List.setIfInBounds_toArray, List.set_cons_zero, List.set_cons_succ])))
        refine callL2 (i := 7) (j := 8) rfl rfl (by kernel_rfl) (fun K hK => ?_) (fun K hK => ?_) 
        · (go_simp; (with_reducible refine (HCB.out _ ?h1 ?h2).mono ?_); (case h1 => exact E.out.get (by simp)); (case h2 => exact E.out.bs (by simp)); rintro e' w1 ⟨rfl, hb⟩; have E1 := Lib.hid (E.out.later hb); clear hb E; have E := E1; clear E1; go_wp2_with fail; (refine hK.out _ _ (E.out.part _ _ (by repeat (first | exact List.Sublist.refl _ | apply List.Sublist.cons_cons | apply List.Sublist.cons)) (by simp)) (fun kS => ?_); clear hK K; (try simp only [Act.put, List.setIfInBounds_toArray, List.set_cons_zero, List.set_cons_succ])))
          refine callL (i := 8) rfl (by kernel_rfl) (fun K hK => ?_) 
          (rw [if_pos (by rfl)]; refine wp_kn_alloc E.out rfl ?_; clear E kS; intro ga u E0; have E := Lib.hid E0; clear E0; (refine hK.out _ _ (E.out.part _ _ (by repeat (first | exact List.Sublist.refl _ | apply List.Sublist.cons_cons | apply List.Sublist.cons)) (by simp)) (fun kS => ?_); clear hK K; (try simp only [Act.put, List.setIfInBounds_toArray, List.set_cons_zero, List.set_cons_succ])))
          refine callL (i := 10) rfl (by kernel_rfl) (fun K hK => ?_)
          (rw [if_pos (by rfl)]; refine wp_kn_stores (g := ga) (vs := i64s aV) E.out rfl rfl rfl rfl ⟨rfl, by rw [i64s_length]; exact hal.out⟩ (i64s_one _) ?_; clear E kS; intro u E0; have E := Lib.hid E0; clear E0; (refine hK.out _ _ (E.out.part _ _ (by repeat (first | exact List.Sublist.refl _ | apply List.Sublist.cons_cons | apply List.Sublist.cons)) (by simp)) (fun kS => ?_); clear hK K; (try simp only [Act.put, List.setIfInBounds_toArray, List.set_cons_zero, List.set_cons_succ])))
          refine callL (i := 11) rfl (by kernel_rfl) (fun K hK => ?_)
          (rw [if_pos (by rfl)]; refine wp_kn_stores (g := gc) (vs := i64s bV) E.out rfl rfl rfl rfl ⟨rfl, by rw [i64s_length]; exact hbl.out⟩ (i64s_one _) ?_; clear E kS; intro u E0; have E := Lib.hid E0; clear E0; (refine hK.out _ _ (E.out.part _ _ (by repeat (first | exact List.Sublist.refl _ | apply List.Sublist.cons_cons | apply List.Sublist.cons)) (by simp)) (fun kS => ?_); clear hK K; (try simp only [Act.put, List.setIfInBounds_toArray, List.set_cons_zero, List.set_cons_succ])))
          refine wpAnyH_done (by kernel_rfl) ?_ _
          go_wp2_with fail
          go_meet
          exact ⟨ga, gc, rfl, rfl, Lib.hid (kn_front (r := .row gc 25 (i64s bV)) E.out)⟩
        · (rw [if_pos (by rfl)]; refine wp_kn_alloc E.out rfl ?_; clear E kS; intro ga u E0; have E := Lib.hid E0; clear E0; (refine hK.out _ _ (E.out.part _ _ (by repeat (first | exact List.Sublist.refl _ | apply List.Sublist.cons_cons | apply List.Sublist.cons)) (by simp)) (fun kS => ?_); clear hK K; (try simp only [Act.put, List.setIfInBounds_toArray, List.set_cons_zero, List.set_cons_succ])))
          refine callL (i := 7) rfl (by kernel_rfl) (fun K hK => ?_) 
          (go_simp; (with_reducible refine (HCB.out _ ?h1 ?h2).mono ?_); (case h1 => exact E.out.get (by simp)); (case h2 => exact E.out.bs (by simp)); rintro e' w1 ⟨rfl, hb⟩; have E1 := Lib.hid (E.out.later hb); clear hb E; have E := E1; clear E1; go_wp2_with fail; (refine hK.out _ _ (E.out.part _ _ (by repeat (first | exact List.Sublist.refl _ | apply List.Sublist.cons_cons | apply List.Sublist.cons)) (by simp)) (fun kS => ?_); clear hK K; (try simp only [Act.put, List.setIfInBounds_toArray, List.set_cons_zero, List.set_cons_succ])))
          refine callL (i := 10) rfl (by kernel_rfl) (fun K hK => ?_)
          (rw [if_pos (by rfl)]; refine wp_kn_stores (g := ga) (vs := i64s aV) E.out rfl rfl rfl rfl ⟨rfl, by rw [i64s_length]; exact hal.out⟩ (i64s_one _) ?_; clear E kS; intro u E0; have E := Lib.hid E0; clear E0; (refine hK.out _ _ (E.out.part _ _ (by repeat (first | exact List.Sublist.refl _ | apply List.Sublist.cons_cons | apply List.Sublist.cons)) (by simp)) (fun kS => ?_); clear hK K; (try simp only [Act.put, List.setIfInBounds_toArray, List.set_cons_zero, List.set_cons_succ])))
          refine callL (i := 11) rfl (by kernel_rfl) (fun K hK => ?_)
          (rw [if_pos (by rfl)]; refine wp_kn_stores (g := gc) (vs := i64s bV) E.out rfl rfl rfl rfl ⟨rfl, by rw [i64s_length]; exact hbl.out⟩ (i64s_one _) ?_; clear E kS; intro u E0; have E := Lib.hid E0; clear E0; (refine hK.out _ _ (E.out.part _ _ (by repeat (first | exact List.Sublist.refl _ | apply List.Sublist.cons_cons | apply List.Sublist.cons)) (by simp)) (fun kS => ?_); clear hK K; (try simp only [Act.put, List.setIfInBounds_toArray, List.set_cons_zero, List.set_cons_succ])))
          refine wpAnyH_done (by kernel_rfl) ?_ _
          go_wp2_with fail
          go_meet
          exact ⟨ga, gc, rfl, rfl, Lib.hid (kn_front (r := .row gc 25 (i64s bV)) E.out)⟩
      · (rw [if_pos (by rfl)]; refine wp_kn_alloc E.out rfl ?_; clear E kS; intro ga u E0; have E := Lib.hid E0; clear E0; (refine hK.out _ _ (E.out.part _ _ (by repeat (first | exact List.Sublist.refl _ | apply List.Sublist.cons_cons | apply List.Sublist.cons)) (by simp)) (fun kS => ?_); clear hK K; (try simp only [Act.put, List.setIfInBounds_toArray, List.set_cons_zero, List.set_cons_succ])))
        refine callL (i := 3) rfl (by kernel_rfl) (fun K hK => ?_) 
        (go_simp; (with_reducible refine (HCA.out _ ?h1 ?h2).mono ?_); (case h1 => exact E.out.get (by simp)); (case h2 => exact E.out.bs (by simp)); rintro e' w1 ⟨rfl, hb⟩; have E1 := Lib.hid (E.out.later hb); clear hb E; have E := E1; clear E1; go_wp2_with fail; (refine hK.out _ _ (E.out.part _ _ (by repeat (first | exact List.Sublist.refl _ | apply List.Sublist.cons_cons | apply List.Sublist.cons)) (by simp)) (fun kS => ?_); clear hK K; (try simp only [Act.put, List.setIfInBounds_toArray, List.set_cons_zero, List.set_cons_succ])))
        refine callL (i := 7) rfl (by kernel_rfl) (fun K hK => ?_) 
        (go_simp; (with_reducible refine (HCB.out _ ?h1 ?h2).mono ?_); (case h1 => exact E.out.get (by simp)); (case h2 => exact E.out.bs (by simp)); rintro e' w1 ⟨rfl, hb⟩; have E1 := Lib.hid (E.out.later hb); clear hb E; have E := E1; clear E1; go_wp2_with fail; (refine hK.out _ _ (E.out.part _ _ (by repeat (first | exact List.Sublist.refl _ | apply List.Sublist.cons_cons | apply List.Sublist.cons)) (by simp)) (fun kS => ?_); clear hK K; (try simp only [Act.put, List.setIfInBounds_toArray, List.set_cons_zero, List.set_cons_succ])))
        refine callL (i := 10) rfl (by kernel_rfl) (fun K hK => ?_)
        (rw [if_pos (by rfl)]; refine wp_kn_stores (g := ga) (vs := i64s aV) E.out rfl rfl rfl rfl ⟨rfl, by rw [i64s_length]; exact hal.out⟩ (i64s_one _) ?_; clear E kS; intro u E0; have E := Lib.hid E0; clear E0; (refine hK.out _ _ (E.out.part _ _ (by repeat (first | exact List.Sublist.refl _ | apply List.Sublist.cons_cons | apply List.Sublist.cons)) (by simp)) (fun kS => ?_); clear hK K; (try simp only [Act.put, List.setIfInBounds_toArray, List.set_cons_zero, List.set_cons_succ])))
        refine callL (i := 11) rfl (by kernel_rfl) (fun K hK => ?_)
        (rw [if_pos (by rfl)]; refine wp_kn_stores (g := gc) (vs := i64s bV) E.out rfl rfl rfl rfl ⟨rfl, by rw [i64s_length]; exact hbl.out⟩ (i64s_one _) ?_; clear E kS; intro u E0; have E := Lib.hid E0; clear E0; (refine hK.out _ _ (E.out.part _ _ (by repeat (first | exact List.Sublist.refl _ | apply List.Sublist.cons_cons | apply List.Sublist.cons)) (by simp)) (fun kS => ?_); clear hK K; (try simp only [Act.put, List.setIfInBounds_toArray, List.set_cons_zero, List.set_cons_succ])))
        refine wpAnyH_done (by kernel_rfl) ?_ _
        go_wp2_with fail
        go_meet
        exact ⟨ga, gc, rfl, rfl, Lib.hid (kn_front (r := .row gc 25 (i64s bV)) E.out)⟩
  case rest =>
    clear E
    obtain ⟨ga, gc, rfl, rfl, E⟩ := hcut
    go_wp2_with (first
      | (go_at_call 71; refine (HTk.out _ _ E.out).mono ?_; rintro e w1 ⟨rfl, E0⟩; clear E; have E := Lib.hid E0; clear E0)
      | (go_at_call 12; (with_reducible refine (HDi.out _ ?h1).mono ?_); (case h1 => exact E.out.get (by simp)); rintro e w1 ⟨rfl, rfl⟩)
      | ((with_reducible refine kn_load (g := g1) (i := 28) E.out rfl rfl rfl hT.out ?_))
      | ((with_reducible refine kn_gloads (g := 10) (vs := i64s DR) E.out rfl rfl ?hx ?h1 ?h2 ?_); (case hx => rfl); (case h1 => simp); (case h2 => exact hdl.out))
      | ((with_reducible refine kn_load E.out rfl rfl rfl rfl ?_)) | ((with_reducible refine kn_load_if E.out rfl rfl rfl rfl ?_)) | ((with_reducible refine kn_loads E.out rfl rfl rfl ?_ ?_); (focus (first | rfl | (simp only [i64s_length, u8s_length]; first | rfl | assumption | omega)))) | ((with_reducible refine kn_loads_if E.out rfl rfl rfl ?_ ?_); (focus (first | rfl | (simp only [i64s_length, u8s_length]; first | rfl | assumption | omega)))) | ((with_reducible refine kn_stores E.out rfl rfl rfl rfl rfl ?_ ?_ ?_); (focus (first | exact ⟨rfl, rfl⟩ | (simp only [i64s_length, u8s_length]; refine ⟨?_, ?_⟩ <;> first | rfl | assumption | omega))); (focus (first | exact i64s_one _ | exact u8s_one _ | simp [Value.oneCell'])); clear E; intro u E0; have E := Lib.hid E0; clear E0))
    refine wp_region_held_drew (S := Kn w [.row gc 25 (i64s bV), .row ga 25 (i64s aV), .row g1 57 B] []) (by kernel_rfl) (E.out.drew.part _ _ (by repeat (first | exact List.Sublist.refl _ | apply List.Sublist.cons_cons | apply List.Sublist.cons)) (by simp)) (fun kS => ?_)
    have E1 := Lib.hid E.out.drew
    generalize World.drew _ = u1 at kS E1 ⊢
    clear E
    have E := E1
    clear E1
    (refine takeL (i := 0) (v := .agg B.toArray) rfl (by kernel_rfl) (by kernel_rfl) (by kernel_rfl) (fun _ _ _ h => h) (yield_loads (g := g1) rfl rfl rfl hB) kS ?_; (try simp only [Act.put, List.setIfInBounds_toArray, List.set_cons_zero, List.set_cons_succ]))
    (refine takeL (i := 1) (v := _) rfl (by kernel_rfl) (by kernel_rfl) (by kernel_rfl) (fun _ _ _ h => h) (yield_loads (g := ga) rfl rfl rfl (by rw [i64s_length]; exact hal.out)) kS ?_; (try simp only [Act.put, List.setIfInBounds_toArray, List.set_cons_zero, List.set_cons_succ]))
    (refine takeL (i := 2) (v := _) rfl (by kernel_rfl) (by kernel_rfl) (by kernel_rfl) (fun _ _ _ h => h) (yield_loads (g := gc) rfl rfl rfl (by rw [i64s_length]; exact hbl.out)) kS ?_; (try simp only [Act.put, List.setIfInBounds_toArray, List.set_cons_zero, List.set_cons_succ]))
    (refine takeL (i := 3) (v := _) rfl (by kernel_rfl) (by kernel_rfl) (by kernel_rfl) (fun _ _ _ h => h) (by first | exact Or.inl ⟨by rfl, (by intro u hSu; clear hSu; go_simp; try with_reducible rfl)⟩ | exact Or.inr ⟨by rfl, rfl⟩) kS ?_; (try simp only [Act.put, List.setIfInBounds_toArray, List.set_cons_zero, List.set_cons_succ]))
    (refine takeL (i := 5) (v := _) rfl (by kernel_rfl) (by kernel_rfl) (by kernel_rfl) (fun _ _ _ h => h) (yield_loads (g := gc) rfl rfl rfl (by rw [i64s_length]; exact hbl.out)) kS ?_; (try simp only [Act.put, List.setIfInBounds_toArray, List.set_cons_zero, List.set_cons_succ]))
    (refine takeL (i := 6) (v := _) rfl (by kernel_rfl) (by kernel_rfl) (by kernel_rfl) (fun _ _ _ h => h) (yield_loads (g := gc) rfl rfl rfl (by rw [i64s_length]; exact hbl.out)) kS ?_; (try simp only [Act.put, List.setIfInBounds_toArray, List.set_cons_zero, List.set_cons_succ]))
    (refine takeL (i := 7) (v := _) rfl (by kernel_rfl) (by kernel_rfl) (by kernel_rfl) (fun _ _ _ h => h) (by first | exact Or.inl ⟨by rfl, (by intro u hSu; clear hSu; go_simp; try with_reducible rfl)⟩ | exact Or.inr ⟨by rfl, rfl⟩) kS ?_; (try simp only [Act.put, List.setIfInBounds_toArray, List.set_cons_zero, List.set_cons_succ])); (refine takeL (i := 8) (v := _) rfl (by kernel_rfl) (by kernel_rfl) (by kernel_rfl) (fun _ _ _ h => h) (by first | exact Or.inl ⟨by rfl, (by intro u hSu; clear hSu; go_simp; try with_reducible rfl)⟩ | exact Or.inr ⟨by rfl, rfl⟩) kS ?_; (try simp only [Act.put, List.setIfInBounds_toArray, List.set_cons_zero, List.set_cons_succ]))
    try rw [hneg.out]
    refine callL (i := 4) rfl (by kernel_rfl) (fun K hK => ?_)
    (go_simp; (with_reducible refine (HSp.out _).mono ?_); rintro e' w1 ⟨rfl, hb⟩; have E1 := Lib.hid (E.out.later hb); clear hb E; have E := E1; clear E1; go_wp2_with fail; (refine hK.out _ _ (E.out.part _ _ (by repeat (first | exact List.Sublist.refl _ | apply List.Sublist.cons_cons | apply List.Sublist.cons)) (by simp)) (fun kS => ?_); clear hK K; (try simp only [Act.put, List.setIfInBounds_toArray, List.set_cons_zero, List.set_cons_succ])))
    refine callL (i := 9) rfl (by kernel_rfl) (fun K hK => ?_)
    (go_simp; (with_reducible refine (HSm.out _).mono ?_); rintro e' w1 ⟨rfl, hb⟩; have E1 := Lib.hid (E.out.later hb); clear hb E; have E := E1; clear E1; go_wp2_with fail; (refine hK.out _ _ (E.out.part _ _ (by repeat (first | exact List.Sublist.refl _ | apply List.Sublist.cons_cons | apply List.Sublist.cons)) (by simp)) (fun kS => ?_); clear hK K; (try simp only [Act.put, List.setIfInBounds_toArray, List.set_cons_zero, List.set_cons_succ])))
    (refine takeL (i := 10) (v := arr FR) rfl (by kernel_rfl) (by kernel_rfl) (by kernel_rfl) (fun _ _ _ h => h) (yield_build4 rfl rfl hBt (by simp only [List.map_toArray, List.map_cons, List.map_nil]; rfl)) kS ?_; (try simp only [Act.put, List.setIfInBounds_toArray, List.set_cons_zero, List.set_cons_succ]))
    refine callL (i := 11) rfl (by kernel_rfl) (fun K hK => ?_)
    (go_simp; (with_reducible refine (HCh.out _).mono ?_); rintro e' w1 ⟨rfl, hb⟩; have E1 := Lib.hid (E.out.later hb); clear hb E; have E := E1; clear E1; go_wp2_with fail; (refine hK.out _ _ (E.out.part _ _ (by repeat (first | exact List.Sublist.refl _ | apply List.Sublist.cons_cons | apply List.Sublist.cons)) (by simp)) (fun kS => ?_); clear hK K; (try simp only [Act.put, List.setIfInBounds_toArray, List.set_cons_zero, List.set_cons_succ])))
    refine callL (i := 12) rfl (by kernel_rfl) (fun K hK => ?_)
    (rw [if_pos (by rfl)]; refine wp_kn_stores (g := g2) (vs := i64s CV) E.out rfl rfl rfl rfl ⟨rfl, by rw [i64s_length]; exact hchl.out⟩ (i64s_one _) ?_; clear E kS; intro u E0; have E := Lib.hid E0; clear E0; (refine hK.out _ _ (E.out.part _ _ (by repeat (first | exact List.Sublist.refl _ | apply List.Sublist.cons_cons | apply List.Sublist.cons)) (by simp)) (fun kS => ?_); clear hK K; (try simp only [Act.put, List.setIfInBounds_toArray, List.set_cons_zero, List.set_cons_succ])))
    refine wpAnyH_done (by kernel_rfl) ?_ _
    go_wp2_with fail
    refine bodyPost_ret (results_kn E.out rfl _ rfl (by rw [i64s_length]; exact hchl.out)) rfl ?_
    exact ⟨rfl, E.out.bel⟩
end Go.Proofs.YtgcijioiicmjiaaDoor
