/- A block's texels: the program's. -/
import Derived.Test.YtgcijioiicmjiaaDoorE1Shift
set_option linter.all false
namespace Go.Proofs.YtgcijioiicmjiaaDoor
open Go.RowKit
open Bi Lv Eo

instance : ZeroV 27 (i64s z64) := .of (by kernel_rfl)
theorem list4 {α : Type} (l : List α) (h : l.length = 4) : ∃ a b c d, l = [a, b, c, d] := by
  match l, h with
  | [a, b, c, d], _ => exact ⟨a, b, c, d, rfl⟩
theorem built_tabs (X Y : List Int) (hX : X.length = 4) (hY : Y.length = 4) (u : World) : (Instr.build 110 #[(0, arr X), (1, arr Y)]).run Tryd.prog u = .ok (arr (X ++ Y)) u := by
  obtain ⟨a, b, c, d, rfl⟩ := list4 X hX
  obtain ⟨a', b', c', d', rfl⟩ := list4 Y hY
  exact run_build u _ _ _ (by kernel_rfl)
/-- A literal of a struct or an array, by what it builds. -/
theorem yield_made {ops : Array Oper} {S : World → Prop} {o : Oper} {a : Act} (hw : Region.wanted o (yielded ops a.tmps) = true) {t : TypeId} {parts : Array (Nat × Operand)} {pv : Array (Nat × Value)} {v : Value} (ho : o.op = .build t parts) (hp : (parts.map fun (i, x) => (i, a.eval x)) = pv) (hb : ∀ u, (Instr.build t pv).run Tryd.prog u = .ok v u) : YieldsIf Tryd.prog ops S o v a :=
  .inl ⟨hw, fun u _ => by
    unfold execOp
    simp only [ho, hp, Sem.run_bind, hb, Result.andThen_ok, Sem.run_pure]⟩
theorem kn_made {u : World} {ops : Array Oper} {rest : List Oper} {o : Oper} {a : Act} {Q : Exit → Act → World → Prop} (hgd : o.guard = none) {t : TypeId} {parts : Array (Nat × Operand)} {pv : Array (Nat × Value)} {v : Value} (ho : o.op = .build t parts) (hp : (parts.map fun (i, x) => (i, a.eval x)) = pv) (hb : ∀ u, (Instr.build t pv).run Tryd.prog u = .ok v u)
    (h : wpList Tryd.prog ops Q rest (a.put o.dst v) u) : wpList Tryd.prog ops Q (o :: rest) a u :=
  wpList_plain hgd fun _ hK => by
    unfold Oper.wp execOp
    simp only [ho, hp, Sem.run_bind, hb, Result.andThen_ok, Sem.run_pure]
    exact hK _ _ h
namespace Eo
theorem numV_tabs (f : Bool) (Z : List Int) (i v : Nat) (hi : i < 16) (hv : Z.getD (8 + i) 0 = (v : Int)) (hv4 : v < 4) : (tabV (Z.getD 6 0) ++ tabV (Z.getD 7 0)).getD (halfN f i * 4 + v) 0 = numV f Z i := by
  have hh := halfN_lt f hi
  unfold numV
  rw [hv, Int.toNat_natCast]
  obtain e | e : halfN f i = 0 ∨ halfN f i = 1 := by omega
  · rw [e, List.getD_eq_getElem?_getD, List.getElem?_append_left (by rw [tabV_length]; omega), ← List.getD_eq_getElem?_getD]
    simp
  · rw [e, List.getD_eq_getElem?_getD, List.getElem?_append_right (by rw [tabV_length]; omega), ← List.getD_eq_getElem?_getD, tabV_length]
    congr 1
    omega
theorem numV_bd (f : Bool) (Z : List Int) (i : Nat) : -183 ≤ numV f Z i ∧ numV f Z i ≤ 183 := tabV_bd _ _
end Eo
set_option maxHeartbeats 8000000 in
set_option maxRecDepth 100000 in
theorem paint_any (d f : Bool) (Z : List Int) (w : World) (hZ : Z.length = 24) (h : okP d Z) (hN : Nums w) :
    Calls Tryd.prog 46 #[.agg (blk d f Z).toArray] w fun e w' => e = .returned (arr (paV d f Z)) ∧ Below w.heap.size w w' := by
  have E := Lib.hid ((Kn.start w).arg_nums hN)
  have hBa := Lib.hid (fun u => bases_any d f Z u hZ h)
  have hT0 := Lib.hid (fun u hu => table_any (Z.getD 6 0) u hu)
  have hT1 := Lib.hid (fun u hu => table_any (Z.getD 7 0) u hu)
  have hbt : ∀ u, (Instr.build 110 #[(0, arr (tabV (Z.getD 6 0))), (1, arr (tabV (Z.getD 7 0)))]).run Tryd.prog u = .ok (arr (tabV (Z.getD 6 0) ++ tabV (Z.getD 7 0))) u := built_tabs (tabV (Z.getD 6 0)) (tabV (Z.getD 7 0)) rfl rfl
  have H4 := Lib.hid (fun i (hi : i < 16) => ok_w h hi)
  have hNT := Lib.hid (fun i v hi hv hv4 => numV_tabs f Z i v hi hv hv4)
  have hNb := Lib.hid (numV_bd f Z)
  have hXl := Lib.hid (show (tabV (Z.getD 6 0) ++ tabV (Z.getD 7 0)).length = 8 from rfl)
  have hBl := Lib.hid (baV_length d Z)
  have hRl := Lib.hid (bRow_length d Z)
  have hRb := Lib.hid (bRow_bd d Z)
  have hRr := Lib.hid (fun k => show ((baV d Z).drop (k * 4)).take 4 = bRow d Z k from rfl)
  have hTx := Lib.hid (fun i => show txV d f Z i = addV (bRow d Z (halfN f i)) (numV f Z i) from rfl)
  have hTl := Lib.hid (txV_length d f Z)
  have hF0 := Lib.hid (show fl z64 (txV d f Z) 0 = z64 from rfl)
  have hFs := Lib.hid (fun k => show fl z64 (txV d f Z) (k + 1) = spl (fl z64 (txV d f Z) k) (k * 4) (txV d f Z k) from rfl)
  have hFl := Lib.hid (fun k => show (fl z64 (txV d f Z) k).length = 64 from by rw [fl_length]; exact z64_length)
  have hz64 := Lib.hid z64_length
  have hFl' := hFl
  have HC6 := Lib.hid (blk_z d f Z (i := 6) (j := 8) rfl (by omega))
  have HC7 := Lib.hid (blk_z d f Z (i := 7) (j := 9) rfl (by omega))
  have hW2 := Lib.hid (show ∀ c, c < 16 → ((Z.drop 8).take 16).getD c 0 = Z.getD (8 + c) 0 from fun c hc => by
    rw [List.getD_eq_getElem?_getD, List.getElem?_take, if_pos hc, List.getElem?_drop, ← List.getD_eq_getElem?_getD])
  have hWl : ((Z.drop 8).take 16).length = 16 := by rw [List.length_take, List.length_drop]; omega
  have hIW := Lib.hid (fun (j : Nat) (hj : j < 16) (u : World) => run_index_i64 (P := Tryd.prog) 46 3 16 Tryd.underlying46 Tryd.underlying3 (by kernel_rfl) ((Z.drop 8).take 16) j hj hWl u)
  obtain ⟨W2, hWe⟩ : ∃ W2, (Z.drop 8).take 16 = W2 := ⟨_, rfl⟩
  rw [hWe] at hW2 hIW
  have HWE := Lib.hid hWe
  rw [show paV d f Z = fl z64 (txV d f Z) 16 from rfl]
  clear hWe hWl h
  generalize fl z64 (txV d f Z) = FL at *
  generalize txV d f Z = TX at *
  generalize tabV (Z.getD 6 0) ++ tabV (Z.getD 7 0) = XY at *
  generalize tabV (Z.getD 6 0) = X at *
  generalize tabV (Z.getD 7 0) = Y at *
  generalize numV f Z = NV at *
  generalize Z.getD 6 0 = z6 at *
  generalize Z.getD 7 0 = z7 at *
  generalize bRow d Z = BR at *
  generalize baV d Z = BA at *
  go_enter Tryd.func46, Tryd.ntmps46
  go_wp2_with (first
    | (go_at_call 22; refine (hBa.out _).mono ?_; clear hBa; rintro e w1 ⟨rfl, hb⟩; have E1 := Lib.hid (E.out.later hb); clear hb E; have E := E1; clear E1)
    | ((with_reducible refine kn_ball (g := g1) E.out rfl rfl rfl ?h1 ?_); (case h1 => exact hZ))
    | ((with_reducible refine kn_stores (g := g3) (vs := i64s BA) E.out rfl rfl rfl rfl rfl ?hl ?h1 ?_); (case hl => exact ⟨rfl, by rw [i64s_length]; exact hBl.out⟩); (case h1 => exact i64s_one _); clear E; intro u E0; have E := Lib.hid E0; clear E0)
    | ((with_reducible refine kn_load E.out rfl rfl rfl rfl ?_)) | ((with_reducible refine kn_load_if E.out rfl rfl rfl rfl ?_)) | ((with_reducible refine kn_loads E.out rfl rfl rfl ?_ ?_); (focus (first | rfl | (simp only [i64s_length, u8s_length]; first | rfl | assumption | omega)))) | ((with_reducible refine kn_loads_if E.out rfl rfl rfl ?_ ?_); (focus (first | rfl | (simp only [i64s_length, u8s_length]; first | rfl | assumption | omega)))) | ((with_reducible refine kn_stores E.out rfl rfl rfl rfl rfl ?_ ?_ ?_); (focus (first | exact ⟨rfl, rfl⟩ | (simp only [i64s_length, u8s_length]; refine ⟨?_, ?_⟩ <;> first | rfl | assumption | omega))); (focus (first | exact i64s_one _ | exact u8s_one _ | simp [Value.oneCell'])); clear E; intro u E0; have E := Lib.hid E0; clear E0) | ((with_reducible refine kn_alloc (o := ⟨some 1, _, _, _, _, _⟩) E.out rfl rfl ?_); clear E; intro g1 u E0 hb0; have E := Lib.hid E0; clear E0 hb0) | ((with_reducible refine kn_box (o := ⟨some 1, _, _, _, _, _⟩) E.out rfl rfl rfl ?_); clear E; intro g1 u E0 hb0; have E := Lib.hid E0; clear E0 hb0) | ((with_reducible refine kn_box_int (o := ⟨some 1, _, _, _, _, _⟩) E.out rfl rfl rfl ?_); clear E; intro g1 u E0 hb0; have E := Lib.hid E0; clear E0 hb0) | ((with_reducible refine kn_box_slice (o := ⟨some 1, _, _, _, _, _⟩) E.out rfl rfl rfl ?_); clear E; intro g1 u E0 hb0; have E := Lib.hid E0; clear E0 hb0) | ((with_reducible refine kn_box_bool (o := ⟨some 1, _, _, _, _, _⟩) E.out rfl rfl rfl ?_); clear E; intro g1 u E0 hb0; have E := Lib.hid E0; clear E0 hb0) | ((with_reducible refine kn_box_func (o := ⟨some 1, _, _, _, _, _⟩) E.out rfl rfl rfl ?_); clear E; intro g1 u E0 hb0; have E := Lib.hid E0; clear E0 hb0) | ((with_reducible refine kn_alloc (o := ⟨some 2, _, _, _, _, _⟩) E.out rfl rfl ?_); clear E; intro g2 u E0 hb0; have E := Lib.hid E0; clear E0 hb0) | ((with_reducible refine kn_box (o := ⟨some 2, _, _, _, _, _⟩) E.out rfl rfl rfl ?_); clear E; intro g2 u E0 hb0; have E := Lib.hid E0; clear E0 hb0) | ((with_reducible refine kn_box_int (o := ⟨some 2, _, _, _, _, _⟩) E.out rfl rfl rfl ?_); clear E; intro g2 u E0 hb0; have E := Lib.hid E0; clear E0 hb0) | ((with_reducible refine kn_box_slice (o := ⟨some 2, _, _, _, _, _⟩) E.out rfl rfl rfl ?_); clear E; intro g2 u E0 hb0; have E := Lib.hid E0; clear E0 hb0) | ((with_reducible refine kn_box_bool (o := ⟨some 2, _, _, _, _, _⟩) E.out rfl rfl rfl ?_); clear E; intro g2 u E0 hb0; have E := Lib.hid E0; clear E0 hb0) | ((with_reducible refine kn_box_func (o := ⟨some 2, _, _, _, _, _⟩) E.out rfl rfl rfl ?_); clear E; intro g2 u E0 hb0; have E := Lib.hid E0; clear E0 hb0) | ((with_reducible refine kn_alloc (o := ⟨some 3, _, _, _, _, _⟩) E.out rfl rfl ?_); clear E; intro g3 u E0 hb0; have E := Lib.hid E0; clear E0 hb0) | ((with_reducible refine kn_box (o := ⟨some 3, _, _, _, _, _⟩) E.out rfl rfl rfl ?_); clear E; intro g3 u E0 hb0; have E := Lib.hid E0; clear E0 hb0) | ((with_reducible refine kn_box_int (o := ⟨some 3, _, _, _, _, _⟩) E.out rfl rfl rfl ?_); clear E; intro g3 u E0 hb0; have E := Lib.hid E0; clear E0 hb0) | ((with_reducible refine kn_box_slice (o := ⟨some 3, _, _, _, _, _⟩) E.out rfl rfl rfl ?_); clear E; intro g3 u E0 hb0; have E := Lib.hid E0; clear E0 hb0) | ((with_reducible refine kn_box_bool (o := ⟨some 3, _, _, _, _, _⟩) E.out rfl rfl rfl ?_); clear E; intro g3 u E0 hb0; have E := Lib.hid E0; clear E0 hb0) | ((with_reducible refine kn_box_func (o := ⟨some 3, _, _, _, _, _⟩) E.out rfl rfl rfl ?_); clear E; intro g3 u E0 hb0; have E := Lib.hid E0; clear E0 hb0))
  refine wp_region_held_drew (S := Kn w [.row g1 48 (blk d f Z)] [Nums]) (by kernel_rfl) (E.out.drew.part _ _ (by repeat (first | exact List.Sublist.refl _ | apply List.Sublist.cons_cons | apply List.Sublist.cons)) (by simp)) (fun kS => ?_)
  have E1 := Lib.hid E.out.drew
  generalize World.drew _ = u1 at kS E1 ⊢
  clear E
  have E := E1
  clear E1
  (refine takeL (i := 0) (v := _) rfl (by kernel_rfl) (by kernel_rfl) (by kernel_rfl) (fun _ _ _ h => h) (by first | exact Or.inl ⟨by rfl, (by intro u hSu; clear hSu; go_simp; try with_reducible rfl)⟩ | exact Or.inr ⟨by rfl, rfl⟩) kS ?_; (try simp only [Act.put, List.setIfInBounds_toArray, List.set_cons_zero, List.set_cons_succ])); (refine takeL (i := 1) (v := _) rfl (by kernel_rfl) (by kernel_rfl) (by kernel_rfl) (fun _ _ _ h => h) (by first | exact Or.inl ⟨by rfl, (by intro u hSu; clear hSu; go_simp; try with_reducible rfl)⟩ | exact Or.inr ⟨by rfl, rfl⟩) kS ?_; (try simp only [Act.put, List.setIfInBounds_toArray, List.set_cons_zero, List.set_cons_succ]))
  (refine takeL (i := 2) (v := _) rfl (by kernel_rfl) (by kernel_rfl) (by kernel_rfl) (fun _ _ _ h => h) (yield_load (g := g1) (i := 8) rfl rfl rfl HC6.out) kS ?_; (try simp only [Act.put, List.setIfInBounds_toArray, List.set_cons_zero, List.set_cons_succ]))
  (refine takeL (i := 4) (v := _) rfl (by kernel_rfl) (by kernel_rfl) (by kernel_rfl) (fun _ _ _ h => h) (by first | exact Or.inl ⟨by rfl, (by intro u hSu; clear hSu; go_simp; try with_reducible rfl)⟩ | exact Or.inr ⟨by rfl, rfl⟩) kS ?_; (try simp only [Act.put, List.setIfInBounds_toArray, List.set_cons_zero, List.set_cons_succ])); (refine takeL (i := 5) (v := _) rfl (by kernel_rfl) (by kernel_rfl) (by kernel_rfl) (fun _ _ _ h => h) (by first | exact Or.inl ⟨by rfl, (by intro u hSu; clear hSu; go_simp; try with_reducible rfl)⟩ | exact Or.inr ⟨by rfl, rfl⟩) kS ?_; (try simp only [Act.put, List.setIfInBounds_toArray, List.set_cons_zero, List.set_cons_succ]))
  (refine takeL (i := 6) (v := _) rfl (by kernel_rfl) (by kernel_rfl) (by kernel_rfl) (fun _ _ _ h => h) (yield_load (g := g1) (i := 9) rfl rfl rfl HC7.out) kS ?_; (try simp only [Act.put, List.setIfInBounds_toArray, List.set_cons_zero, List.set_cons_succ]))
  refine callL2 (i := 3) (j := 9) rfl rfl (by kernel_rfl) (fun K hK => ?_) (fun K hK => ?_)
  · (go_simp; (with_reducible refine (hT0.out _ (E.out.get List.mem_cons_self)).mono ?_); rintro e w1 ⟨rfl, hb⟩; have E1 := Lib.hid (E.out.later hb); clear hb E; have E := E1; clear E1; go_wp2_with fail; (refine hK.out _ _ (E.out.part _ _ (by repeat (first | exact List.Sublist.refl _ | apply List.Sublist.cons_cons | apply List.Sublist.cons)) (by simp)) (fun kS => ?_); clear hK K; (try simp only [Act.put, List.setIfInBounds_toArray, List.set_cons_zero, List.set_cons_succ])))
    refine callL2 (i := 7) (j := 9) rfl rfl (by kernel_rfl) (fun K hK => ?_) (fun K hK => ?_)
    · (go_simp; (with_reducible refine (hT1.out _ (E.out.get List.mem_cons_self)).mono ?_); rintro e w1 ⟨rfl, hb⟩; have E1 := Lib.hid (E.out.later hb); clear hb E; have E := E1; clear E1; go_wp2_with fail; (refine hK.out _ _ (E.out.part _ _ (by repeat (first | exact List.Sublist.refl _ | apply List.Sublist.cons_cons | apply List.Sublist.cons)) (by simp)) (fun kS => ?_); clear hK K; (try simp only [Act.put, List.setIfInBounds_toArray, List.set_cons_zero, List.set_cons_succ])))
      (refine takeL (i := 8) (v := arr XY) rfl (by kernel_rfl) (by kernel_rfl) (by kernel_rfl) (fun _ _ _ h => h) (yield_made (pv := #[(0, arr X), (1, arr Y)]) rfl rfl (by simp only [List.map_toArray, List.map_cons, List.map_nil]; rfl) hbt) kS ?_; (try simp only [Act.put, List.setIfInBounds_toArray, List.set_cons_zero, List.set_cons_succ]))
      refine callL (i := 9) rfl (by kernel_rfl) (fun K hK => ?_)
      (rw [if_pos (by rfl)]; refine wp_kn_alloc E.out rfl ?_; clear E kS; intro g5 u E0; have E := Lib.hid E0; clear E0; (refine hK.out _ _ (E.out.part _ _ (by repeat (first | exact List.Sublist.refl _ | apply List.Sublist.cons_cons | apply List.Sublist.cons)) (by simp)) (fun kS => ?_); clear hK K; (try simp only [Act.put, List.setIfInBounds_toArray, List.set_cons_zero, List.set_cons_succ])))
      refine callL (i := 10) rfl (by kernel_rfl) (fun K hK => ?_)
      (rw [if_pos (by rfl)]; refine wp_kn_stores (g := g5) (vs := i64s XY) E.out rfl rfl rfl rfl ⟨by rfl, by rw [i64s_length]; exact hXl.out⟩ (i64s_one _) ?_; clear E kS; intro u E0; have E := Lib.hid E0; clear E0; (refine hK.out _ _ (E.out.part _ _ (by repeat (first | exact List.Sublist.refl _ | apply List.Sublist.cons_cons | apply List.Sublist.cons)) (by simp)) (fun kS => ?_); clear hK K; (try simp only [Act.put, List.setIfInBounds_toArray, List.set_cons_zero, List.set_cons_succ])))
      refine wpAnyH_done (by kernel_rfl) ?_ _
      go_wp2_with (first
        | ((with_reducible refine kn_bp (g := g1) (i := 8) E.out rfl rfl rfl ?h1 ?h2 ?_); (case h1 => rfl); (case h2 => omega); rw [HWE.out])
        | ((with_reducible refine kn_load E.out rfl rfl rfl rfl ?_)) | ((with_reducible refine kn_load_if E.out rfl rfl rfl rfl ?_)) | ((with_reducible refine kn_loads E.out rfl rfl rfl ?_ ?_); (focus (first | rfl | (simp only [i64s_length, u8s_length]; first | rfl | assumption | omega)))) | ((with_reducible refine kn_loads_if E.out rfl rfl rfl ?_ ?_); (focus (first | rfl | (simp only [i64s_length, u8s_length]; first | rfl | assumption | omega)))) | ((with_reducible refine kn_stores E.out rfl rfl rfl rfl rfl ?_ ?_ ?_); (focus (first | exact ⟨rfl, rfl⟩ | (simp only [i64s_length, u8s_length]; refine ⟨?_, ?_⟩ <;> first | rfl | assumption | omega))); (focus (first | exact i64s_one _ | exact u8s_one _ | simp [Value.oneCell'])); clear E; intro u E0; have E := Lib.hid E0; clear E0) | ((with_reducible refine kn_alloc (o := ⟨some 6, _, _, _, _, _⟩) E.out rfl rfl ?_); clear E; intro g6 u E0 hb0; have E := Lib.hid E0; clear E0 hb0) | ((with_reducible refine kn_box (o := ⟨some 6, _, _, _, _, _⟩) E.out rfl rfl rfl ?_); clear E; intro g6 u E0 hb0; have E := Lib.hid E0; clear E0 hb0) | ((with_reducible refine kn_box_int (o := ⟨some 6, _, _, _, _, _⟩) E.out rfl rfl rfl ?_); clear E; intro g6 u E0 hb0; have E := Lib.hid E0; clear E0 hb0) | ((with_reducible refine kn_box_slice (o := ⟨some 6, _, _, _, _, _⟩) E.out rfl rfl rfl ?_); clear E; intro g6 u E0 hb0; have E := Lib.hid E0; clear E0 hb0) | ((with_reducible refine kn_box_bool (o := ⟨some 6, _, _, _, _, _⟩) E.out rfl rfl rfl ?_); clear E; intro g6 u E0 hb0; have E := Lib.hid E0; clear E0 hb0) | ((with_reducible refine kn_box_func (o := ⟨some 6, _, _, _, _, _⟩) E.out rfl rfl rfl ?_); clear E; intro g6 u E0 hb0; have E := Lib.hid E0; clear E0 hb0))
      go_loopw [26] (fun ci wr => ∃ i : Nat, i ≤ 16 ∧ ci = .int .i64 i ∧ Hid (Kn w [.row g6 27 (i64s (FL i)), .row g5 110 (i64s XY), .row g3 51 (i64s BA), .row g2 27 (i64s z64), .row g1 48 (blk d f Z)] [Nums] wr)) (fun ci _ => 16 - (intOf ci).toNat)
      case atStart => exact ⟨0, by omega, rfl, by rw [hF0.out]; exact E.out.part _ _ (by repeat (first | exact List.Sublist.refl _ | apply List.Sublist.cons_cons | apply List.Sublist.cons)) (by simp)⟩
      case round =>
        clear E
        obtain ⟨i, hi, rfl, E⟩ := hrel
        have hl := hFl.out i
        by_cases hlt : i < 16
        · have hi3 : (i : Int) < 16 := by omega
          have hix := hIW.out i hlt
          rw [hW2.out i hlt] at hix
          have h4 := H4.out i hlt
          have hHf := Lib.hid (fun u => half_any f (i : Int) u)
          rw [halfV_nat f hlt] at hHf
          have hh := halfN_lt f hlt
          obtain ⟨v, hv⟩ : ∃ v : Nat, Z.getD (8 + i) 0 = (v : Int) := ⟨(Z.getD (8 + i) 0).toNat, by omega⟩
          have hv4 : v < 4 := by rw [hv] at h4; omega
          have hn := hNT.out i v hlt hv hv4
          have hnb := hNb.out i
          rw [hv] at hix
          have hLo := Lib.hid (fun u => lowest_any (v : Int) 2 2 rfl u (by omega))
          rw [low_is (n := (v : Int)) (m := 2) (by have e : ((2 ^ 2 : Nat) : Int) = 4 := rfl; rw [e]; omega)] at hLo
          have hrr := Lib.hid (hRr.out (halfN f i))
          have hSh := Lib.hid (fun u => show Calls Tryd.prog 77 #[arr (BR (halfN f i)), .int .i64 (NV i)] u (fun e w' => e = .returned (arr (TX i)) ∧ Below u.heap.size u w') from by
            rw [hTx.out i]
            exact shifted_any _ _ u (hRl.out _ hh) (hRb.out _) hnb)
          have hfs := Lib.hid (hFs.out i)
          have htl := Lib.hid (hTl.out i)
          have hxl := hXl.out
          have hbl := hBl.out
          have hci : (XY)[halfN f i * 4 + v]? = some (NV i) := by
            rw [← hn, List.getD_eq_getElem?_getD, List.getElem?_eq_getElem (by omega)]
            rfl
          have hcv := Lib.hid (show (i64s XY)[halfN f i * 4 + v]? = some (.int .i64 (NV i)) from by
            rw [i64s_get XY _ (by omega), hn])
          have hh2 : ((halfN f i : Nat) : Int) < 2 := by omega
          have hv42 : (v : Int) < 4 := by omega
          clear H4 hNT hNb hRl hRb hRr hTx hTl hF0 hFs hFl hIW hW2 hci hn hv h4 HWE hXl hBl hl HC6 HC7 hbt hnb
          have hl := hFl'.out i
          clear hFl'
          generalize halfN f i = q at *
          generalize NV i = nv at *
          generalize TX i = tx at *
          generalize BR q = br at *
          go_wp2_with (first
            | (go_at_call 76; (with_reducible refine (hHf.out _).mono ?_); clear hHf; rintro e w1 ⟨rfl, rfl⟩)
            | ((with_reducible refine kn_bf (g := g1) E.out rfl rfl rfl ?_))
            | ((with_reducible refine kn_load E.out rfl rfl rfl rfl ?_)) | ((with_reducible refine kn_load_if E.out rfl rfl rfl rfl ?_)) | ((with_reducible refine kn_loads E.out rfl rfl rfl ?_ ?_); (focus (first | rfl | (simp only [i64s_length, u8s_length]; first | rfl | assumption | omega)))) | ((with_reducible refine kn_loads_if E.out rfl rfl rfl ?_ ?_); (focus (first | rfl | (simp only [i64s_length, u8s_length]; first | rfl | assumption | omega)))) | ((with_reducible refine kn_stores E.out rfl rfl rfl rfl rfl ?_ ?_ ?_); (focus (first | exact ⟨rfl, rfl⟩ | (simp only [i64s_length, u8s_length]; refine ⟨?_, ?_⟩ <;> first | rfl | assumption | omega))); (focus (first | exact i64s_one _ | exact u8s_one _ | simp [Value.oneCell'])); clear E; intro u E0; have E := Lib.hid E0; clear E0))
          refine wp_region_held_drew (S := Kn w [.row g5 110 (i64s XY), .row g3 51 (i64s BA)] [Nums]) (by kernel_rfl) (E.out.drew.part _ _ (by repeat (first | exact List.Sublist.refl _ | apply List.Sublist.cons_cons | apply List.Sublist.cons)) (by simp)) (fun kS => ?_)
          have E1 := Lib.hid E.out.drew
          generalize World.drew _ = u1 at kS E1 ⊢
          clear E
          have E := E1
          clear E1
          (refine takeL (i := 0) (v := _) rfl (by kernel_rfl) (by kernel_rfl) (by kernel_rfl) (fun _ _ _ h => h) (by first | exact Or.inl ⟨by rfl, (by intro u hSu; clear hSu; go_simp; try with_reducible rfl)⟩ | exact Or.inr ⟨by rfl, rfl⟩) kS ?_; (try simp only [Act.put, List.setIfInBounds_toArray, List.set_cons_zero, List.set_cons_succ])); (refine takeL (i := 1) (v := _) rfl (by kernel_rfl) (by kernel_rfl) (by kernel_rfl) (fun _ _ _ h => h) (by first | exact Or.inl ⟨by rfl, (by intro u hSu; clear hSu; go_simp; try with_reducible rfl)⟩ | exact Or.inr ⟨by rfl, rfl⟩) kS ?_; (try simp only [Act.put, List.setIfInBounds_toArray, List.set_cons_zero, List.set_cons_succ])); (refine takeL (i := 2) (v := _) rfl (by kernel_rfl) (by kernel_rfl) (by kernel_rfl) (fun _ _ _ h => h) (by first | exact Or.inl ⟨by rfl, (by intro u hSu; clear hSu; go_simp; try with_reducible rfl)⟩ | exact Or.inr ⟨by rfl, rfl⟩) kS ?_; (try simp only [Act.put, List.setIfInBounds_toArray, List.set_cons_zero, List.set_cons_succ]))
          (refine takeL (i := 3) (v := arr br) rfl (by kernel_rfl) (by kernel_rfl) (by kernel_rfl) (fun _ _ _ h => h) (by rw [← hrr.out]; exact yield_loadp (g := g3) (off := q * 4) rfl rfl rfl (by omega)) kS ?_; (try simp only [Act.put, List.setIfInBounds_toArray, List.set_cons_zero, List.set_cons_succ]))
          (refine takeL (i := 4) (v := _) rfl (by kernel_rfl) (by kernel_rfl) (by kernel_rfl) (fun _ _ _ h => h) (by first | exact Or.inl ⟨by rfl, (by intro u hSu; clear hSu; go_simp; try with_reducible rfl)⟩ | exact Or.inr ⟨by rfl, rfl⟩) kS ?_; (try simp only [Act.put, List.setIfInBounds_toArray, List.set_cons_zero, List.set_cons_succ])); (refine takeL (i := 5) (v := _) rfl (by kernel_rfl) (by kernel_rfl) (by kernel_rfl) (fun _ _ _ h => h) (by first | exact Or.inl ⟨by rfl, (by intro u hSu; clear hSu; go_simp; try with_reducible rfl)⟩ | exact Or.inr ⟨by rfl, rfl⟩) kS ?_; (try simp only [Act.put, List.setIfInBounds_toArray, List.set_cons_zero, List.set_cons_succ])); (refine takeL (i := 7) (v := _) rfl (by kernel_rfl) (by kernel_rfl) (by kernel_rfl) (fun _ _ _ h => h) (by first | exact Or.inl ⟨by rfl, (by intro u hSu; clear hSu; go_simp; try with_reducible rfl)⟩ | exact Or.inr ⟨by rfl, rfl⟩) kS ?_; (try simp only [Act.put, List.setIfInBounds_toArray, List.set_cons_zero, List.set_cons_succ]))
          refine callL (i := 6) rfl (by kernel_rfl) (fun K hK => ?_)
          (go_simp; refine (hLo.out _).mono ?_; rintro e w1 ⟨rfl, rfl⟩; go_wp2_with fail; (refine hK.out _ _ (E.out.part _ _ (by repeat (first | exact List.Sublist.refl _ | apply List.Sublist.cons_cons | apply List.Sublist.cons)) (by simp)) (fun kS => ?_); clear hK K; (try simp only [Act.put, List.setIfInBounds_toArray, List.set_cons_zero, List.set_cons_succ])))
          (refine takeL (i := 8) (v := _) rfl (by kernel_rfl) (by kernel_rfl) (by kernel_rfl) (fun _ _ _ h => h) (by first | exact Or.inl ⟨by rfl, (by intro u hSu; clear hSu; go_simp; try with_reducible rfl)⟩ | exact Or.inr ⟨by rfl, rfl⟩) kS ?_; (try simp only [Act.put, List.setIfInBounds_toArray, List.set_cons_zero, List.set_cons_succ]))
          (refine takeL (i := 9) (v := _) rfl (by kernel_rfl) (by kernel_rfl) (by kernel_rfl) (fun _ _ _ h => h) (yield_load (g := g5) (i := q * 4 + v) rfl rfl rfl hcv.out) kS ?_; (try simp only [Act.put, List.setIfInBounds_toArray, List.set_cons_zero, List.set_cons_succ]))
          refine callL (i := 10) rfl (by kernel_rfl) (fun K hK => ?_)
          (go_simp; refine (hSh.out _).mono ?_; rintro e w1 ⟨rfl, hb⟩; go_wp2_with fail; have E1 := Lib.hid (E.out.later hb); clear hb E; have E := E1; clear E1; (refine hK.out _ _ (E.out.part _ _ (by repeat (first | exact List.Sublist.refl _ | apply List.Sublist.cons_cons | apply List.Sublist.cons)) (by simp)) (fun kS => ?_); clear hK K; (try simp only [Act.put, List.setIfInBounds_toArray, List.set_cons_zero, List.set_cons_succ])))
          (refine takeL (i := 11) (v := _) rfl (by kernel_rfl) (by kernel_rfl) (by kernel_rfl) (fun _ _ _ h => h) (by first | exact Or.inl ⟨by rfl, (by intro u hSu; clear hSu; go_simp; try with_reducible rfl)⟩ | exact Or.inr ⟨by rfl, rfl⟩) kS ?_; (try simp only [Act.put, List.setIfInBounds_toArray, List.set_cons_zero, List.set_cons_succ]))
          refine callL (i := 12) rfl (by kernel_rfl) (fun K hK => ?_)
          (rw [if_pos (by rfl)]; refine wp_kn_storeq (g := g6) (ys := tx) E.out rfl rfl rfl rfl htl.out (by omega) ?_; clear E kS; intro u E0; have E := Lib.hid E0; clear E0; (refine hK.out _ _ (E.out.part _ _ (by repeat (first | exact List.Sublist.refl _ | apply List.Sublist.cons_cons | apply List.Sublist.cons)) (by simp)) (fun kS => ?_); clear hK K; (try simp only [Act.put, List.setIfInBounds_toArray, List.set_cons_zero, List.set_cons_succ])))
          refine wpAnyH_done (by kernel_rfl) ?_ _
          go_wp2_with fail
          go_roundw
          case rel => exact ⟨i + 1, by omega, by go_num, by rw [hfs.out]; exact E.out.part _ _ (by repeat (first | exact List.Sublist.refl _ | apply List.Sublist.cons_cons | apply List.Sublist.cons)) (fun _ h => h)⟩
          case measure => simp [intOf]; try omega
        · have hi3 : ¬ ((i : Int) < 16) := by omega
          have ei : i = 16 := by omega
          rw [ei] at E
          have hl16 := hFl.out 16
          clear H4 hNT hNb hRl hRb hRr hTx hTl hF0 hFs hFl hIW hW2 HWE hXl hBl hl HC6 HC7 hbt hlt hi ei hFl'
          go_wp2_with (first
            | ((with_reducible refine kn_loads (g := g6) E.out rfl rfl rfl ?hl ?_); (case hl => rw [i64s_length]; exact hl16))
            | ((with_reducible refine kn_stores (g := g2) (vs := i64s (FL 16)) E.out rfl rfl rfl rfl rfl ?hl ?h1 ?_); (case hl => exact ⟨by rw [i64s_length]; exact hz64.out, by rw [i64s_length]; exact hl16⟩); (case h1 => exact i64s_one _); clear E; intro u E0; have E := Lib.hid E0; clear E0)
            | ((with_reducible refine kn_load E.out rfl rfl rfl rfl ?_)) | ((with_reducible refine kn_load_if E.out rfl rfl rfl rfl ?_)) | ((with_reducible refine kn_loads E.out rfl rfl rfl ?_ ?_); (focus (first | rfl | (simp only [i64s_length, u8s_length]; first | rfl | assumption | omega)))) | ((with_reducible refine kn_loads_if E.out rfl rfl rfl ?_ ?_); (focus (first | rfl | (simp only [i64s_length, u8s_length]; first | rfl | assumption | omega)))) | ((with_reducible refine kn_stores E.out rfl rfl rfl rfl rfl ?_ ?_ ?_); (focus (first | exact ⟨rfl, rfl⟩ | (simp only [i64s_length, u8s_length]; refine ⟨?_, ?_⟩ <;> first | rfl | assumption | omega))); (focus (first | exact i64s_one _ | exact u8s_one _ | simp [Value.oneCell'])); clear E; intro u E0; have E := Lib.hid E0; clear E0))
          refine bodyPost_ret (results_kn E.out rfl _ rfl (by rw [i64s_length]; exact hl16)) rfl ?_
          exact ⟨rfl, E.out.bel⟩
    · (rw [if_pos (by rfl)]; refine wp_kn_alloc E.out rfl ?_; clear E kS; intro g5 u E0; have E := Lib.hid E0; clear E0; (refine hK.out _ _ (E.out.part _ _ (by repeat (first | exact List.Sublist.refl _ | apply List.Sublist.cons_cons | apply List.Sublist.cons)) (by simp)) (fun kS => ?_); clear hK K; (try simp only [Act.put, List.setIfInBounds_toArray, List.set_cons_zero, List.set_cons_succ])))
      refine callL (i := 7) rfl (by kernel_rfl) (fun K hK => ?_)
      (go_simp; (with_reducible refine (hT1.out _ (E.out.get List.mem_cons_self)).mono ?_); rintro e w1 ⟨rfl, hb⟩; have E1 := Lib.hid (E.out.later hb); clear hb E; have E := E1; clear E1; go_wp2_with fail; (refine hK.out _ _ (E.out.part _ _ (by repeat (first | exact List.Sublist.refl _ | apply List.Sublist.cons_cons | apply List.Sublist.cons)) (by simp)) (fun kS => ?_); clear hK K; (try simp only [Act.put, List.setIfInBounds_toArray, List.set_cons_zero, List.set_cons_succ])))
      (refine takeL (i := 8) (v := arr XY) rfl (by kernel_rfl) (by kernel_rfl) (by kernel_rfl) (fun _ _ _ h => h) (yield_made (pv := #[(0, arr X), (1, arr Y)]) rfl rfl (by simp only [List.map_toArray, List.map_cons, List.map_nil]; rfl) hbt) kS ?_; (try simp only [Act.put, List.setIfInBounds_toArray, List.set_cons_zero, List.set_cons_succ]))
      refine callL (i := 10) rfl (by kernel_rfl) (fun K hK => ?_)
      (rw [if_pos (by rfl)]; refine wp_kn_stores (g := g5) (vs := i64s XY) E.out rfl rfl rfl rfl ⟨by rfl, by rw [i64s_length]; exact hXl.out⟩ (i64s_one _) ?_; clear E kS; intro u E0; have E := Lib.hid E0; clear E0; (refine hK.out _ _ (E.out.part _ _ (by repeat (first | exact List.Sublist.refl _ | apply List.Sublist.cons_cons | apply List.Sublist.cons)) (by simp)) (fun kS => ?_); clear hK K; (try simp only [Act.put, List.setIfInBounds_toArray, List.set_cons_zero, List.set_cons_succ])))
      refine wpAnyH_done (by kernel_rfl) ?_ _
      go_wp2_with (first
        | ((with_reducible refine kn_bp (g := g1) (i := 8) E.out rfl rfl rfl ?h1 ?h2 ?_); (case h1 => rfl); (case h2 => omega); rw [HWE.out])
        | ((with_reducible refine kn_load E.out rfl rfl rfl rfl ?_)) | ((with_reducible refine kn_load_if E.out rfl rfl rfl rfl ?_)) | ((with_reducible refine kn_loads E.out rfl rfl rfl ?_ ?_); (focus (first | rfl | (simp only [i64s_length, u8s_length]; first | rfl | assumption | omega)))) | ((with_reducible refine kn_loads_if E.out rfl rfl rfl ?_ ?_); (focus (first | rfl | (simp only [i64s_length, u8s_length]; first | rfl | assumption | omega)))) | ((with_reducible refine kn_stores E.out rfl rfl rfl rfl rfl ?_ ?_ ?_); (focus (first | exact ⟨rfl, rfl⟩ | (simp only [i64s_length, u8s_length]; refine ⟨?_, ?_⟩ <;> first | rfl | assumption | omega))); (focus (first | exact i64s_one _ | exact u8s_one _ | simp [Value.oneCell'])); clear E; intro u E0; have E := Lib.hid E0; clear E0) | ((with_reducible refine kn_alloc (o := ⟨some 6, _, _, _, _, _⟩) E.out rfl rfl ?_); clear E; intro g6 u E0 hb0; have E := Lib.hid E0; clear E0 hb0) | ((with_reducible refine kn_box (o := ⟨some 6, _, _, _, _, _⟩) E.out rfl rfl rfl ?_); clear E; intro g6 u E0 hb0; have E := Lib.hid E0; clear E0 hb0) | ((with_reducible refine kn_box_int (o := ⟨some 6, _, _, _, _, _⟩) E.out rfl rfl rfl ?_); clear E; intro g6 u E0 hb0; have E := Lib.hid E0; clear E0 hb0) | ((with_reducible refine kn_box_slice (o := ⟨some 6, _, _, _, _, _⟩) E.out rfl rfl rfl ?_); clear E; intro g6 u E0 hb0; have E := Lib.hid E0; clear E0 hb0) | ((with_reducible refine kn_box_bool (o := ⟨some 6, _, _, _, _, _⟩) E.out rfl rfl rfl ?_); clear E; intro g6 u E0 hb0; have E := Lib.hid E0; clear E0 hb0) | ((with_reducible refine kn_box_func (o := ⟨some 6, _, _, _, _, _⟩) E.out rfl rfl rfl ?_); clear E; intro g6 u E0 hb0; have E := Lib.hid E0; clear E0 hb0))
      go_loopw [26] (fun ci wr => ∃ i : Nat, i ≤ 16 ∧ ci = .int .i64 i ∧ Hid (Kn w [.row g6 27 (i64s (FL i)), .row g5 110 (i64s XY), .row g3 51 (i64s BA), .row g2 27 (i64s z64), .row g1 48 (blk d f Z)] [Nums] wr)) (fun ci _ => 16 - (intOf ci).toNat)
      case atStart => exact ⟨0, by omega, rfl, by rw [hF0.out]; exact E.out.part _ _ (by repeat (first | exact List.Sublist.refl _ | apply List.Sublist.cons_cons | apply List.Sublist.cons)) (by simp)⟩
      case round =>
        clear E
        obtain ⟨i, hi, rfl, E⟩ := hrel
        have hl := hFl.out i
        by_cases hlt : i < 16
        · have hi3 : (i : Int) < 16 := by omega
          have hix := hIW.out i hlt
          rw [hW2.out i hlt] at hix
          have h4 := H4.out i hlt
          have hHf := Lib.hid (fun u => half_any f (i : Int) u)
          rw [halfV_nat f hlt] at hHf
          have hh := halfN_lt f hlt
          obtain ⟨v, hv⟩ : ∃ v : Nat, Z.getD (8 + i) 0 = (v : Int) := ⟨(Z.getD (8 + i) 0).toNat, by omega⟩
          have hv4 : v < 4 := by rw [hv] at h4; omega
          have hn := hNT.out i v hlt hv hv4
          have hnb := hNb.out i
          rw [hv] at hix
          have hLo := Lib.hid (fun u => lowest_any (v : Int) 2 2 rfl u (by omega))
          rw [low_is (n := (v : Int)) (m := 2) (by have e : ((2 ^ 2 : Nat) : Int) = 4 := rfl; rw [e]; omega)] at hLo
          have hrr := Lib.hid (hRr.out (halfN f i))
          have hSh := Lib.hid (fun u => show Calls Tryd.prog 77 #[arr (BR (halfN f i)), .int .i64 (NV i)] u (fun e w' => e = .returned (arr (TX i)) ∧ Below u.heap.size u w') from by
            rw [hTx.out i]
            exact shifted_any _ _ u (hRl.out _ hh) (hRb.out _) hnb)
          have hfs := Lib.hid (hFs.out i)
          have htl := Lib.hid (hTl.out i)
          have hxl := hXl.out
          have hbl := hBl.out
          have hci : (XY)[halfN f i * 4 + v]? = some (NV i) := by
            rw [← hn, List.getD_eq_getElem?_getD, List.getElem?_eq_getElem (by omega)]
            rfl
          have hcv := Lib.hid (show (i64s XY)[halfN f i * 4 + v]? = some (.int .i64 (NV i)) from by
            rw [i64s_get XY _ (by omega), hn])
          have hh2 : ((halfN f i : Nat) : Int) < 2 := by omega
          have hv42 : (v : Int) < 4 := by omega
          clear H4 hNT hNb hRl hRb hRr hTx hTl hF0 hFs hFl hIW hW2 hci hn hv h4 HWE hXl hBl hl HC6 HC7 hbt hnb
          have hl := hFl'.out i
          clear hFl'
          generalize halfN f i = q at *
          generalize NV i = nv at *
          generalize TX i = tx at *
          generalize BR q = br at *
          go_wp2_with (first
            | (go_at_call 76; (with_reducible refine (hHf.out _).mono ?_); clear hHf; rintro e w1 ⟨rfl, rfl⟩)
            | ((with_reducible refine kn_bf (g := g1) E.out rfl rfl rfl ?_))
            | ((with_reducible refine kn_load E.out rfl rfl rfl rfl ?_)) | ((with_reducible refine kn_load_if E.out rfl rfl rfl rfl ?_)) | ((with_reducible refine kn_loads E.out rfl rfl rfl ?_ ?_); (focus (first | rfl | (simp only [i64s_length, u8s_length]; first | rfl | assumption | omega)))) | ((with_reducible refine kn_loads_if E.out rfl rfl rfl ?_ ?_); (focus (first | rfl | (simp only [i64s_length, u8s_length]; first | rfl | assumption | omega)))) | ((with_reducible refine kn_stores E.out rfl rfl rfl rfl rfl ?_ ?_ ?_); (focus (first | exact ⟨rfl, rfl⟩ | (simp only [i64s_length, u8s_length]; refine ⟨?_, ?_⟩ <;> first | rfl | assumption | omega))); (focus (first | exact i64s_one _ | exact u8s_one _ | simp [Value.oneCell'])); clear E; intro u E0; have E := Lib.hid E0; clear E0))
          refine wp_region_held_drew (S := Kn w [.row g5 110 (i64s XY), .row g3 51 (i64s BA)] [Nums]) (by kernel_rfl) (E.out.drew.part _ _ (by repeat (first | exact List.Sublist.refl _ | apply List.Sublist.cons_cons | apply List.Sublist.cons)) (by simp)) (fun kS => ?_)
          have E1 := Lib.hid E.out.drew
          generalize World.drew _ = u1 at kS E1 ⊢
          clear E
          have E := E1
          clear E1
          (refine takeL (i := 0) (v := _) rfl (by kernel_rfl) (by kernel_rfl) (by kernel_rfl) (fun _ _ _ h => h) (by first | exact Or.inl ⟨by rfl, (by intro u hSu; clear hSu; go_simp; try with_reducible rfl)⟩ | exact Or.inr ⟨by rfl, rfl⟩) kS ?_; (try simp only [Act.put, List.setIfInBounds_toArray, List.set_cons_zero, List.set_cons_succ])); (refine takeL (i := 1) (v := _) rfl (by kernel_rfl) (by kernel_rfl) (by kernel_rfl) (fun _ _ _ h => h) (by first | exact Or.inl ⟨by rfl, (by intro u hSu; clear hSu; go_simp; try with_reducible rfl)⟩ | exact Or.inr ⟨by rfl, rfl⟩) kS ?_; (try simp only [Act.put, List.setIfInBounds_toArray, List.set_cons_zero, List.set_cons_succ])); (refine takeL (i := 2) (v := _) rfl (by kernel_rfl) (by kernel_rfl) (by kernel_rfl) (fun _ _ _ h => h) (by first | exact Or.inl ⟨by rfl, (by intro u hSu; clear hSu; go_simp; try with_reducible rfl)⟩ | exact Or.inr ⟨by rfl, rfl⟩) kS ?_; (try simp only [Act.put, List.setIfInBounds_toArray, List.set_cons_zero, List.set_cons_succ]))
          (refine takeL (i := 3) (v := arr br) rfl (by kernel_rfl) (by kernel_rfl) (by kernel_rfl) (fun _ _ _ h => h) (by rw [← hrr.out]; exact yield_loadp (g := g3) (off := q * 4) rfl rfl rfl (by omega)) kS ?_; (try simp only [Act.put, List.setIfInBounds_toArray, List.set_cons_zero, List.set_cons_succ]))
          (refine takeL (i := 4) (v := _) rfl (by kernel_rfl) (by kernel_rfl) (by kernel_rfl) (fun _ _ _ h => h) (by first | exact Or.inl ⟨by rfl, (by intro u hSu; clear hSu; go_simp; try with_reducible rfl)⟩ | exact Or.inr ⟨by rfl, rfl⟩) kS ?_; (try simp only [Act.put, List.setIfInBounds_toArray, List.set_cons_zero, List.set_cons_succ])); (refine takeL (i := 5) (v := _) rfl (by kernel_rfl) (by kernel_rfl) (by kernel_rfl) (fun _ _ _ h => h) (by first | exact Or.inl ⟨by rfl, (by intro u hSu; clear hSu; go_simp; try with_reducible rfl)⟩ | exact Or.inr ⟨by rfl, rfl⟩) kS ?_; (try simp only [Act.put, List.setIfInBounds_toArray, List.set_cons_zero, List.set_cons_succ])); (refine takeL (i := 7) (v := _) rfl (by kernel_rfl) (by kernel_rfl) (by kernel_rfl) (fun _ _ _ h => h) (by first | exact Or.inl ⟨by rfl, (by intro u hSu; clear hSu; go_simp; try with_reducible rfl)⟩ | exact Or.inr ⟨by rfl, rfl⟩) kS ?_; (try simp only [Act.put, List.setIfInBounds_toArray, List.set_cons_zero, List.set_cons_succ]))
          refine callL (i := 6) rfl (by kernel_rfl) (fun K hK => ?_)
          (go_simp; refine (hLo.out _).mono ?_; rintro e w1 ⟨rfl, rfl⟩; go_wp2_with fail; (refine hK.out _ _ (E.out.part _ _ (by repeat (first | exact List.Sublist.refl _ | apply List.Sublist.cons_cons | apply List.Sublist.cons)) (by simp)) (fun kS => ?_); clear hK K; (try simp only [Act.put, List.setIfInBounds_toArray, List.set_cons_zero, List.set_cons_succ])))
          (refine takeL (i := 8) (v := _) rfl (by kernel_rfl) (by kernel_rfl) (by kernel_rfl) (fun _ _ _ h => h) (by first | exact Or.inl ⟨by rfl, (by intro u hSu; clear hSu; go_simp; try with_reducible rfl)⟩ | exact Or.inr ⟨by rfl, rfl⟩) kS ?_; (try simp only [Act.put, List.setIfInBounds_toArray, List.set_cons_zero, List.set_cons_succ]))
          (refine takeL (i := 9) (v := _) rfl (by kernel_rfl) (by kernel_rfl) (by kernel_rfl) (fun _ _ _ h => h) (yield_load (g := g5) (i := q * 4 + v) rfl rfl rfl hcv.out) kS ?_; (try simp only [Act.put, List.setIfInBounds_toArray, List.set_cons_zero, List.set_cons_succ]))
          refine callL (i := 10) rfl (by kernel_rfl) (fun K hK => ?_)
          (go_simp; refine (hSh.out _).mono ?_; rintro e w1 ⟨rfl, hb⟩; go_wp2_with fail; have E1 := Lib.hid (E.out.later hb); clear hb E; have E := E1; clear E1; (refine hK.out _ _ (E.out.part _ _ (by repeat (first | exact List.Sublist.refl _ | apply List.Sublist.cons_cons | apply List.Sublist.cons)) (by simp)) (fun kS => ?_); clear hK K; (try simp only [Act.put, List.setIfInBounds_toArray, List.set_cons_zero, List.set_cons_succ])))
          (refine takeL (i := 11) (v := _) rfl (by kernel_rfl) (by kernel_rfl) (by kernel_rfl) (fun _ _ _ h => h) (by first | exact Or.inl ⟨by rfl, (by intro u hSu; clear hSu; go_simp; try with_reducible rfl)⟩ | exact Or.inr ⟨by rfl, rfl⟩) kS ?_; (try simp only [Act.put, List.setIfInBounds_toArray, List.set_cons_zero, List.set_cons_succ]))
          refine callL (i := 12) rfl (by kernel_rfl) (fun K hK => ?_)
          (rw [if_pos (by rfl)]; refine wp_kn_storeq (g := g6) (ys := tx) E.out rfl rfl rfl rfl htl.out (by omega) ?_; clear E kS; intro u E0; have E := Lib.hid E0; clear E0; (refine hK.out _ _ (E.out.part _ _ (by repeat (first | exact List.Sublist.refl _ | apply List.Sublist.cons_cons | apply List.Sublist.cons)) (by simp)) (fun kS => ?_); clear hK K; (try simp only [Act.put, List.setIfInBounds_toArray, List.set_cons_zero, List.set_cons_succ])))
          refine wpAnyH_done (by kernel_rfl) ?_ _
          go_wp2_with fail
          go_roundw
          case rel => exact ⟨i + 1, by omega, by go_num, by rw [hfs.out]; exact E.out.part _ _ (by repeat (first | exact List.Sublist.refl _ | apply List.Sublist.cons_cons | apply List.Sublist.cons)) (fun _ h => h)⟩
          case measure => simp [intOf]; try omega
        · have hi3 : ¬ ((i : Int) < 16) := by omega
          have ei : i = 16 := by omega
          rw [ei] at E
          have hl16 := hFl.out 16
          clear H4 hNT hNb hRl hRb hRr hTx hTl hF0 hFs hFl hIW hW2 HWE hXl hBl hl HC6 HC7 hbt hlt hi ei hFl'
          go_wp2_with (first
            | ((with_reducible refine kn_loads (g := g6) E.out rfl rfl rfl ?hl ?_); (case hl => rw [i64s_length]; exact hl16))
            | ((with_reducible refine kn_stores (g := g2) (vs := i64s (FL 16)) E.out rfl rfl rfl rfl rfl ?hl ?h1 ?_); (case hl => exact ⟨by rw [i64s_length]; exact hz64.out, by rw [i64s_length]; exact hl16⟩); (case h1 => exact i64s_one _); clear E; intro u E0; have E := Lib.hid E0; clear E0)
            | ((with_reducible refine kn_load E.out rfl rfl rfl rfl ?_)) | ((with_reducible refine kn_load_if E.out rfl rfl rfl rfl ?_)) | ((with_reducible refine kn_loads E.out rfl rfl rfl ?_ ?_); (focus (first | rfl | (simp only [i64s_length, u8s_length]; first | rfl | assumption | omega)))) | ((with_reducible refine kn_loads_if E.out rfl rfl rfl ?_ ?_); (focus (first | rfl | (simp only [i64s_length, u8s_length]; first | rfl | assumption | omega)))) | ((with_reducible refine kn_stores E.out rfl rfl rfl rfl rfl ?_ ?_ ?_); (focus (first | exact ⟨rfl, rfl⟩ | (simp only [i64s_length, u8s_length]; refine ⟨?_, ?_⟩ <;> first | rfl | assumption | omega))); (focus (first | exact i64s_one _ | exact u8s_one _ | simp [Value.oneCell'])); clear E; intro u E0; have E := Lib.hid E0; clear E0))
          refine bodyPost_ret (results_kn E.out rfl _ rfl (by rw [i64s_length]; exact hl16)) rfl ?_
          exact ⟨rfl, E.out.bel⟩
  · (rw [if_pos (by rfl)]; refine wp_kn_alloc E.out rfl ?_; clear E kS; intro g5 u E0; have E := Lib.hid E0; clear E0; (refine hK.out _ _ (E.out.part _ _ (by repeat (first | exact List.Sublist.refl _ | apply List.Sublist.cons_cons | apply List.Sublist.cons)) (by simp)) (fun kS => ?_); clear hK K; (try simp only [Act.put, List.setIfInBounds_toArray, List.set_cons_zero, List.set_cons_succ])))
    refine callL (i := 3) rfl (by kernel_rfl) (fun K hK => ?_)
    (go_simp; (with_reducible refine (hT0.out _ (E.out.get List.mem_cons_self)).mono ?_); rintro e w1 ⟨rfl, hb⟩; have E1 := Lib.hid (E.out.later hb); clear hb E; have E := E1; clear E1; go_wp2_with fail; (refine hK.out _ _ (E.out.part _ _ (by repeat (first | exact List.Sublist.refl _ | apply List.Sublist.cons_cons | apply List.Sublist.cons)) (by simp)) (fun kS => ?_); clear hK K; (try simp only [Act.put, List.setIfInBounds_toArray, List.set_cons_zero, List.set_cons_succ])))
    refine callL (i := 7) rfl (by kernel_rfl) (fun K hK => ?_)
    (go_simp; (with_reducible refine (hT1.out _ (E.out.get List.mem_cons_self)).mono ?_); rintro e w1 ⟨rfl, hb⟩; have E1 := Lib.hid (E.out.later hb); clear hb E; have E := E1; clear E1; go_wp2_with fail; (refine hK.out _ _ (E.out.part _ _ (by repeat (first | exact List.Sublist.refl _ | apply List.Sublist.cons_cons | apply List.Sublist.cons)) (by simp)) (fun kS => ?_); clear hK K; (try simp only [Act.put, List.setIfInBounds_toArray, List.set_cons_zero, List.set_cons_succ])))
    (refine takeL (i := 8) (v := arr XY) rfl (by kernel_rfl) (by kernel_rfl) (by kernel_rfl) (fun _ _ _ h => h) (yield_made (pv := #[(0, arr X), (1, arr Y)]) rfl rfl (by simp only [List.map_toArray, List.map_cons, List.map_nil]; rfl) hbt) kS ?_; (try simp only [Act.put, List.setIfInBounds_toArray, List.set_cons_zero, List.set_cons_succ]))
    refine callL (i := 10) rfl (by kernel_rfl) (fun K hK => ?_)
    (rw [if_pos (by rfl)]; refine wp_kn_stores (g := g5) (vs := i64s XY) E.out rfl rfl rfl rfl ⟨by rfl, by rw [i64s_length]; exact hXl.out⟩ (i64s_one _) ?_; clear E kS; intro u E0; have E := Lib.hid E0; clear E0; (refine hK.out _ _ (E.out.part _ _ (by repeat (first | exact List.Sublist.refl _ | apply List.Sublist.cons_cons | apply List.Sublist.cons)) (by simp)) (fun kS => ?_); clear hK K; (try simp only [Act.put, List.setIfInBounds_toArray, List.set_cons_zero, List.set_cons_succ])))
    refine wpAnyH_done (by kernel_rfl) ?_ _
    go_wp2_with (first
      | ((with_reducible refine kn_bp (g := g1) (i := 8) E.out rfl rfl rfl ?h1 ?h2 ?_); (case h1 => rfl); (case h2 => omega); rw [HWE.out])
      | ((with_reducible refine kn_load E.out rfl rfl rfl rfl ?_)) | ((with_reducible refine kn_load_if E.out rfl rfl rfl rfl ?_)) | ((with_reducible refine kn_loads E.out rfl rfl rfl ?_ ?_); (focus (first | rfl | (simp only [i64s_length, u8s_length]; first | rfl | assumption | omega)))) | ((with_reducible refine kn_loads_if E.out rfl rfl rfl ?_ ?_); (focus (first | rfl | (simp only [i64s_length, u8s_length]; first | rfl | assumption | omega)))) | ((with_reducible refine kn_stores E.out rfl rfl rfl rfl rfl ?_ ?_ ?_); (focus (first | exact ⟨rfl, rfl⟩ | (simp only [i64s_length, u8s_length]; refine ⟨?_, ?_⟩ <;> first | rfl | assumption | omega))); (focus (first | exact i64s_one _ | exact u8s_one _ | simp [Value.oneCell'])); clear E; intro u E0; have E := Lib.hid E0; clear E0) | ((with_reducible refine kn_alloc (o := ⟨some 6, _, _, _, _, _⟩) E.out rfl rfl ?_); clear E; intro g6 u E0 hb0; have E := Lib.hid E0; clear E0 hb0) | ((with_reducible refine kn_box (o := ⟨some 6, _, _, _, _, _⟩) E.out rfl rfl rfl ?_); clear E; intro g6 u E0 hb0; have E := Lib.hid E0; clear E0 hb0) | ((with_reducible refine kn_box_int (o := ⟨some 6, _, _, _, _, _⟩) E.out rfl rfl rfl ?_); clear E; intro g6 u E0 hb0; have E := Lib.hid E0; clear E0 hb0) | ((with_reducible refine kn_box_slice (o := ⟨some 6, _, _, _, _, _⟩) E.out rfl rfl rfl ?_); clear E; intro g6 u E0 hb0; have E := Lib.hid E0; clear E0 hb0) | ((with_reducible refine kn_box_bool (o := ⟨some 6, _, _, _, _, _⟩) E.out rfl rfl rfl ?_); clear E; intro g6 u E0 hb0; have E := Lib.hid E0; clear E0 hb0) | ((with_reducible refine kn_box_func (o := ⟨some 6, _, _, _, _, _⟩) E.out rfl rfl rfl ?_); clear E; intro g6 u E0 hb0; have E := Lib.hid E0; clear E0 hb0))
    go_loopw [26] (fun ci wr => ∃ i : Nat, i ≤ 16 ∧ ci = .int .i64 i ∧ Hid (Kn w [.row g6 27 (i64s (FL i)), .row g5 110 (i64s XY), .row g3 51 (i64s BA), .row g2 27 (i64s z64), .row g1 48 (blk d f Z)] [Nums] wr)) (fun ci _ => 16 - (intOf ci).toNat)
    case atStart => exact ⟨0, by omega, rfl, by rw [hF0.out]; exact E.out.part _ _ (by repeat (first | exact List.Sublist.refl _ | apply List.Sublist.cons_cons | apply List.Sublist.cons)) (by simp)⟩
    case round =>
      clear E
      obtain ⟨i, hi, rfl, E⟩ := hrel
      have hl := hFl.out i
      by_cases hlt : i < 16
      · have hi3 : (i : Int) < 16 := by omega
        have hix := hIW.out i hlt
        rw [hW2.out i hlt] at hix
        have h4 := H4.out i hlt
        have hHf := Lib.hid (fun u => half_any f (i : Int) u)
        rw [halfV_nat f hlt] at hHf
        have hh := halfN_lt f hlt
        obtain ⟨v, hv⟩ : ∃ v : Nat, Z.getD (8 + i) 0 = (v : Int) := ⟨(Z.getD (8 + i) 0).toNat, by omega⟩
        have hv4 : v < 4 := by rw [hv] at h4; omega
        have hn := hNT.out i v hlt hv hv4
        have hnb := hNb.out i
        rw [hv] at hix
        have hLo := Lib.hid (fun u => lowest_any (v : Int) 2 2 rfl u (by omega))
        rw [low_is (n := (v : Int)) (m := 2) (by have e : ((2 ^ 2 : Nat) : Int) = 4 := rfl; rw [e]; omega)] at hLo
        have hrr := Lib.hid (hRr.out (halfN f i))
        have hSh := Lib.hid (fun u => show Calls Tryd.prog 77 #[arr (BR (halfN f i)), .int .i64 (NV i)] u (fun e w' => e = .returned (arr (TX i)) ∧ Below u.heap.size u w') from by
          rw [hTx.out i]
          exact shifted_any _ _ u (hRl.out _ hh) (hRb.out _) hnb)
        have hfs := Lib.hid (hFs.out i)
        have htl := Lib.hid (hTl.out i)
        have hxl := hXl.out
        have hbl := hBl.out
        have hci : (XY)[halfN f i * 4 + v]? = some (NV i) := by
          rw [← hn, List.getD_eq_getElem?_getD, List.getElem?_eq_getElem (by omega)]
          rfl
        have hcv := Lib.hid (show (i64s XY)[halfN f i * 4 + v]? = some (.int .i64 (NV i)) from by
          rw [i64s_get XY _ (by omega), hn])
        have hh2 : ((halfN f i : Nat) : Int) < 2 := by omega
        have hv42 : (v : Int) < 4 := by omega
        clear H4 hNT hNb hRl hRb hRr hTx hTl hF0 hFs hFl hIW hW2 hci hn hv h4 HWE hXl hBl hl HC6 HC7 hbt hnb
        have hl := hFl'.out i
        clear hFl'
        generalize halfN f i = q at *
        generalize NV i = nv at *
        generalize TX i = tx at *
        generalize BR q = br at *
        go_wp2_with (first
          | (go_at_call 76; (with_reducible refine (hHf.out _).mono ?_); clear hHf; rintro e w1 ⟨rfl, rfl⟩)
          | ((with_reducible refine kn_bf (g := g1) E.out rfl rfl rfl ?_))
          | ((with_reducible refine kn_load E.out rfl rfl rfl rfl ?_)) | ((with_reducible refine kn_load_if E.out rfl rfl rfl rfl ?_)) | ((with_reducible refine kn_loads E.out rfl rfl rfl ?_ ?_); (focus (first | rfl | (simp only [i64s_length, u8s_length]; first | rfl | assumption | omega)))) | ((with_reducible refine kn_loads_if E.out rfl rfl rfl ?_ ?_); (focus (first | rfl | (simp only [i64s_length, u8s_length]; first | rfl | assumption | omega)))) | ((with_reducible refine kn_stores E.out rfl rfl rfl rfl rfl ?_ ?_ ?_); (focus (first | exact ⟨rfl, rfl⟩ | (simp only [i64s_length, u8s_length]; refine ⟨?_, ?_⟩ <;> first | rfl | assumption | omega))); (focus (first | exact i64s_one _ | exact u8s_one _ | simp [Value.oneCell'])); clear E; intro u E0; have E := Lib.hid E0; clear E0))
        refine wp_region_held_drew (S := Kn w [.row g5 110 (i64s XY), .row g3 51 (i64s BA)] [Nums]) (by kernel_rfl) (E.out.drew.part _ _ (by repeat (first | exact List.Sublist.refl _ | apply List.Sublist.cons_cons | apply List.Sublist.cons)) (by simp)) (fun kS => ?_)
        have E1 := Lib.hid E.out.drew
        generalize World.drew _ = u1 at kS E1 ⊢
        clear E
        have E := E1
        clear E1
        (refine takeL (i := 0) (v := _) rfl (by kernel_rfl) (by kernel_rfl) (by kernel_rfl) (fun _ _ _ h => h) (by first | exact Or.inl ⟨by rfl, (by intro u hSu; clear hSu; go_simp; try with_reducible rfl)⟩ | exact Or.inr ⟨by rfl, rfl⟩) kS ?_; (try simp only [Act.put, List.setIfInBounds_toArray, List.set_cons_zero, List.set_cons_succ])); (refine takeL (i := 1) (v := _) rfl (by kernel_rfl) (by kernel_rfl) (by kernel_rfl) (fun _ _ _ h => h) (by first | exact Or.inl ⟨by rfl, (by intro u hSu; clear hSu; go_simp; try with_reducible rfl)⟩ | exact Or.inr ⟨by rfl, rfl⟩) kS ?_; (try simp only [Act.put, List.setIfInBounds_toArray, List.set_cons_zero, List.set_cons_succ])); (refine takeL (i := 2) (v := _) rfl (by kernel_rfl) (by kernel_rfl) (by kernel_rfl) (fun _ _ _ h => h) (by first | exact Or.inl ⟨by rfl, (by intro u hSu; clear hSu; go_simp; try with_reducible rfl)⟩ | exact Or.inr ⟨by rfl, rfl⟩) kS ?_; (try simp only [Act.put, List.setIfInBounds_toArray, List.set_cons_zero, List.set_cons_succ]))
        (refine takeL (i := 3) (v := arr br) rfl (by kernel_rfl) (by kernel_rfl) (by kernel_rfl) (fun _ _ _ h => h) (by rw [← hrr.out]; exact yield_loadp (g := g3) (off := q * 4) rfl rfl rfl (by omega)) kS ?_; (try simp only [Act.put, List.setIfInBounds_toArray, List.set_cons_zero, List.set_cons_succ]))
        (refine takeL (i := 4) (v := _) rfl (by kernel_rfl) (by kernel_rfl) (by kernel_rfl) (fun _ _ _ h => h) (by first | exact Or.inl ⟨by rfl, (by intro u hSu; clear hSu; go_simp; try with_reducible rfl)⟩ | exact Or.inr ⟨by rfl, rfl⟩) kS ?_; (try simp only [Act.put, List.setIfInBounds_toArray, List.set_cons_zero, List.set_cons_succ])); (refine takeL (i := 5) (v := _) rfl (by kernel_rfl) (by kernel_rfl) (by kernel_rfl) (fun _ _ _ h => h) (by first | exact Or.inl ⟨by rfl, (by intro u hSu; clear hSu; go_simp; try with_reducible rfl)⟩ | exact Or.inr ⟨by rfl, rfl⟩) kS ?_; (try simp only [Act.put, List.setIfInBounds_toArray, List.set_cons_zero, List.set_cons_succ])); (refine takeL (i := 7) (v := _) rfl (by kernel_rfl) (by kernel_rfl) (by kernel_rfl) (fun _ _ _ h => h) (by first | exact Or.inl ⟨by rfl, (by intro u hSu; clear hSu; go_simp; try with_reducible rfl)⟩ | exact Or.inr ⟨by rfl, rfl⟩) kS ?_; (try simp only [Act.put, List.setIfInBounds_toArray, List.set_cons_zero, List.set_cons_succ]))
        refine callL (i := 6) rfl (by kernel_rfl) (fun K hK => ?_)
        (go_simp; refine (hLo.out _).mono ?_; rintro e w1 ⟨rfl, rfl⟩; go_wp2_with fail; (refine hK.out _ _ (E.out.part _ _ (by repeat (first | exact List.Sublist.refl _ | apply List.Sublist.cons_cons | apply List.Sublist.cons)) (by simp)) (fun kS => ?_); clear hK K; (try simp only [Act.put, List.setIfInBounds_toArray, List.set_cons_zero, List.set_cons_succ])))
        (refine takeL (i := 8) (v := _) rfl (by kernel_rfl) (by kernel_rfl) (by kernel_rfl) (fun _ _ _ h => h) (by first | exact Or.inl ⟨by rfl, (by intro u hSu; clear hSu; go_simp; try with_reducible rfl)⟩ | exact Or.inr ⟨by rfl, rfl⟩) kS ?_; (try simp only [Act.put, List.setIfInBounds_toArray, List.set_cons_zero, List.set_cons_succ]))
        (refine takeL (i := 9) (v := _) rfl (by kernel_rfl) (by kernel_rfl) (by kernel_rfl) (fun _ _ _ h => h) (yield_load (g := g5) (i := q * 4 + v) rfl rfl rfl hcv.out) kS ?_; (try simp only [Act.put, List.setIfInBounds_toArray, List.set_cons_zero, List.set_cons_succ]))
        refine callL (i := 10) rfl (by kernel_rfl) (fun K hK => ?_)
        (go_simp; refine (hSh.out _).mono ?_; rintro e w1 ⟨rfl, hb⟩; go_wp2_with fail; have E1 := Lib.hid (E.out.later hb); clear hb E; have E := E1; clear E1; (refine hK.out _ _ (E.out.part _ _ (by repeat (first | exact List.Sublist.refl _ | apply List.Sublist.cons_cons | apply List.Sublist.cons)) (by simp)) (fun kS => ?_); clear hK K; (try simp only [Act.put, List.setIfInBounds_toArray, List.set_cons_zero, List.set_cons_succ])))
        (refine takeL (i := 11) (v := _) rfl (by kernel_rfl) (by kernel_rfl) (by kernel_rfl) (fun _ _ _ h => h) (by first | exact Or.inl ⟨by rfl, (by intro u hSu; clear hSu; go_simp; try with_reducible rfl)⟩ | exact Or.inr ⟨by rfl, rfl⟩) kS ?_; (try simp only [Act.put, List.setIfInBounds_toArray, List.set_cons_zero, List.set_cons_succ]))
        refine callL (i := 12) rfl (by kernel_rfl) (fun K hK => ?_)
        (rw [if_pos (by rfl)]; refine wp_kn_storeq (g := g6) (ys := tx) E.out rfl rfl rfl rfl htl.out (by omega) ?_; clear E kS; intro u E0; have E := Lib.hid E0; clear E0; (refine hK.out _ _ (E.out.part _ _ (by repeat (first | exact List.Sublist.refl _ | apply List.Sublist.cons_cons | apply List.Sublist.cons)) (by simp)) (fun kS => ?_); clear hK K; (try simp only [Act.put, List.setIfInBounds_toArray, List.set_cons_zero, List.set_cons_succ])))
        refine wpAnyH_done (by kernel_rfl) ?_ _
        go_wp2_with fail
        go_roundw
        case rel => exact ⟨i + 1, by omega, by go_num, by rw [hfs.out]; exact E.out.part _ _ (by repeat (first | exact List.Sublist.refl _ | apply List.Sublist.cons_cons | apply List.Sublist.cons)) (fun _ h => h)⟩
        case measure => simp [intOf]; try omega
      · have hi3 : ¬ ((i : Int) < 16) := by omega
        have ei : i = 16 := by omega
        rw [ei] at E
        have hl16 := hFl.out 16
        clear H4 hNT hNb hRl hRb hRr hTx hTl hF0 hFs hFl hIW hW2 HWE hXl hBl hl HC6 HC7 hbt hlt hi ei hFl'
        go_wp2_with (first
          | ((with_reducible refine kn_loads (g := g6) E.out rfl rfl rfl ?hl ?_); (case hl => rw [i64s_length]; exact hl16))
          | ((with_reducible refine kn_stores (g := g2) (vs := i64s (FL 16)) E.out rfl rfl rfl rfl rfl ?hl ?h1 ?_); (case hl => exact ⟨by rw [i64s_length]; exact hz64.out, by rw [i64s_length]; exact hl16⟩); (case h1 => exact i64s_one _); clear E; intro u E0; have E := Lib.hid E0; clear E0)
          | ((with_reducible refine kn_load E.out rfl rfl rfl rfl ?_)) | ((with_reducible refine kn_load_if E.out rfl rfl rfl rfl ?_)) | ((with_reducible refine kn_loads E.out rfl rfl rfl ?_ ?_); (focus (first | rfl | (simp only [i64s_length, u8s_length]; first | rfl | assumption | omega)))) | ((with_reducible refine kn_loads_if E.out rfl rfl rfl ?_ ?_); (focus (first | rfl | (simp only [i64s_length, u8s_length]; first | rfl | assumption | omega)))) | ((with_reducible refine kn_stores E.out rfl rfl rfl rfl rfl ?_ ?_ ?_); (focus (first | exact ⟨rfl, rfl⟩ | (simp only [i64s_length, u8s_length]; refine ⟨?_, ?_⟩ <;> first | rfl | assumption | omega))); (focus (first | exact i64s_one _ | exact u8s_one _ | simp [Value.oneCell'])); clear E; intro u E0; have E := Lib.hid E0; clear E0))
        refine bodyPost_ret (results_kn E.out rfl _ rfl (by rw [i64s_length]; exact hl16)) rfl ?_
        exact ⟨rfl, E.out.bel⟩
end Go.Proofs.YtgcijioiicmjiaaDoor
