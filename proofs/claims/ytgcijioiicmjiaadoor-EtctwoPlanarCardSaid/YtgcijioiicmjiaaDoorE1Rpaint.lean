/- A block's texels: the document's; and those of its bytes. -/
import Derived.Test.YtgcijioiicmjiaaDoorE1Paint
import Derived.Test.YtgcijioiicmjiaaDoorE1Rpart
set_option linter.all false
namespace Go.Proofs.YtgcijioiicmjiaaDoor
open Go.RowKit
open Bi Lv Eo

set_option maxHeartbeats 8000000 in
set_option maxRecDepth 100000 in
theorem rpaint_any (d f : Bool) (Z : List Int) (w : World) (hZ : Z.length = 24) (h : okP d Z) :
    Calls Tryd.prog 29 #[.agg (blk d f Z).toArray] w fun e w' => e = .returned (arr (paV d f Z)) ∧ Below w.heap.size w w' := by
  have E := Lib.hid (Kn.start w)
  have hBa := Lib.hid (fun u => rbases_any d f Z u hZ h)
  have H4 := Lib.hid (fun i (hi : i < 16) => ok_w h hi)
  have hNb := Lib.hid (numV_bd f Z)
  have hNV := Lib.hid (fun i => show numV f Z i = (tabV (Z.getD (6 + halfN f i) 0)).getD (Z.getD (8 + i) 0).toNat 0 from rfl)
  have hBl := Lib.hid (baV_length d Z)
  have hRl := Lib.hid (bRow_length d Z)
  have hRb := Lib.hid (bRow_bd d Z)
  have hRr := Lib.hid (fun k => show ((baV d Z).drop (k * 4)).take 4 = bRow d Z k from rfl)
  have hTx := Lib.hid (fun i => show txV d f Z i = addV (bRow d Z (halfN f i)) (numV f Z i) from rfl)
  have hTl := Lib.hid (txV_length d f Z)
  have hF0 := Lib.hid (show fl z64 (txV d f Z) 0 = z64 from rfl)
  have hFs := Lib.hid (fun k => show fl z64 (txV d f Z) (k + 1) = spl (fl z64 (txV d f Z) k) (k * 4) (txV d f Z k) from rfl)
  have hFl := Lib.hid (fun k => show (fl z64 (txV d f Z) k).length = 64 from by rw [fl_length]; exact z64_length)
  have hz64 := Lib.hid z64_length
  have hcz := Lib.hid (fun i (hi : i < 24) (q : Nat) (hq : q = i + 2) => blk_z d f Z hq (by omega))
  rw [show paV d f Z = fl z64 (txV d f Z) 16 from rfl]
  clear h
  generalize fl z64 (txV d f Z) = FL at *
  generalize txV d f Z = TX at *
  generalize numV f Z = NV at *
  generalize bRow d Z = BR at *
  generalize baV d Z = BA at *
  go_enter Tryd.func29, Tryd.ntmps29
  go_wp2_with (first
    | (go_at_call 30; refine (hBa.out _).mono ?_; clear hBa; rintro e w1 ⟨rfl, hb⟩; have E1 := Lib.hid (E.out.later hb); clear hb E; have E := E1; clear E1)
    | ((with_reducible refine kn_ball (g := g1) E.out rfl rfl rfl ?h1 ?_); (case h1 => exact hZ))
    | ((with_reducible refine kn_stores (g := g3) (vs := i64s BA) E.out rfl rfl rfl rfl rfl ?hl ?h1 ?_); (case hl => exact ⟨rfl, by rw [i64s_length]; exact hBl.out⟩); (case h1 => exact i64s_one _); clear E; intro u E0; have E := Lib.hid E0; clear E0)
    | ((with_reducible refine kn_stores (g := g5) (vs := i64s z64) E.out rfl rfl rfl rfl ?hy ?hl ?h1 ?_); (case hy => rfl); (case hl => exact ⟨rfl, rfl⟩); (case h1 => exact i64s_one _); clear E; intro u E0; have E := Lib.hid E0; clear E0)
    | ((with_reducible refine kn_load E.out rfl rfl rfl rfl ?_)) | ((with_reducible refine kn_load_if E.out rfl rfl rfl rfl ?_)) | ((with_reducible refine kn_loads E.out rfl rfl rfl ?_ ?_); (focus (first | rfl | (simp only [i64s_length, u8s_length]; first | rfl | assumption | omega)))) | ((with_reducible refine kn_loads_if E.out rfl rfl rfl ?_ ?_); (focus (first | rfl | (simp only [i64s_length, u8s_length]; first | rfl | assumption | omega)))) | ((with_reducible refine kn_stores E.out rfl rfl rfl rfl rfl ?_ ?_ ?_); (focus (first | exact ⟨rfl, rfl⟩ | (simp only [i64s_length, u8s_length]; refine ⟨?_, ?_⟩ <;> first | rfl | assumption | omega))); (focus (first | exact i64s_one _ | exact u8s_one _ | simp [Value.oneCell'])); clear E; intro u E0; have E := Lib.hid E0; clear E0) | ((with_reducible refine kn_alloc (o := ⟨some 1, _, _, _, _, _⟩) E.out rfl rfl ?_); clear E; intro g1 u E0 hb0; have E := Lib.hid E0; clear E0 hb0) | ((with_reducible refine kn_box (o := ⟨some 1, _, _, _, _, _⟩) E.out rfl rfl rfl ?_); clear E; intro g1 u E0 hb0; have E := Lib.hid E0; clear E0 hb0) | ((with_reducible refine kn_box_int (o := ⟨some 1, _, _, _, _, _⟩) E.out rfl rfl rfl ?_); clear E; intro g1 u E0 hb0; have E := Lib.hid E0; clear E0 hb0) | ((with_reducible refine kn_box_slice (o := ⟨some 1, _, _, _, _, _⟩) E.out rfl rfl rfl ?_); clear E; intro g1 u E0 hb0; have E := Lib.hid E0; clear E0 hb0) | ((with_reducible refine kn_box_bool (o := ⟨some 1, _, _, _, _, _⟩) E.out rfl rfl rfl ?_); clear E; intro g1 u E0 hb0; have E := Lib.hid E0; clear E0 hb0) | ((with_reducible refine kn_box_func (o := ⟨some 1, _, _, _, _, _⟩) E.out rfl rfl rfl ?_); clear E; intro g1 u E0 hb0; have E := Lib.hid E0; clear E0 hb0) | ((with_reducible refine kn_alloc (o := ⟨some 2, _, _, _, _, _⟩) E.out rfl rfl ?_); clear E; intro g2 u E0 hb0; have E := Lib.hid E0; clear E0 hb0) | ((with_reducible refine kn_box (o := ⟨some 2, _, _, _, _, _⟩) E.out rfl rfl rfl ?_); clear E; intro g2 u E0 hb0; have E := Lib.hid E0; clear E0 hb0) | ((with_reducible refine kn_box_int (o := ⟨some 2, _, _, _, _, _⟩) E.out rfl rfl rfl ?_); clear E; intro g2 u E0 hb0; have E := Lib.hid E0; clear E0 hb0) | ((with_reducible refine kn_box_slice (o := ⟨some 2, _, _, _, _, _⟩) E.out rfl rfl rfl ?_); clear E; intro g2 u E0 hb0; have E := Lib.hid E0; clear E0 hb0) | ((with_reducible refine kn_box_bool (o := ⟨some 2, _, _, _, _, _⟩) E.out rfl rfl rfl ?_); clear E; intro g2 u E0 hb0; have E := Lib.hid E0; clear E0 hb0) | ((with_reducible refine kn_box_func (o := ⟨some 2, _, _, _, _, _⟩) E.out rfl rfl rfl ?_); clear E; intro g2 u E0 hb0; have E := Lib.hid E0; clear E0 hb0) | ((with_reducible refine kn_alloc (o := ⟨some 3, _, _, _, _, _⟩) E.out rfl rfl ?_); clear E; intro g3 u E0 hb0; have E := Lib.hid E0; clear E0 hb0) | ((with_reducible refine kn_box (o := ⟨some 3, _, _, _, _, _⟩) E.out rfl rfl rfl ?_); clear E; intro g3 u E0 hb0; have E := Lib.hid E0; clear E0 hb0) | ((with_reducible refine kn_box_int (o := ⟨some 3, _, _, _, _, _⟩) E.out rfl rfl rfl ?_); clear E; intro g3 u E0 hb0; have E := Lib.hid E0; clear E0 hb0) | ((with_reducible refine kn_box_slice (o := ⟨some 3, _, _, _, _, _⟩) E.out rfl rfl rfl ?_); clear E; intro g3 u E0 hb0; have E := Lib.hid E0; clear E0 hb0) | ((with_reducible refine kn_box_bool (o := ⟨some 3, _, _, _, _, _⟩) E.out rfl rfl rfl ?_); clear E; intro g3 u E0 hb0; have E := Lib.hid E0; clear E0 hb0) | ((with_reducible refine kn_box_func (o := ⟨some 3, _, _, _, _, _⟩) E.out rfl rfl rfl ?_); clear E; intro g3 u E0 hb0; have E := Lib.hid E0; clear E0 hb0) | ((with_reducible refine kn_alloc (o := ⟨some 5, _, _, _, _, _⟩) E.out rfl rfl ?_); clear E; intro g5 u E0 hb0; have E := Lib.hid E0; clear E0 hb0) | ((with_reducible refine kn_box (o := ⟨some 5, _, _, _, _, _⟩) E.out rfl rfl rfl ?_); clear E; intro g5 u E0 hb0; have E := Lib.hid E0; clear E0 hb0) | ((with_reducible refine kn_box_int (o := ⟨some 5, _, _, _, _, _⟩) E.out rfl rfl rfl ?_); clear E; intro g5 u E0 hb0; have E := Lib.hid E0; clear E0 hb0) | ((with_reducible refine kn_box_slice (o := ⟨some 5, _, _, _, _, _⟩) E.out rfl rfl rfl ?_); clear E; intro g5 u E0 hb0; have E := Lib.hid E0; clear E0 hb0) | ((with_reducible refine kn_box_bool (o := ⟨some 5, _, _, _, _, _⟩) E.out rfl rfl rfl ?_); clear E; intro g5 u E0 hb0; have E := Lib.hid E0; clear E0 hb0) | ((with_reducible refine kn_box_func (o := ⟨some 5, _, _, _, _, _⟩) E.out rfl rfl rfl ?_); clear E; intro g5 u E0 hb0; have E := Lib.hid E0; clear E0 hb0))
  go_loopw [6] (fun ci wr => ∃ i : Nat, i ≤ 16 ∧ ci = .int .i64 i ∧ Hid (Kn w [.row g5 27 (i64s (FL i)), .row g3 51 (i64s BA), .row g2 27 (i64s z64), .row g1 65 (blk d f Z)] [] wr)) (fun ci _ => 16 - (intOf ci).toNat)
  case atStart => exact ⟨0, by omega, rfl, by rw [hF0.out]; exact E.out.part _ _ (by repeat (first | exact List.Sublist.refl _ | apply List.Sublist.cons_cons | apply List.Sublist.cons)) (by simp)⟩
  case round =>
    clear E
    obtain ⟨i, hi, rfl, E⟩ := hrel
    have hl := hFl.out i
    by_cases hlt : i < 16
    · have hi3 : (i : Int) < 16 := by omega
      have h4 := H4.out i hlt
      have hHf := Lib.hid (fun u => rhalf_any f (i : Int) u)
      rw [halfV_nat f hlt] at hHf
      have hh := halfN_lt f hlt
      obtain ⟨v, hv⟩ : ∃ v : Nat, Z.getD (8 + i) 0 = (v : Int) := ⟨(Z.getD (8 + i) 0).toNat, by omega⟩
      have hv4 : v < 4 := by rw [hv] at h4; omega
      have hn := hNV.out i
      rw [hv, Int.toNat_natCast] at hn
      have hnb := hNb.out i
      have HCW := Lib.hid (hcz.out (8 + i) (by omega) (10 + i) (by omega))
      rw [hv] at HCW
      have HCT := Lib.hid (hcz.out (6 + halfN f i) (by omega) (8 + halfN f i) (by omega))
      have hrr := Lib.hid (hRr.out (halfN f i))
      have hTb := Lib.hid (fun u => rtable_any (Z.getD (6 + halfN f i) 0) u)
      have hix := run_index_i64 (P := Tryd.prog) 24 3 4 Tryd.underlying24 Tryd.underlying3 (by kernel_rfl) (tabV (Z.getD (6 + halfN f i) 0)) v hv4 rfl
      rw [← hn] at hix
      have hSh := Lib.hid (fun u => show Calls Tryd.prog 62 #[arr (BR (halfN f i)), .int .i64 (NV i)] u (fun e w' => e = .returned (arr (TX i)) ∧ Below u.heap.size u w') from by
        rw [hTx.out i]
        exact add_any _ _ u (hRl.out _ hh) (hRb.out _) hnb)
      have hfs := Lib.hid (hFs.out i)
      have htl := Lib.hid (hTl.out i)
      have hbl := hBl.out
      have hh2 : ((halfN f i : Nat) : Int) < 2 := by omega
      have hv42 : (v : Int) < 4 := by omega
      clear H4 hNb hRl hRb hRr hTx hTl hF0 hFs hFl hn hv h4 hBl hnb hNV hcz
      obtain ⟨q, hq⟩ : ∃ q, halfN f i = q := ⟨_, rfl⟩
      rw [hq] at hHf hh HCT hrr hTb hix hSh hh2
      clear hq
      generalize Z.getD (6 + q) 0 = tz at *
      generalize tabV tz = tv at *
      generalize NV i = nv at *
      generalize TX i = tx at *
      generalize BR q = br at *
      go_wp2_with (first
        | (go_at_call 32; (with_reducible refine (hHf.out _).mono ?_); clear hHf; rintro e w1 ⟨rfl, rfl⟩)
        | ((with_reducible refine kn_bf (g := g1) E.out rfl rfl rfl ?_))
        | ((with_reducible refine kn_load E.out rfl rfl rfl rfl ?_)) | ((with_reducible refine kn_load_if E.out rfl rfl rfl rfl ?_)) | ((with_reducible refine kn_loads E.out rfl rfl rfl ?_ ?_); (focus (first | rfl | (simp only [i64s_length, u8s_length]; first | rfl | assumption | omega)))) | ((with_reducible refine kn_loads_if E.out rfl rfl rfl ?_ ?_); (focus (first | rfl | (simp only [i64s_length, u8s_length]; first | rfl | assumption | omega)))) | ((with_reducible refine kn_stores E.out rfl rfl rfl rfl rfl ?_ ?_ ?_); (focus (first | exact ⟨rfl, rfl⟩ | (simp only [i64s_length, u8s_length]; refine ⟨?_, ?_⟩ <;> first | rfl | assumption | omega))); (focus (first | exact i64s_one _ | exact u8s_one _ | simp [Value.oneCell'])); clear E; intro u E0; have E := Lib.hid E0; clear E0))
      refine wp_region_held_drew (S := Kn w [.row g3 51 (i64s BA), .row g1 65 (blk d f Z)] []) (by kernel_rfl) (E.out.drew.part _ _ (by repeat (first | exact List.Sublist.refl _ | apply List.Sublist.cons_cons | apply List.Sublist.cons)) (by simp)) (fun kS => ?_)
      have E1 := Lib.hid E.out.drew
      generalize World.drew _ = u1 at kS E1 ⊢
      clear E
      have E := E1
      clear E1
      (refine takeL (i := 0) (v := _) rfl (by kernel_rfl) (by kernel_rfl) (by kernel_rfl) (fun _ _ _ h => h) (by first | exact Or.inl ⟨by rfl, (by intro u hSu; clear hSu; go_simp; try with_reducible rfl)⟩ | exact Or.inr ⟨by rfl, rfl⟩) kS ?_; (try simp only [Act.put, List.setIfInBounds_toArray, List.set_cons_zero, List.set_cons_succ])); (refine takeL (i := 1) (v := _) rfl (by kernel_rfl) (by kernel_rfl) (by kernel_rfl) (fun _ _ _ h => h) (by first | exact Or.inl ⟨by rfl, (by intro u hSu; clear hSu; go_simp; try with_reducible rfl)⟩ | exact Or.inr ⟨by rfl, rfl⟩) kS ?_; (try simp only [Act.put, List.setIfInBounds_toArray, List.set_cons_zero, List.set_cons_succ])); (refine takeL (i := 2) (v := _) rfl (by kernel_rfl) (by kernel_rfl) (by kernel_rfl) (fun _ _ _ h => h) (by first | exact Or.inl ⟨by rfl, (by intro u hSu; clear hSu; go_simp; try with_reducible rfl)⟩ | exact Or.inr ⟨by rfl, rfl⟩) kS ?_; (try simp only [Act.put, List.setIfInBounds_toArray, List.set_cons_zero, List.set_cons_succ]))
      (refine takeL (i := 3) (v := arr br) rfl (by kernel_rfl) (by kernel_rfl) (by kernel_rfl) (fun _ _ _ h => h) (by rw [← hrr.out]; exact yield_loadp (g := g3) (off := q * 4) rfl rfl rfl (by omega)) kS ?_; (try simp only [Act.put, List.setIfInBounds_toArray, List.set_cons_zero, List.set_cons_succ]))
      (refine takeL (i := 4) (v := _) rfl (by kernel_rfl) (by kernel_rfl) (by kernel_rfl) (fun _ _ _ h => h) (by first | exact Or.inl ⟨by rfl, (by intro u hSu; clear hSu; go_simp; try with_reducible rfl)⟩ | exact Or.inr ⟨by rfl, rfl⟩) kS ?_; (try simp only [Act.put, List.setIfInBounds_toArray, List.set_cons_zero, List.set_cons_succ])); (refine takeL (i := 5) (v := _) rfl (by kernel_rfl) (by kernel_rfl) (by kernel_rfl) (fun _ _ _ h => h) (by first | exact Or.inl ⟨by rfl, (by intro u hSu; clear hSu; go_simp; try with_reducible rfl)⟩ | exact Or.inr ⟨by rfl, rfl⟩) kS ?_; (try simp only [Act.put, List.setIfInBounds_toArray, List.set_cons_zero, List.set_cons_succ])); (refine takeL (i := 6) (v := _) rfl (by kernel_rfl) (by kernel_rfl) (by kernel_rfl) (fun _ _ _ h => h) (by first | exact Or.inl ⟨by rfl, (by intro u hSu; clear hSu; go_simp; try with_reducible rfl)⟩ | exact Or.inr ⟨by rfl, rfl⟩) kS ?_; (try simp only [Act.put, List.setIfInBounds_toArray, List.set_cons_zero, List.set_cons_succ]))
      (refine takeL (i := 7) (v := _) rfl (by kernel_rfl) (by kernel_rfl) (by kernel_rfl) (fun _ _ _ h => h) (yield_load (g := g1) (i := 8 + q) rfl rfl rfl HCT.out) kS ?_; (try simp only [Act.put, List.setIfInBounds_toArray, List.set_cons_zero, List.set_cons_succ]))
      (refine takeL (i := 9) (v := _) rfl (by kernel_rfl) (by kernel_rfl) (by kernel_rfl) (fun _ _ _ h => h) (by first | exact Or.inl ⟨by rfl, (by intro u hSu; clear hSu; go_simp; try with_reducible rfl)⟩ | exact Or.inr ⟨by rfl, rfl⟩) kS ?_; (try simp only [Act.put, List.setIfInBounds_toArray, List.set_cons_zero, List.set_cons_succ])); (refine takeL (i := 10) (v := _) rfl (by kernel_rfl) (by kernel_rfl) (by kernel_rfl) (fun _ _ _ h => h) (by first | exact Or.inl ⟨by rfl, (by intro u hSu; clear hSu; go_simp; try with_reducible rfl)⟩ | exact Or.inr ⟨by rfl, rfl⟩) kS ?_; (try simp only [Act.put, List.setIfInBounds_toArray, List.set_cons_zero, List.set_cons_succ])); (refine takeL (i := 11) (v := _) rfl (by kernel_rfl) (by kernel_rfl) (by kernel_rfl) (fun _ _ _ h => h) (by first | exact Or.inl ⟨by rfl, (by intro u hSu; clear hSu; go_simp; try with_reducible rfl)⟩ | exact Or.inr ⟨by rfl, rfl⟩) kS ?_; (try simp only [Act.put, List.setIfInBounds_toArray, List.set_cons_zero, List.set_cons_succ]))
      (refine takeL (i := 12) (v := _) rfl (by kernel_rfl) (by kernel_rfl) (by kernel_rfl) (fun _ _ _ h => h) (yield_load (g := g1) (i := 10 + i) rfl rfl rfl HCW.out) kS ?_; (try simp only [Act.put, List.setIfInBounds_toArray, List.set_cons_zero, List.set_cons_succ]))
      refine callL (i := 8) rfl (by kernel_rfl) (fun K hK => ?_)
      (go_simp; refine (hTb.out _).mono ?_; rintro e w1 ⟨rfl, hb⟩; have E1 := Lib.hid (E.out.later hb); clear hb E; have E := E1; clear E1; go_wp2_with fail; (refine hK.out _ _ (E.out.part _ _ (by repeat (first | exact List.Sublist.refl _ | apply List.Sublist.cons_cons | apply List.Sublist.cons)) (by simp)) (fun kS => ?_); clear hK K; (try simp only [Act.put, List.setIfInBounds_toArray, List.set_cons_zero, List.set_cons_succ])))
      (refine takeL (i := 13) (v := _) rfl (by kernel_rfl) (by kernel_rfl) (by kernel_rfl) (fun _ _ _ h => h) (by first | exact Or.inl ⟨by rfl, (by intro u hSu; clear hSu; go_simp; try with_reducible rfl)⟩ | exact Or.inr ⟨by rfl, rfl⟩) kS ?_; (try simp only [Act.put, List.setIfInBounds_toArray, List.set_cons_zero, List.set_cons_succ]))
      refine callL (i := 14) rfl (by kernel_rfl) (fun K hK => ?_)
      (go_simp; refine (hSh.out _).mono ?_; rintro e w1 ⟨rfl, hb⟩; have E1 := Lib.hid (E.out.later hb); clear hb E; have E := E1; clear E1; go_wp2_with fail; (refine hK.out _ _ (E.out.part _ _ (by repeat (first | exact List.Sublist.refl _ | apply List.Sublist.cons_cons | apply List.Sublist.cons)) (by simp)) (fun kS => ?_); clear hK K; (try simp only [Act.put, List.setIfInBounds_toArray, List.set_cons_zero, List.set_cons_succ])))
      (refine takeL (i := 15) (v := _) rfl (by kernel_rfl) (by kernel_rfl) (by kernel_rfl) (fun _ _ _ h => h) (by first | exact Or.inl ⟨by rfl, (by intro u hSu; clear hSu; go_simp; try with_reducible rfl)⟩ | exact Or.inr ⟨by rfl, rfl⟩) kS ?_; (try simp only [Act.put, List.setIfInBounds_toArray, List.set_cons_zero, List.set_cons_succ]))
      refine callL (i := 16) rfl (by kernel_rfl) (fun K hK => ?_)
      (rw [if_pos (by rfl)]; refine wp_kn_storeq (g := g5) (ys := tx) E.out rfl rfl rfl rfl htl.out (by omega) ?_; clear E kS; intro u E0; have E := Lib.hid E0; clear E0; (refine hK.out _ _ (E.out.part _ _ (by repeat (first | exact List.Sublist.refl _ | apply List.Sublist.cons_cons | apply List.Sublist.cons)) (by simp)) (fun kS => ?_); clear hK K; (try simp only [Act.put, List.setIfInBounds_toArray, List.set_cons_zero, List.set_cons_succ])))
      refine wpAnyH_done (by kernel_rfl) ?_ _
      go_wp2_with fail
      go_roundw
      case rel => exact ⟨i + 1, by omega, by go_num, by rw [hfs.out]; exact E.out.part _ _ (by repeat (first | exact List.Sublist.refl _ | apply List.Sublist.cons_cons | apply List.Sublist.cons)) (fun _ h => h)⟩
      case measure => simp [intOf]; try omega
    · have hi3 : ¬ ((i : Int) < 16) := by omega
      have ei : i = 16 := by omega
      rw [ei] at E
      have hl16 := hFl.out 16
      clear H4 hNb hRl hRb hRr hTx hTl hF0 hFs hFl hBl hl hlt hi ei hNV hcz
      go_wp2_with (first
        | ((with_reducible refine kn_loads (g := g5) E.out rfl rfl rfl ?hl ?_); (case hl => rw [i64s_length]; exact hl16))
        | ((with_reducible refine kn_stores (g := g2) (vs := i64s (FL 16)) E.out rfl rfl rfl rfl rfl ?hl ?h1 ?_); (case hl => exact ⟨by rw [i64s_length]; exact hz64.out, by rw [i64s_length]; exact hl16⟩); (case h1 => exact i64s_one _); clear E; intro u E0; have E := Lib.hid E0; clear E0)
        | ((with_reducible refine kn_load E.out rfl rfl rfl rfl ?_)) | ((with_reducible refine kn_load_if E.out rfl rfl rfl rfl ?_)) | ((with_reducible refine kn_loads E.out rfl rfl rfl ?_ ?_); (focus (first | rfl | (simp only [i64s_length, u8s_length]; first | rfl | assumption | omega)))) | ((with_reducible refine kn_loads_if E.out rfl rfl rfl ?_ ?_); (focus (first | rfl | (simp only [i64s_length, u8s_length]; first | rfl | assumption | omega)))) | ((with_reducible refine kn_stores E.out rfl rfl rfl rfl rfl ?_ ?_ ?_); (focus (first | exact ⟨rfl, rfl⟩ | (simp only [i64s_length, u8s_length]; refine ⟨?_, ?_⟩ <;> first | rfl | assumption | omega))); (focus (first | exact i64s_one _ | exact u8s_one _ | simp [Value.oneCell'])); clear E; intro u E0; have E := Lib.hid E0; clear E0))
      refine bodyPost_ret (results_kn E.out rfl _ rfl (by rw [i64s_length]; exact hl16)) rfl ?_
      exact ⟨rfl, E.out.bel⟩

/-! Bytes. -/
end Go.Proofs.YtgcijioiicmjiaaDoor
