/- Numbers of blocks of one number for each texel: the document's. -/
import Derived.Test.YtpdpjljfloanfaaDoorEaDec
import Derived.Test.YtpdpjljfloanfaaDoorBcBet
set_option linter.all false
namespace Go.Proofs.YtpdpjljfloanfaaDoor
open Go.RowKit
open Bi Lv Bc Ea
open Bf (seP seP_length seP_getD seP_gets okW)
open Eo (pos pos_lt pos_pos getN_bit getN_lt' getN_eq G G_bd)

set_option maxHeartbeats 8000000 in
set_option maxRecDepth 100000 in
theorem rdecode_ok (A : Option Addr) (c : Nat) (xs : List Nat) (wide : Bool) (w : World) (h : Bs w w.heap.size A 8 xs) :
    Calls Tryd.prog 10 #[.slice A 8 c, .bool wide] w fun e w' => e = .returned (.tuple #[arr (deE (G xs 0 8) (G xs 8 4) (G xs 12 4) wide (whE xs)), .int .i64 0]) ∧ Below w.heap.size w w' := by
  have E := Lib.hid ((Kn.start w).arg_bs h)
  have hP := Lib.hid (fun (u : World) (hu : Bs u u.heap.size A 8 xs) => rparts_ok A c xs u hu)
  have b0 := G_bd xs 0 8
  have b1 := G_bd xs 8 4
  have b2 := G_bd xs 12 4
  have hWl := whE_length xs
  have hWb := Lib.hid (whE_bd xs)
  rw [← rdP_full _ _ _ _ _ hWl (whE_bd xs)]
  clear h
  generalize whE xs = W at *
  generalize G xs 0 8 = b at *
  generalize G xs 8 4 = t at *
  generalize G xs 12 4 = n at *
  have b0' : 0 ≤ b ∧ b < 256 := b0
  have b1' : 0 ≤ t ∧ t < 16 := b1
  have b2' : 0 ≤ n ∧ n < 16 := b2
  clear b0 b1 b2
  have hT := Lib.hid (fun u => rtable_any n u)
  have hTl := tabV_length n
  have hTb := Lib.hid (tabV_bd n)
  have hX := Lib.hid (fun k (hk : -15 ≤ (tabV n).getD k 0 ∧ (tabV n).getD k 0 ≤ 15) u => rvalue_any b t ((tabV n).getD k 0) wide u (by omega) (by omega) hk)
  have HDs := Lib.hid (fun k => show rdP b t n wide W (k + 1) = (rdP b t n wide W k).set k (valE b t ((tabV n).getD (W.getD k 0).toNat 0) wide) from rfl)
  have HDl := Lib.hid (fun k => show (rdP b t n wide W k).length = 16 from (rdP_length _ _ _ _ _ k).trans hWl)
  have HD0 := Lib.hid (show rdP b t n wide W 0 = W from rfl)
  have HDg := Lib.hid (fun k (hk : k < 16) => show (rdP b t n wide W k).getD k 0 = W.getD k 0 from by
    unfold rdP
    rw [seP_getD _ _ _ _ _ (by omega), if_neg (by omega)])
  have HIX := Lib.hid (fun (j : Nat) (hj : j < 8) (u : World) => run_index_i64 (P := Tryd.prog) 31 3 8 Tryd.underlying31 Tryd.underlying3 (by kernel_rfl) (tabV n) j hj hTl u)
  generalize rdP b t n wide W = DP at *
  generalize tabV n = T at *
  go_enter Tryd.func10, Tryd.ntmps10
  go_wp2_with (first
    | (go_at_call 8; refine (hP.out _ (E.out.bs (by simp))).mono ?_; rintro e w1 ⟨rfl, hb⟩; have E1 := Lib.hid (E.out.later hb); clear hb E; have E := E1; clear E1)
    | ((with_reducible refine kn_load E.out rfl rfl rfl rfl ?_)) | ((with_reducible refine kn_load_if E.out rfl rfl rfl rfl ?_)) | ((with_reducible refine kn_loads E.out rfl rfl rfl ?_ ?_); (focus (first | rfl | (simp only [i64s_length, u8s_length]; first | rfl | assumption | omega)))) | ((with_reducible refine kn_loads_if E.out rfl rfl rfl ?_ ?_); (focus (first | rfl | (simp only [i64s_length, u8s_length]; first | rfl | assumption | omega)))) | ((with_reducible refine kn_store1_int E.out rfl rfl rfl rfl rfl ?_); clear E; intro u E0; have E := Lib.hid E0; clear E0) | ((with_reducible refine kn_store1_slice E.out rfl rfl rfl rfl rfl ?_); clear E; intro u E0; have E := Lib.hid E0; clear E0) | ((with_reducible refine kn_store1_bool E.out rfl rfl rfl rfl rfl ?_); clear E; intro u E0; have E := Lib.hid E0; clear E0) | ((with_reducible refine kn_stores E.out rfl rfl rfl rfl rfl ?_ ?_ ?_); (focus (first | exact ⟨rfl, rfl⟩ | (simp only [i64s_length, u8s_length]; refine ⟨?_, ?_⟩ <;> first | rfl | assumption | omega))); (focus (first | exact i64s_one _ | exact u8s_one _ | simp [Value.oneCell'])); clear E; intro u E0; have E := Lib.hid E0; clear E0) | ((with_reducible refine kn_alloc (o := ⟨some 4, _, _, _, _, _⟩) E.out rfl rfl ?_); clear E; intro g4 u E0 hb0; have E := Lib.hid E0; clear E0 hb0) | ((with_reducible refine kn_box (o := ⟨some 4, _, _, _, _, _⟩) E.out rfl rfl rfl ?_); clear E; intro g4 u E0 hb0; have E := Lib.hid E0; clear E0 hb0) | ((with_reducible refine kn_box_int (o := ⟨some 4, _, _, _, _, _⟩) E.out rfl rfl rfl ?_); clear E; intro g4 u E0 hb0; have E := Lib.hid E0; clear E0 hb0) | ((with_reducible refine kn_box_slice (o := ⟨some 4, _, _, _, _, _⟩) E.out rfl rfl rfl ?_); clear E; intro g4 u E0 hb0; have E := Lib.hid E0; clear E0 hb0) | ((with_reducible refine kn_box_bool (o := ⟨some 4, _, _, _, _, _⟩) E.out rfl rfl rfl ?_); clear E; intro g4 u E0 hb0; have E := Lib.hid E0; clear E0 hb0) | ((with_reducible refine kn_box_func (o := ⟨some 4, _, _, _, _, _⟩) E.out rfl rfl rfl ?_); clear E; intro g4 u E0 hb0; have E := Lib.hid E0; clear E0 hb0) | ((with_reducible refine kn_alloc (o := ⟨some 9, _, _, _, _, _⟩) E.out rfl rfl ?_); clear E; intro g9 u E0 hb0; have E := Lib.hid E0; clear E0 hb0) | ((with_reducible refine kn_box (o := ⟨some 9, _, _, _, _, _⟩) E.out rfl rfl rfl ?_); clear E; intro g9 u E0 hb0; have E := Lib.hid E0; clear E0 hb0) | ((with_reducible refine kn_box_int (o := ⟨some 9, _, _, _, _, _⟩) E.out rfl rfl rfl ?_); clear E; intro g9 u E0 hb0; have E := Lib.hid E0; clear E0 hb0) | ((with_reducible refine kn_box_slice (o := ⟨some 9, _, _, _, _, _⟩) E.out rfl rfl rfl ?_); clear E; intro g9 u E0 hb0; have E := Lib.hid E0; clear E0 hb0) | ((with_reducible refine kn_box_bool (o := ⟨some 9, _, _, _, _, _⟩) E.out rfl rfl rfl ?_); clear E; intro g9 u E0 hb0; have E := Lib.hid E0; clear E0 hb0) | ((with_reducible refine kn_box_func (o := ⟨some 9, _, _, _, _, _⟩) E.out rfl rfl rfl ?_); clear E; intro g9 u E0 hb0; have E := Lib.hid E0; clear E0 hb0) | ((with_reducible refine kn_alloc E.out rfl rfl ?_); clear E; intro g u E0 hb0; have E := Lib.hid E0; clear E0 hb0) | ((with_reducible refine kn_box E.out rfl rfl rfl ?_); clear E; intro g u E0 hb0; have E := Lib.hid E0; clear E0 hb0) | ((with_reducible refine kn_box_int E.out rfl rfl rfl ?_); clear E; intro g u E0 hb0; have E := Lib.hid E0; clear E0 hb0) | ((with_reducible refine kn_box_slice E.out rfl rfl rfl ?_); clear E; intro g u E0 hb0; have E := Lib.hid E0; clear E0 hb0) | ((with_reducible refine kn_box_bool E.out rfl rfl rfl ?_); clear E; intro g u E0 hb0; have E := Lib.hid E0; clear E0 hb0) | ((with_reducible refine kn_box_func E.out rfl rfl rfl ?_); clear E; intro g u E0 hb0; have E := Lib.hid E0; clear E0 hb0))
  go_loopw [11] (fun i wr => ∃ k : Nat, k ≤ 16 ∧ i = .int .i64 k ∧ Hid (Kn w [.row g9 25 (i64s (DP k)), .row g4 25 (i64s z16)] [bsF A 8 xs] wr)) (fun i _ => 16 - (intOf i).toNat)
  case atStart => exact ⟨0, by omega, rfl, by rw [HD0.out]; exact E⟩
  case round =>
    clear E
    obtain ⟨k, hk, rfl, E⟩ := hrel
    have hl := HDl.out k
    by_cases hlt : k < 16
    · have hk16 : (k : Int) < 16 := by omega
      have hwb := hWb.out k hlt
      have hg := HDg.out k hlt
      have hS0 := HDs.out k
      obtain ⟨v, hv⟩ : ∃ v : Nat, W.getD k 0 = (v : Int) := ⟨(W.getD k 0).toNat, by omega⟩
      rw [hv] at hwb hg
      rw [hv, Int.toNat_natCast] at hS0
      have hv8 : v < 8 := by omega
      have hv8' : (v : Int) < 8 := by omega
      have hcell := Lib.hid (i64s_get (DP k) k (by omega))
      rw [hg] at hcell
      have hix := HIX.out v hv8
      have htb := hTb.out v
      have hvv := Lib.hid (hX.out v htb)
      clear HDs HDl HD0 HDg HIX hWb hv hwb hX hTb hP hg
      generalize T.getD v 0 = z at *
      generalize valE b t z wide = V at *
      have hS := Lib.hid hS0
      have hv := hvv
      clear hS0 hvv
      go_wp2_with (first | ((with_reducible refine kn_load E.out rfl rfl rfl rfl ?_)) | ((with_reducible refine kn_load_if E.out rfl rfl rfl rfl ?_)) | ((with_reducible refine kn_loads E.out rfl rfl rfl ?_ ?_); (focus (first | rfl | (simp only [i64s_length, u8s_length]; first | rfl | assumption | omega)))) | ((with_reducible refine kn_loads_if E.out rfl rfl rfl ?_ ?_); (focus (first | rfl | (simp only [i64s_length, u8s_length]; first | rfl | assumption | omega)))) | ((with_reducible refine kn_store1_int E.out rfl rfl rfl rfl rfl ?_); clear E; intro u E0; have E := Lib.hid E0; clear E0) | ((with_reducible refine kn_store1_slice E.out rfl rfl rfl rfl rfl ?_); clear E; intro u E0; have E := Lib.hid E0; clear E0) | ((with_reducible refine kn_store1_bool E.out rfl rfl rfl rfl rfl ?_); clear E; intro u E0; have E := Lib.hid E0; clear E0) | ((with_reducible refine kn_stores E.out rfl rfl rfl rfl rfl ?_ ?_ ?_); (focus (first | exact ⟨rfl, rfl⟩ | (simp only [i64s_length, u8s_length]; refine ⟨?_, ?_⟩ <;> first | rfl | assumption | omega))); (focus (first | exact i64s_one _ | exact u8s_one _ | simp [Value.oneCell'])); clear E; intro u E0; have E := Lib.hid E0; clear E0) | ((with_reducible refine kn_alloc E.out rfl rfl ?_); clear E; intro g u E0 hb0; have E := Lib.hid E0; clear E0 hb0) | ((with_reducible refine kn_box E.out rfl rfl rfl ?_); clear E; intro g u E0 hb0; have E := Lib.hid E0; clear E0 hb0) | ((with_reducible refine kn_box_int E.out rfl rfl rfl ?_); clear E; intro g u E0 hb0; have E := Lib.hid E0; clear E0 hb0) | ((with_reducible refine kn_box_slice E.out rfl rfl rfl ?_); clear E; intro g u E0 hb0; have E := Lib.hid E0; clear E0 hb0) | ((with_reducible refine kn_box_bool E.out rfl rfl rfl ?_); clear E; intro g u E0 hb0; have E := Lib.hid E0; clear E0 hb0) | ((with_reducible refine kn_box_func E.out rfl rfl rfl ?_); clear E; intro g u E0 hb0; have E := Lib.hid E0; clear E0 hb0))
      refine wp_region_held_drew (S := Kn w [.row g4 25 (i64s z16)] [bsF A 8 xs]) (by kernel_rfl) (E.out.drew.part _ _ (by repeat (first | exact List.Sublist.refl _ | apply List.Sublist.cons_cons | apply List.Sublist.cons)) (by simp)) (fun kS => ?_)
      have E1 := Lib.hid E.out.drew
      generalize World.drew _ = u1 at kS E1 ⊢
      clear E
      have E := E1
      clear E1
      (refine takeL (i := 0) (v := _) rfl (by kernel_rfl) (by kernel_rfl) (by kernel_rfl) (fun _ _ _ h => h) (by first | exact Or.inl ⟨by rfl, (by intro u hSu; clear hSu; go_simp; try with_reducible rfl)⟩ | exact Or.inr ⟨by rfl, rfl⟩) kS ?_; (try simp only [Act.put, List.setIfInBounds_toArray, List.set_cons_zero, List.set_cons_succ])); (refine takeL (i := 1) (v := _) rfl (by kernel_rfl) (by kernel_rfl) (by kernel_rfl) (fun _ _ _ h => h) (by first | exact Or.inl ⟨by rfl, (by intro u hSu; clear hSu; go_simp; try with_reducible rfl)⟩ | exact Or.inr ⟨by rfl, rfl⟩) kS ?_; (try simp only [Act.put, List.setIfInBounds_toArray, List.set_cons_zero, List.set_cons_succ])); (refine takeL (i := 2) (v := _) rfl (by kernel_rfl) (by kernel_rfl) (by kernel_rfl) (fun _ _ _ h => h) (by first | exact Or.inl ⟨by rfl, (by intro u hSu; clear hSu; go_simp; try with_reducible rfl)⟩ | exact Or.inr ⟨by rfl, rfl⟩) kS ?_; (try simp only [Act.put, List.setIfInBounds_toArray, List.set_cons_zero, List.set_cons_succ])); (refine takeL (i := 3) (v := _) rfl (by kernel_rfl) (by kernel_rfl) (by kernel_rfl) (fun _ _ _ h => h) (by first | exact Or.inl ⟨by rfl, (by intro u hSu; clear hSu; go_simp; try with_reducible rfl)⟩ | exact Or.inr ⟨by rfl, rfl⟩) kS ?_; (try simp only [Act.put, List.setIfInBounds_toArray, List.set_cons_zero, List.set_cons_succ])); (refine takeL (i := 5) (v := _) rfl (by kernel_rfl) (by kernel_rfl) (by kernel_rfl) (fun _ _ _ h => h) (by first | exact Or.inl ⟨by rfl, (by intro u hSu; clear hSu; go_simp; try with_reducible rfl)⟩ | exact Or.inr ⟨by rfl, rfl⟩) kS ?_; (try simp only [Act.put, List.setIfInBounds_toArray, List.set_cons_zero, List.set_cons_succ])); (refine takeL (i := 6) (v := _) rfl (by kernel_rfl) (by kernel_rfl) (by kernel_rfl) (fun _ _ _ h => h) (by first | exact Or.inl ⟨by rfl, (by intro u hSu; clear hSu; go_simp; try with_reducible rfl)⟩ | exact Or.inr ⟨by rfl, rfl⟩) kS ?_; (try simp only [Act.put, List.setIfInBounds_toArray, List.set_cons_zero, List.set_cons_succ])); (refine takeL (i := 9) (v := _) rfl (by kernel_rfl) (by kernel_rfl) (by kernel_rfl) (fun _ _ _ h => h) (by first | exact Or.inl ⟨by rfl, (by intro u hSu; clear hSu; go_simp; try with_reducible rfl)⟩ | exact Or.inr ⟨by rfl, rfl⟩) kS ?_; (try simp only [Act.put, List.setIfInBounds_toArray, List.set_cons_zero, List.set_cons_succ]))
      refine callL2 (i := 4) (j := 7) rfl rfl (by kernel_rfl) (fun K hK => ?_) (fun K hK => ?_)
      · (go_simp; (refine (hT.out _).mono ?_); rintro e w1 ⟨rfl, hb⟩; have E1 := Lib.hid (E.out.later hb); clear hb E; have E := E1; clear E1; go_wp2_with fail; (refine hK.out _ _ (E.out.part _ _ (by repeat (first | exact List.Sublist.refl _ | apply List.Sublist.cons_cons | apply List.Sublist.cons)) (by simp)) (fun kS => ?_); clear hK K; (try simp only [Act.put, List.setIfInBounds_toArray, List.set_cons_zero, List.set_cons_succ])))
        refine callL (i := 7) rfl (by kernel_rfl) (fun K hK => ?_)
        (rw [if_pos (by rfl)]; refine wp_kn_load (g := g9) (i := k) E.out rfl rfl hcell.out ?_; (refine hK.out _ _ (E.out.part _ _ (by repeat (first | exact List.Sublist.refl _ | apply List.Sublist.cons_cons | apply List.Sublist.cons)) (by simp)) (fun kS => ?_); clear hK K; (try simp only [Act.put, List.setIfInBounds_toArray, List.set_cons_zero, List.set_cons_succ])))
        ((refine takeL (i := 8) (v := _) rfl (by kernel_rfl) (by kernel_rfl) (by kernel_rfl) (fun _ _ _ h => h) (by first | exact Or.inl ⟨by rfl, (by intro u hSu; clear hSu; go_simp; try with_reducible rfl)⟩ | exact Or.inr ⟨by rfl, rfl⟩) kS ?_; (try simp only [Act.put, List.setIfInBounds_toArray, List.set_cons_zero, List.set_cons_succ])); refine callL (i := 10) rfl (by kernel_rfl) (fun K hK => ?_); (go_simp; (refine (hv.out _).mono ?_); rintro e w1 ⟨rfl, rfl⟩; go_wp2_with fail; (refine hK.out _ _ (E.out.part _ _ (by repeat (first | exact List.Sublist.refl _ | apply List.Sublist.cons_cons | apply List.Sublist.cons)) (by simp)) (fun kS => ?_); clear hK K; (try simp only [Act.put, List.setIfInBounds_toArray, List.set_cons_zero, List.set_cons_succ]))); (refine takeL (i := 11) (v := _) rfl (by kernel_rfl) (by kernel_rfl) (by kernel_rfl) (fun _ _ _ h => h) (by first | exact Or.inl ⟨by rfl, (by intro u hSu; clear hSu; go_simp; try with_reducible rfl)⟩ | exact Or.inr ⟨by rfl, rfl⟩) kS ?_; (try simp only [Act.put, List.setIfInBounds_toArray, List.set_cons_zero, List.set_cons_succ])); refine callL (i := 12) rfl (by kernel_rfl) (fun K hK => ?_); (rw [if_pos (by rfl)]; refine wp_kn_storei (g := g9) (i := k) E.out rfl rfl rfl rfl ?_ ?_; (focus (omega)); clear E kS; intro u E0; rw [← hS.out] at E0; have E := Lib.hid E0; clear E0; (refine hK.out _ _ (E.out.part _ _ (by repeat (first | exact List.Sublist.refl _ | apply List.Sublist.cons_cons | apply List.Sublist.cons)) (by simp)) (fun kS => ?_); clear hK K; (try simp only [Act.put, List.setIfInBounds_toArray, List.set_cons_zero, List.set_cons_succ]))); refine wpAnyH_done (by kernel_rfl) ?_ _; go_wp2_with fail; go_roundw; (case rel => exact ⟨k + 1, by omega, by go_num, E⟩); (case measure => simp [intOf]; omega))
      · (rw [if_pos (by rfl)]; refine wp_kn_load (g := g9) (i := k) E.out rfl rfl hcell.out ?_; (refine hK.out _ _ (E.out.part _ _ (by repeat (first | exact List.Sublist.refl _ | apply List.Sublist.cons_cons | apply List.Sublist.cons)) (by simp)) (fun kS => ?_); clear hK K; (try simp only [Act.put, List.setIfInBounds_toArray, List.set_cons_zero, List.set_cons_succ])))
        refine callL (i := 4) rfl (by kernel_rfl) (fun K hK => ?_)
        (go_simp; (refine (hT.out _).mono ?_); rintro e w1 ⟨rfl, hb⟩; have E1 := Lib.hid (E.out.later hb); clear hb E; have E := E1; clear E1; go_wp2_with fail; (refine hK.out _ _ (E.out.part _ _ (by repeat (first | exact List.Sublist.refl _ | apply List.Sublist.cons_cons | apply List.Sublist.cons)) (by simp)) (fun kS => ?_); clear hK K; (try simp only [Act.put, List.setIfInBounds_toArray, List.set_cons_zero, List.set_cons_succ])))
        ((refine takeL (i := 8) (v := _) rfl (by kernel_rfl) (by kernel_rfl) (by kernel_rfl) (fun _ _ _ h => h) (by first | exact Or.inl ⟨by rfl, (by intro u hSu; clear hSu; go_simp; try with_reducible rfl)⟩ | exact Or.inr ⟨by rfl, rfl⟩) kS ?_; (try simp only [Act.put, List.setIfInBounds_toArray, List.set_cons_zero, List.set_cons_succ])); refine callL (i := 10) rfl (by kernel_rfl) (fun K hK => ?_); (go_simp; (refine (hv.out _).mono ?_); rintro e w1 ⟨rfl, rfl⟩; go_wp2_with fail; (refine hK.out _ _ (E.out.part _ _ (by repeat (first | exact List.Sublist.refl _ | apply List.Sublist.cons_cons | apply List.Sublist.cons)) (by simp)) (fun kS => ?_); clear hK K; (try simp only [Act.put, List.setIfInBounds_toArray, List.set_cons_zero, List.set_cons_succ]))); (refine takeL (i := 11) (v := _) rfl (by kernel_rfl) (by kernel_rfl) (by kernel_rfl) (fun _ _ _ h => h) (by first | exact Or.inl ⟨by rfl, (by intro u hSu; clear hSu; go_simp; try with_reducible rfl)⟩ | exact Or.inr ⟨by rfl, rfl⟩) kS ?_; (try simp only [Act.put, List.setIfInBounds_toArray, List.set_cons_zero, List.set_cons_succ])); refine callL (i := 12) rfl (by kernel_rfl) (fun K hK => ?_); (rw [if_pos (by rfl)]; refine wp_kn_storei (g := g9) (i := k) E.out rfl rfl rfl rfl ?_ ?_; (focus (omega)); clear E kS; intro u E0; rw [← hS.out] at E0; have E := Lib.hid E0; clear E0; (refine hK.out _ _ (E.out.part _ _ (by repeat (first | exact List.Sublist.refl _ | apply List.Sublist.cons_cons | apply List.Sublist.cons)) (by simp)) (fun kS => ?_); clear hK K; (try simp only [Act.put, List.setIfInBounds_toArray, List.set_cons_zero, List.set_cons_succ]))); refine wpAnyH_done (by kernel_rfl) ?_ _; go_wp2_with fail; go_roundw; (case rel => exact ⟨k + 1, by omega, by go_num, E⟩); (case measure => simp [intOf]; omega))
    · obtain rfl : k = 16 := by omega
      clear HDs HDl HD0 HDg HIX hWb hX hTb hP hT
      go_wp2_with (first
        | ((with_reducible refine kn_loads (g := g9) E.out rfl rfl rfl ?hl ?_); (case hl => rw [i64s_length]; exact hl))
        | ((with_reducible refine kn_stores (g := g4) (vs := i64s (DP 16)) E.out rfl rfl rfl rfl rfl ?hl ?h1 ?_); (case hl => exact ⟨rfl, by rw [i64s_length]; exact hl⟩); (case h1 => exact i64s_one _); clear E; intro u E0; have E := Lib.hid E0; clear E0)
        | ((with_reducible refine kn_load E.out rfl rfl rfl rfl ?_)) | ((with_reducible refine kn_load_if E.out rfl rfl rfl rfl ?_)) | ((with_reducible refine kn_loads E.out rfl rfl rfl ?_ ?_); (focus (first | rfl | (simp only [i64s_length, u8s_length]; first | rfl | assumption | omega)))) | ((with_reducible refine kn_loads_if E.out rfl rfl rfl ?_ ?_); (focus (first | rfl | (simp only [i64s_length, u8s_length]; first | rfl | assumption | omega)))) | ((with_reducible refine kn_store1_int E.out rfl rfl rfl rfl rfl ?_); clear E; intro u E0; have E := Lib.hid E0; clear E0) | ((with_reducible refine kn_store1_slice E.out rfl rfl rfl rfl rfl ?_); clear E; intro u E0; have E := Lib.hid E0; clear E0) | ((with_reducible refine kn_store1_bool E.out rfl rfl rfl rfl rfl ?_); clear E; intro u E0; have E := Lib.hid E0; clear E0) | ((with_reducible refine kn_stores E.out rfl rfl rfl rfl rfl ?_ ?_ ?_); (focus (first | exact ⟨rfl, rfl⟩ | (simp only [i64s_length, u8s_length]; refine ⟨?_, ?_⟩ <;> first | rfl | assumption | omega))); (focus (first | exact i64s_one _ | exact u8s_one _ | simp [Value.oneCell'])); clear E; intro u E0; have E := Lib.hid E0; clear E0) | ((with_reducible refine kn_alloc E.out rfl rfl ?_); clear E; intro g u E0 hb0; have E := Lib.hid E0; clear E0 hb0) | ((with_reducible refine kn_box E.out rfl rfl rfl ?_); clear E; intro g u E0 hb0; have E := Lib.hid E0; clear E0 hb0) | ((with_reducible refine kn_box_int E.out rfl rfl rfl ?_); clear E; intro g u E0 hb0; have E := Lib.hid E0; clear E0 hb0) | ((with_reducible refine kn_box_slice E.out rfl rfl rfl ?_); clear E; intro g u E0 hb0; have E := Lib.hid E0; clear E0 hb0) | ((with_reducible refine kn_box_bool E.out rfl rfl rfl ?_); clear E; intro g u E0 hb0; have E := Lib.hid E0; clear E0 hb0) | ((with_reducible refine kn_box_func E.out rfl rfl rfl ?_); clear E; intro g u E0 hb0; have E := Lib.hid E0; clear E0 hb0))
      refine bodyPost_ret (results_kn2 E.out rfl _ rfl (by rw [i64s_length]; exact hl)) rfl ?_
      exact ⟨rfl, E.out.bel⟩
theorem rdecode_any (A : Option Addr) (n c : Nat) (xs : List Nat) (wide : Bool) (w : World) (h : Bs w w.heap.size A n xs) (hn : n ≤ 9223372036854775807) :
    Calls Tryd.prog 10 #[.slice A n c, .bool wide] w fun e w' => e = .returned (.tuple #[arr (eaV n xs wide), .int .i64 (eaE n)]) ∧ Below w.heap.size w w' := by
  unfold eaV eaE eaB eaT eaN eaW
  by_cases h8 : n = 8
  · subst h8
    simp only [if_true]
    exact rdecode_ok A c xs wide w h
  · simp only [h8, if_false]
    exact rdecode_no A n c wide w h8 hn
end Go.Proofs.YtpdpjljfloanfaaDoor
