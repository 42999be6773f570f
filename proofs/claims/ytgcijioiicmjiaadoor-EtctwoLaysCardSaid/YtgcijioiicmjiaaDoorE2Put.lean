/- Planar blocks, the program's: the closure that lays a run's bits; whether colours may be. -/
import Derived.Test.YtgcijioiicmjiaaDoorE2Tex
import Derived.Test.YtgcijioiicmjiaaDoorE1Put
set_option linter.all false
namespace Go.Proofs.YtgcijioiicmjiaaDoor
open Go.RowKit
open Bi Lv Eo Et

set_option maxHeartbeats 4000000 in
set_option maxRecDepth 100000 in
theorem put2 {w u : World} {R : List Res} {F : List (World → Prop)} [NoU8 R] (gb : Nat) (A : Option Addr) (c : Nat) (E0 : Kn w (.row gb 22 [.slice A 8 c] :: R) F u) (n : Int) (a m : Nat) (xs ys : List Nat) (hx : bsF A 8 xs ∈ F) (hp : a + m ≤ 64) (hm : m ≤ 7) (hl : xs.length = 8) (hy : st xs true a m (n % ((2 ^ m : Nat) : Int)).toNat = ys) :
    Calls Tryd.prog 34 #[arr [(a : Int), (m : Int)], .int .i64 n, .pointer (some ⟨gb, 0, none⟩)] u fun e u1 => e = .returned (.tuple #[]) ∧ ∃ A1 c1, (8 ≤ c1 ∧ c1 ≤ 9223372036854775807) ∧ Kn w (.row gb 22 [.slice A1 8 c1] :: R) (bsF A1 8 ys :: F) u1 := by
  have E := Lib.hid E0
  have h2 : 2 ^ m ≤ 2 ^ 7 := Nat.pow_le_pow_right (by omega) hm
  have h0 : 0 < 2 ^ m := Nat.two_pow_pos m
  have b0 := Int.emod_nonneg n (show ((2 ^ m : Nat) : Int) ≠ 0 by omega)
  have b1 := Int.emod_lt_of_pos n (show (0 : Int) < ((2 ^ m : Nat) : Int) by omega)
  have hyl := Lib.hid (show ys.length = 8 from by rw [← hy]; unfold st; rw [lay_length, hl])
  have hmk := mask_any n m (by omega)
  have e2 : (2 : Int) ^ m = ((2 ^ m : Nat) : Int) := by simp
  have hmk2 := Lib.hid (show bits .and .i64 n (IntKind.i64.wrap (IntKind.i64.wrap (1 * 2 ^ m) - 1)) = n % ((2 ^ m : Nat) : Int) from by
    rw [← hmk, Int.one_mul, e2, wrap64_small ((2 ^ m : Nat) : Int) (by omega) (by omega), wrap64_small _ (by omega) (by omega), show IntKind.i64.wrap ((2 ^ m : Nat) : Int) = ((2 ^ m : Nat) : Int) from by rw [IntKind.wrap_i64]; omega, show IntKind.i64.wrap (((2 ^ m : Nat) : Int) - 1) = ((2 ^ m : Nat) : Int) - 1 from by rw [IntKind.wrap_i64]; omega])
  have hmk3 := Lib.hid (show bits .and .i64 n (IntKind.i64.wrap (IntKind.i64.wrap (2 ^ m) - 1)) = n % ((2 ^ m : Nat) : Int) from by rw [← hmk2.out, Int.one_mul])
  obtain ⟨V, hV⟩ : ∃ V, n % ((2 ^ m : Nat) : Int) = V := ⟨_, rfl⟩
  rw [hV] at b0 b1 hy hmk2 hmk3
  have hN : V.toNat < 2 ^ m := by omega
  have hS := Lib.hid (fun (u : World) (hu : Bs u u.heap.size A 8 xs) => show Calls Tryd.prog 35 #[.slice A 8 c, .int .i64 (a : Int), .int .i64 (m : Int), .int .u64 ((V.toNat : Nat) : Int)] u (Laid u ys 0) from by
    have k := setHigh_any A 8 c (a : Int) (m : Int) V.toNat xs u hu (by omega) (by omega) (by omega)
    have e0 := setE_high hp hN
    rw [e0, setV_ok hl e0] at k
    rw [← hy]
    exact k)
  have hu := Lib.hid (uw_small (z := V) (by omega))
  clear E0 hy hV h2 h0 b0 b1 hN hmk e2
  generalize V.toNat = N at *
  go_enter Tryd.func34, Tryd.ntmps34
  go_wp2_with (first | ((with_reducible refine kn_load E.out rfl rfl rfl rfl ?_)) | ((with_reducible refine kn_load_if E.out rfl rfl rfl rfl ?_)) | ((with_reducible refine kn_loads E.out rfl rfl rfl ?_ ?_); (focus (first | rfl | (simp only [i64s_length, u8s_length]; first | rfl | assumption | omega)))) | ((with_reducible refine kn_loads_if E.out rfl rfl rfl ?_ ?_); (focus (first | rfl | (simp only [i64s_length, u8s_length]; first | rfl | assumption | omega)))) | ((with_reducible refine kn_stores E.out rfl rfl rfl rfl rfl ?_ ?_ ?_); (focus (first | exact ⟨rfl, rfl⟩ | (simp only [i64s_length, u8s_length]; refine ⟨?_, ?_⟩ <;> first | rfl | assumption | omega))); (focus (first | exact i64s_one _ | exact u8s_one _ | simp [Value.oneCell'])); clear E; intro u E0; have E := Lib.hid E0; clear E0) | ((with_reducible refine kn_alloc (o := ⟨some 3, _, _, _, _, _⟩) E.out rfl rfl ?_); clear E; intro g3 u E0 hb0; have E := Lib.hid E0; clear E0 hb0) | ((with_reducible refine kn_box (o := ⟨some 3, _, _, _, _, _⟩) E.out rfl rfl rfl ?_); clear E; intro g3 u E0 hb0; have E := Lib.hid E0; clear E0 hb0) | ((with_reducible refine kn_box_int (o := ⟨some 3, _, _, _, _, _⟩) E.out rfl rfl rfl ?_); clear E; intro g3 u E0 hb0; have E := Lib.hid E0; clear E0 hb0) | ((with_reducible refine kn_box_slice (o := ⟨some 3, _, _, _, _, _⟩) E.out rfl rfl rfl ?_); clear E; intro g3 u E0 hb0; have E := Lib.hid E0; clear E0 hb0) | ((with_reducible refine kn_box_bool (o := ⟨some 3, _, _, _, _, _⟩) E.out rfl rfl rfl ?_); clear E; intro g3 u E0 hb0; have E := Lib.hid E0; clear E0 hb0) | ((with_reducible refine kn_box_func (o := ⟨some 3, _, _, _, _, _⟩) E.out rfl rfl rfl ?_); clear E; intro g3 u E0 hb0; have E := Lib.hid E0; clear E0 hb0))
  refine wp_region_held_drew (S := Kn w [.row g3 75 (i64s [(a : Int), (m : Int)])] []) (by kernel_rfl) (E.out.drew.part _ _ (List.Sublist.cons_cons _ (List.nil_sublist _)) (by simp)) (fun kS => ?_)
  have E1 := Lib.hid E.out.drew
  generalize World.drew _ = u1 at kS E1 ⊢
  clear E
  have E := E1
  clear E1
  (refine takeL (i := 1) (v := _) rfl (by kernel_rfl) (by kernel_rfl) (by kernel_rfl) (fun _ _ _ h => h) (by first | exact Or.inl ⟨by rfl, (by intro u hSu; clear hSu; go_simp; try with_reducible rfl)⟩ | exact Or.inr ⟨by rfl, rfl⟩) kS ?_; (try simp only [Act.put, List.setIfInBounds_toArray, List.set_cons_zero, List.set_cons_succ]))
  (refine takeL (i := 2) (v := _) rfl (by kernel_rfl) (by kernel_rfl) (by kernel_rfl) (fun _ _ _ h => h) (by first | exact yield_load rfl rfl rfl rfl | exact yield_loads rfl rfl rfl rfl | exact yield_loads rfl rfl rfl (by simp only [i64s_length, u8s_length]; first | assumption | omega) | exact yield_loadi rfl rfl rfl (by first | assumption | omega) | exact yield_loadp rfl rfl rfl (by first | assumption | omega)) kS ?_; (try simp only [Act.put, List.setIfInBounds_toArray, List.set_cons_zero, List.set_cons_succ]))
  (refine takeL (i := 3) (v := _) rfl (by kernel_rfl) (by kernel_rfl) (by kernel_rfl) (fun _ _ _ h => h) (by first | exact Or.inl ⟨by rfl, (by intro u hSu; clear hSu; go_simp; try with_reducible rfl)⟩ | exact Or.inr ⟨by rfl, rfl⟩) kS ?_; (try simp only [Act.put, List.setIfInBounds_toArray, List.set_cons_zero, List.set_cons_succ]))
  (refine takeL (i := 4) (v := _) rfl (by kernel_rfl) (by kernel_rfl) (by kernel_rfl) (fun _ _ _ h => h) (by first | exact yield_load rfl rfl rfl rfl | exact yield_loads rfl rfl rfl rfl | exact yield_loads rfl rfl rfl (by simp only [i64s_length, u8s_length]; first | assumption | omega) | exact yield_loadi rfl rfl rfl (by first | assumption | omega) | exact yield_loadp rfl rfl rfl (by first | assumption | omega)) kS ?_; (try simp only [Act.put, List.setIfInBounds_toArray, List.set_cons_zero, List.set_cons_succ]))
  (refine takeL (i := 5) (v := _) rfl (by kernel_rfl) (by kernel_rfl) (by kernel_rfl) (fun _ _ _ h => h) (by first | exact Or.inl ⟨by rfl, (by intro u hSu; clear hSu; go_simp; try with_reducible rfl)⟩ | exact Or.inr ⟨by rfl, rfl⟩) kS ?_; (try simp only [Act.put, List.setIfInBounds_toArray, List.set_cons_zero, List.set_cons_succ])); (refine takeL (i := 6) (v := _) rfl (by kernel_rfl) (by kernel_rfl) (by kernel_rfl) (fun _ _ _ h => h) (by first | exact Or.inl ⟨by rfl, (by intro u hSu; clear hSu; go_simp; try with_reducible rfl)⟩ | exact Or.inr ⟨by rfl, rfl⟩) kS ?_; (try simp only [Act.put, List.setIfInBounds_toArray, List.set_cons_zero, List.set_cons_succ]))
  (refine takeL (i := 7) (v := _) rfl (by kernel_rfl) (by kernel_rfl) (by kernel_rfl) (fun _ _ _ h => h) (by first | exact yield_load rfl rfl rfl rfl | exact yield_loads rfl rfl rfl rfl | exact yield_loads rfl rfl rfl (by simp only [i64s_length, u8s_length]; first | assumption | omega) | exact yield_loadi rfl rfl rfl (by first | assumption | omega) | exact yield_loadp rfl rfl rfl (by first | assumption | omega)) kS ?_; (try simp only [Act.put, List.setIfInBounds_toArray, List.set_cons_zero, List.set_cons_succ]))
  (refine takeL (i := 8) (v := _) rfl (by kernel_rfl) (by kernel_rfl) (by kernel_rfl) (fun _ _ _ h => h) (by first | exact Or.inl ⟨by rfl, (by intro u hSu; clear hSu; go_simp; try with_reducible rfl)⟩ | exact Or.inr ⟨by rfl, rfl⟩) kS ?_; (try simp only [Act.put, List.setIfInBounds_toArray, List.set_cons_zero, List.set_cons_succ])); (refine takeL (i := 9) (v := _) rfl (by kernel_rfl) (by kernel_rfl) (by kernel_rfl) (fun _ _ _ h => h) (by first | exact Or.inl ⟨by rfl, (by intro u hSu; clear hSu; go_simp; try with_reducible rfl)⟩ | exact Or.inr ⟨by rfl, rfl⟩) kS ?_; (try simp only [Act.put, List.setIfInBounds_toArray, List.set_cons_zero, List.set_cons_succ])); (refine takeL (i := 10) (v := _) rfl (by kernel_rfl) (by kernel_rfl) (by kernel_rfl) (fun _ _ _ h => h) (by first | exact Or.inl ⟨by rfl, (by intro u hSu; clear hSu; go_simp; try with_reducible rfl)⟩ | exact Or.inr ⟨by rfl, rfl⟩) kS ?_; (try simp only [Act.put, List.setIfInBounds_toArray, List.set_cons_zero, List.set_cons_succ]))
  try (first | rw [hmk2.out] | rw [hmk3.out])
  (refine takeL (i := 11) (v := _) rfl (by kernel_rfl) (by kernel_rfl) (by kernel_rfl) (fun _ _ _ h => h) (by first | exact Or.inl ⟨by rfl, (by intro u hSu; clear hSu; go_simp; try with_reducible rfl)⟩ | exact Or.inr ⟨by rfl, rfl⟩) kS ?_; (try simp only [Act.put, List.setIfInBounds_toArray, List.set_cons_zero, List.set_cons_succ]))
  rw [hu.out]
  refine callL (i := 0) rfl (by kernel_rfl) (fun K hK => ?_)
  (rw [if_pos (by rfl)]; refine wp_kn_load (g := gb) (i := 0) E.out rfl rfl rfl ?_; (refine hK.out _ _ (E.out.part _ _ (List.Sublist.cons_cons _ (List.nil_sublist _)) (by simp)) (fun kS => ?_); clear hK K; (try simp only [Act.put, List.setIfInBounds_toArray, List.set_cons_zero, List.set_cons_succ])))
  refine callL (i := 12) rfl (by kernel_rfl) (fun K hK => ?_)
  (go_simp; (with_reducible refine (hS.out _ ?h1).mono ?_); (case h1 => exact E.out.bs hx); rintro e w1 ⟨A1, n1, c1, rfl, hB, h1, h2, hb⟩; obtain rfl : n1 = 8 := hB.1.symm.trans hyl.out; have E1 := Lib.hid (E.out.later hb); clear hb E; have E := E1; clear E1; have E1 := Lib.hid (E.out.new_bsi hB); clear E hB; have E := E1; clear E1; go_wp2_with fail; (refine hK.out _ _ (E.out.part _ _ (List.Sublist.cons_cons _ (List.nil_sublist _)) (by simp)) (fun kS => ?_); clear hK K; (try simp only [Act.put, List.setIfInBounds_toArray, List.set_cons_zero, List.set_cons_succ])))
  (refine takeL (i := 13) (v := _) rfl (by kernel_rfl) (by kernel_rfl) (by kernel_rfl) (fun _ _ _ h => h) (by first | exact Or.inl ⟨by rfl, (by intro u hSu; clear hSu; go_simp; try with_reducible rfl)⟩ | exact Or.inr ⟨by rfl, rfl⟩) kS ?_; (try simp only [Act.put, List.setIfInBounds_toArray, List.set_cons_zero, List.set_cons_succ])); (refine takeL (i := 14) (v := _) rfl (by kernel_rfl) (by kernel_rfl) (by kernel_rfl) (fun _ _ _ h => h) (by first | exact Or.inl ⟨by rfl, (by intro u hSu; clear hSu; go_simp; try with_reducible rfl)⟩ | exact Or.inr ⟨by rfl, rfl⟩) kS ?_; (try simp only [Act.put, List.setIfInBounds_toArray, List.set_cons_zero, List.set_cons_succ])); (refine takeL (i := 15) (v := _) rfl (by kernel_rfl) (by kernel_rfl) (by kernel_rfl) (fun _ _ _ h => h) (by first | exact Or.inl ⟨by rfl, (by intro u hSu; clear hSu; go_simp; try with_reducible rfl)⟩ | exact Or.inr ⟨by rfl, rfl⟩) kS ?_; (try simp only [Act.put, List.setIfInBounds_toArray, List.set_cons_zero, List.set_cons_succ]))
  refine callL (i := 16) rfl (by kernel_rfl) (fun K hK => ?_)
  (rw [if_pos (by rfl)]; refine wp_kn_store (g := gb) (i := 0) (v := .slice A1 8 c1) E.out rfl rfl rfl rfl rfl (by simp) ?_; clear E kS; intro u E0; have E := Lib.hid E0; clear E0; (refine hK.out _ _ (E.out.part _ _ (List.Sublist.cons_cons _ (List.nil_sublist _)) (by simp)) (fun kS => ?_); clear hK K; (try simp only [Act.put, List.setIfInBounds_toArray, List.set_cons_zero, List.set_cons_succ])))
  refine wpAnyH_done (by kernel_rfl) ?_ _
  go_wp2_with fail
  go_end0
  exact ⟨rfl, A1, c1, ⟨h1, h2⟩, E.out.part _ _ (List.Sublist.cons _ (List.Sublist.refl _)) (fun _ h => h)⟩
end Go.Proofs.YtgcijioiicmjiaaDoor
