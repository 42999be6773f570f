/- EtconeTells: any table and half, any block's parts and texels are the document's; the tables that the look reads are as the program's text lays them; no condition besides. -/
import Derived.Test.YtjlkdmdepdoanaaDoorRows
import Derived.Test.YtjlkdmdepdoanaaDoorCards
import Derived.Test.YtjlkdmdepdoanaaDoorTie
import Derived.Test.YtjlkdmdepdoanaaDoorE1Awake
import Derived.Test.YtjlkdmdepdoanaaDoorE1Card
import Derived.Test.YtjlkdmdepdoanaaDoorSame
import Derived.Test.YtjlkdmdepdoanaaDoorOpenArr
import Derived.Test.YtjlkdmdepdoanaaDoorOpen
import Derived.OpenShut
import Derived.ShutString
import Derived.ChangeOld
import Derived.Below
set_option linter.all false
namespace Go.Proofs.YtjlkdmdepdoanaaDoor.etconeTells
open Go.ChangeShapes Go.WideShapes Go.ChangeAt Go.RowKit
open Bi Lv Eo

set_option maxHeartbeats 8000000 in
set_option maxRecDepth 100000 in
theorem walk_far (w : World) (hN : Nums w) (A : Option Addr) (n c : Nat) (xs : List Nat) (hn : n ≤ 9223372036854775807) (a : Int) (f : Bool) (h : ¬ n ≤ 40) :
    Calls Tryd.prog 3 #[.slice A n c, .int .i64 a, .bool f] w fun e w' => e = .returned (.bool true) ∧ Below w.heap.size w w' := by
  have E := Lib.hid ((Kn.start w).arg_nums hN)
  have hn40 : (40 : Int) < (n : Int) := by omega
  clear h hN
  go_enter Tryd.func3, Tryd.ntmps3
  go_wp2_with (first
    | (go_at_call 7; refine (awake10 _ (E.out.get (by simp))).mono ?_; rintro e w1 ⟨rfl, hb⟩; have E1 := Lib.hid (E.out.later hb); clear hb E; have E := E1; clear E1)
    | ((with_reducible refine kn_load E.out rfl rfl rfl rfl ?_)) | ((with_reducible refine kn_load_if E.out rfl rfl rfl rfl ?_)) | ((with_reducible refine kn_loads E.out rfl rfl rfl ?_ ?_); (focus (first | rfl | (simp only [i64s_length, u8s_length]; first | rfl | assumption | omega)))) | ((with_reducible refine kn_loads_if E.out rfl rfl rfl ?_ ?_); (focus (first | rfl | (simp only [i64s_length, u8s_length]; first | rfl | assumption | omega)))) | ((with_reducible refine kn_store1_int E.out rfl rfl rfl rfl rfl ?_); clear E; intro u E0; have E := Lib.hid E0; clear E0) | ((with_reducible refine kn_store1_slice E.out rfl rfl rfl rfl rfl ?_); clear E; intro u E0; have E := Lib.hid E0; clear E0) | ((with_reducible refine kn_store1_bool E.out rfl rfl rfl rfl rfl ?_); clear E; intro u E0; have E := Lib.hid E0; clear E0) | ((with_reducible refine kn_stores E.out rfl rfl rfl rfl rfl ?_ ?_ ?_); (focus (first | exact ⟨rfl, rfl⟩ | (simp only [i64s_length, u8s_length]; refine ⟨?_, ?_⟩ <;> first | rfl | assumption | omega))); (focus (first | exact i64s_one _ | exact u8s_one _ | simp [Value.oneCell'])); clear E; intro u E0; have E := Lib.hid E0; clear E0) | ((with_reducible refine kn_alloc E.out rfl rfl ?_); clear E; intro g u E0 hb0; have E := Lib.hid E0; clear E0 hb0) | ((with_reducible refine kn_box E.out rfl rfl rfl ?_); clear E; intro g u E0 hb0; have E := Lib.hid E0; clear E0 hb0) | ((with_reducible refine kn_box_int E.out rfl rfl rfl ?_); clear E; intro g u E0 hb0; have E := Lib.hid E0; clear E0 hb0) | ((with_reducible refine kn_box_slice E.out rfl rfl rfl ?_); clear E; intro g u E0 hb0; have E := Lib.hid E0; clear E0 hb0) | ((with_reducible refine kn_box_bool E.out rfl rfl rfl ?_); clear E; intro g u E0 hb0; have E := Lib.hid E0; clear E0 hb0) | ((with_reducible refine kn_box_func E.out rfl rfl rfl ?_); clear E; intro g u E0 hb0; have E := Lib.hid E0; clear E0 hb0))
  go_ret
  exact ⟨rfl, E.out.bel⟩
set_option maxHeartbeats 8000000 in
set_option maxRecDepth 100000 in
theorem walk_near (w : World) (hN : Nums w) (A : Option Addr) (n c : Nat) (xs : List Nat) (hB : Bs w w.heap.size A n xs) (a : Int) (f : Bool) (h : n ≤ 40) :
    Calls Tryd.prog 3 #[.slice A n c, .int .i64 a, .bool f] w fun e w' => e = .returned (.bool true) ∧ Below w.heap.size w w' := by
  have E := Lib.hid (((Kn.start w).arg_nums hN).arg_bs hB)
  have hn40 : ¬ (40 : Int) < (n : Int) := by omega
  have hP := Lib.hid (fun u hu => parts_any A n c xs u hu (by omega))
  have hQ := Lib.hid (fun u hu => rparts_any A n c xs u hu (by omega))
  have hD := Lib.hid (fun u hu hn => decode10 A n c xs u hu (by omega) hn)
  have hR := Lib.hid (fun u hu => rdecode10 A n c xs u hu (by omega))
  have hT := Lib.hid (fun u hu => table_any a u hu)
  have hS := Lib.hid (fun u => rtable_any a u)
  have hH := Lib.hid (fun u => half_any f a u)
  have hI := Lib.hid (fun u => rhalf_any f a u)
  have hTo := Lib.hid (fun u => to10 (pa1 n xs) (pa2 n xs) (pa3 n xs) u (pa3_length n xs))
  have hz24 := Lib.hid z24_length
  have hzz := Lib.hid (show (i64s z64).length = 64 from rfl)
  have hZ := pa3_length n xs
  have hZ' := Lib.hid hZ
  have hl := deV_length n xs
  have hl' := Lib.hid hl
  have htl := tabV_length a
  have hq1 := eq_rblock (pa1 n xs) (pa2 n xs) (pa3 n xs) hZ
  have hq2 : ∀ u, (Op.equalIn 10000 38 (arr (deV n xs)) (arr (deV n xs))).run Tryd.prog u = .ok true u := fun u => by
    have k := eq_tile _ _ hl hl u
    rw [beq_self_eq_true] at k
    exact k
  have hq3 : ∀ u, (Op.equalIn 10000 35 (arr (tabV a)) (arr (tabV a))).run Tryd.prog u = .ok true u := fun u => by
    have k := eqIn_ints u 9998 35 3 4 Tryd.underlying35 Tryd.underlying3 szf (tabV a) (tabV a) htl htl
    rw [beq_self_eq_true] at k
    exact k
  clear h hN hB htl
  generalize pa1 n xs = d at *
  generalize pa2 n xs = f2 at *
  generalize pa3 n xs = Z at *
  generalize deV n xs = DV at *
  generalize paE n = pe at *
  generalize tabV a = tv at *
  generalize halfV f a = hv at *
  go_enter Tryd.func3, Tryd.ntmps3
  go_wp2_with (first
    | (go_at_call 7; refine (awake10 _ (E.out.get (by simp))).mono ?_; rintro e w1 ⟨rfl, hb⟩; have E1 := Lib.hid (E.out.later hb); clear hb E; have E := E1; clear E1)
    | (go_at_call 8; (with_reducible refine (hP.out _ ?ha).mono ?_); (case ha => exact E.out.bs List.mem_cons_self); clear hP; rintro e w2 ⟨rfl, hb⟩; have E1 := Lib.hid (E.out.later hb); clear hb E; have E := E1; clear E1)
    | (go_at_call 9; (with_reducible refine (hQ.out _ ?ha).mono ?_); (case ha => exact E.out.bs List.mem_cons_self); clear hQ; rintro e w2 ⟨rfl, hb⟩; have E1 := Lib.hid (E.out.later hb); clear hb E; have E := E1; clear E1)
    | (go_at_call 10; (with_reducible refine (hD.out _ ?ha ?hb).mono ?_); (case ha => exact E.out.bs List.mem_cons_self); (case hb => exact E.out.get (by simp)); clear hD; rintro e w2 ⟨rfl, hb⟩; have E1 := Lib.hid (E.out.later hb); clear hb E; have E := E1; clear E1)
    | (go_at_call 11; (with_reducible refine (hR.out _ ?ha).mono ?_); (case ha => exact E.out.bs List.mem_cons_self); clear hR; rintro e w2 ⟨rfl, hb⟩; have E1 := Lib.hid (E.out.later hb); clear hb E; have E := E1; clear E1)
    | ((with_reducible refine kn_bputall (g := g8) E.out rfl rfl rfl rfl rfl ?h1 ?h2 ?_); (case h1 => exact hz24.out); (case h2 => exact hZ'.out); clear E; intro u E0; have E := Lib.hid E0; clear E0)
    | ((with_reducible refine kn_bputall (g := g10) E.out rfl rfl rfl rfl rfl ?h1 ?h2 ?_); (case h1 => exact hz24.out); (case h2 => exact hZ'.out); clear E; intro u E0; have E := Lib.hid E0; clear E0)
    | ((with_reducible refine kn_stores (g := g12) (vs := i64s DV) E.out rfl rfl rfl rfl rfl ?hl ?h1 ?_); (case hl => exact ⟨hzz.out, by rw [i64s_length]; exact hl'.out⟩); (case h1 => exact i64s_one _); clear E; intro u E0; have E := Lib.hid E0; clear E0)
    | ((with_reducible refine kn_stores (g := g14) (vs := i64s DV) E.out rfl rfl rfl rfl rfl ?hl ?h1 ?_); (case hl => exact ⟨hzz.out, by rw [i64s_length]; exact hl'.out⟩); (case h1 => exact i64s_one _); clear E; intro u E0; have E := Lib.hid E0; clear E0)
    | ((with_reducible refine kn_load E.out rfl rfl rfl rfl ?_)) | ((with_reducible refine kn_load_if E.out rfl rfl rfl rfl ?_)) | ((with_reducible refine kn_loads E.out rfl rfl rfl ?_ ?_); (focus (first | rfl | (simp only [i64s_length, u8s_length]; first | rfl | assumption | omega)))) | ((with_reducible refine kn_loads_if E.out rfl rfl rfl ?_ ?_); (focus (first | rfl | (simp only [i64s_length, u8s_length]; first | rfl | assumption | omega)))) | ((with_reducible refine kn_store1_int E.out rfl rfl rfl rfl rfl ?_); clear E; intro u E0; have E := Lib.hid E0; clear E0) | ((with_reducible refine kn_store1_slice E.out rfl rfl rfl rfl rfl ?_); clear E; intro u E0; have E := Lib.hid E0; clear E0) | ((with_reducible refine kn_store1_bool E.out rfl rfl rfl rfl rfl ?_); clear E; intro u E0; have E := Lib.hid E0; clear E0) | ((with_reducible refine kn_stores E.out rfl rfl rfl rfl rfl ?_ ?_ ?_); (focus (first | exact ⟨rfl, rfl⟩ | (simp only [i64s_length, u8s_length]; refine ⟨?_, ?_⟩ <;> first | rfl | assumption | omega))); (focus (first | exact i64s_one _ | exact u8s_one _ | simp [Value.oneCell'])); clear E; intro u E0; have E := Lib.hid E0; clear E0) | ((with_reducible refine kn_alloc (o := ⟨some 8, _, _, _, _, _⟩) E.out rfl rfl ?_); clear E; intro g8 u E0 hb0; have E := Lib.hid E0; clear E0 hb0) | ((with_reducible refine kn_box (o := ⟨some 8, _, _, _, _, _⟩) E.out rfl rfl rfl ?_); clear E; intro g8 u E0 hb0; have E := Lib.hid E0; clear E0 hb0) | ((with_reducible refine kn_box_int (o := ⟨some 8, _, _, _, _, _⟩) E.out rfl rfl rfl ?_); clear E; intro g8 u E0 hb0; have E := Lib.hid E0; clear E0 hb0) | ((with_reducible refine kn_box_slice (o := ⟨some 8, _, _, _, _, _⟩) E.out rfl rfl rfl ?_); clear E; intro g8 u E0 hb0; have E := Lib.hid E0; clear E0 hb0) | ((with_reducible refine kn_box_bool (o := ⟨some 8, _, _, _, _, _⟩) E.out rfl rfl rfl ?_); clear E; intro g8 u E0 hb0; have E := Lib.hid E0; clear E0 hb0) | ((with_reducible refine kn_box_func (o := ⟨some 8, _, _, _, _, _⟩) E.out rfl rfl rfl ?_); clear E; intro g8 u E0 hb0; have E := Lib.hid E0; clear E0 hb0) | ((with_reducible refine kn_alloc (o := ⟨some 10, _, _, _, _, _⟩) E.out rfl rfl ?_); clear E; intro g10 u E0 hb0; have E := Lib.hid E0; clear E0 hb0) | ((with_reducible refine kn_box (o := ⟨some 10, _, _, _, _, _⟩) E.out rfl rfl rfl ?_); clear E; intro g10 u E0 hb0; have E := Lib.hid E0; clear E0 hb0) | ((with_reducible refine kn_box_int (o := ⟨some 10, _, _, _, _, _⟩) E.out rfl rfl rfl ?_); clear E; intro g10 u E0 hb0; have E := Lib.hid E0; clear E0 hb0) | ((with_reducible refine kn_box_slice (o := ⟨some 10, _, _, _, _, _⟩) E.out rfl rfl rfl ?_); clear E; intro g10 u E0 hb0; have E := Lib.hid E0; clear E0 hb0) | ((with_reducible refine kn_box_bool (o := ⟨some 10, _, _, _, _, _⟩) E.out rfl rfl rfl ?_); clear E; intro g10 u E0 hb0; have E := Lib.hid E0; clear E0 hb0) | ((with_reducible refine kn_box_func (o := ⟨some 10, _, _, _, _, _⟩) E.out rfl rfl rfl ?_); clear E; intro g10 u E0 hb0; have E := Lib.hid E0; clear E0 hb0) | ((with_reducible refine kn_alloc (o := ⟨some 12, _, _, _, _, _⟩) E.out rfl rfl ?_); clear E; intro g12 u E0 hb0; have E := Lib.hid E0; clear E0 hb0) | ((with_reducible refine kn_box (o := ⟨some 12, _, _, _, _, _⟩) E.out rfl rfl rfl ?_); clear E; intro g12 u E0 hb0; have E := Lib.hid E0; clear E0 hb0) | ((with_reducible refine kn_box_int (o := ⟨some 12, _, _, _, _, _⟩) E.out rfl rfl rfl ?_); clear E; intro g12 u E0 hb0; have E := Lib.hid E0; clear E0 hb0) | ((with_reducible refine kn_box_slice (o := ⟨some 12, _, _, _, _, _⟩) E.out rfl rfl rfl ?_); clear E; intro g12 u E0 hb0; have E := Lib.hid E0; clear E0 hb0) | ((with_reducible refine kn_box_bool (o := ⟨some 12, _, _, _, _, _⟩) E.out rfl rfl rfl ?_); clear E; intro g12 u E0 hb0; have E := Lib.hid E0; clear E0 hb0) | ((with_reducible refine kn_box_func (o := ⟨some 12, _, _, _, _, _⟩) E.out rfl rfl rfl ?_); clear E; intro g12 u E0 hb0; have E := Lib.hid E0; clear E0 hb0) | ((with_reducible refine kn_alloc (o := ⟨some 14, _, _, _, _, _⟩) E.out rfl rfl ?_); clear E; intro g14 u E0 hb0; have E := Lib.hid E0; clear E0 hb0) | ((with_reducible refine kn_box (o := ⟨some 14, _, _, _, _, _⟩) E.out rfl rfl rfl ?_); clear E; intro g14 u E0 hb0; have E := Lib.hid E0; clear E0 hb0) | ((with_reducible refine kn_box_int (o := ⟨some 14, _, _, _, _, _⟩) E.out rfl rfl rfl ?_); clear E; intro g14 u E0 hb0; have E := Lib.hid E0; clear E0 hb0) | ((with_reducible refine kn_box_slice (o := ⟨some 14, _, _, _, _, _⟩) E.out rfl rfl rfl ?_); clear E; intro g14 u E0 hb0; have E := Lib.hid E0; clear E0 hb0) | ((with_reducible refine kn_box_bool (o := ⟨some 14, _, _, _, _, _⟩) E.out rfl rfl rfl ?_); clear E; intro g14 u E0 hb0; have E := Lib.hid E0; clear E0 hb0) | ((with_reducible refine kn_box_func (o := ⟨some 14, _, _, _, _, _⟩) E.out rfl rfl rfl ?_); clear E; intro g14 u E0 hb0; have E := Lib.hid E0; clear E0 hb0) | ((with_reducible refine kn_alloc E.out rfl rfl ?_); clear E; intro g u E0 hb0; have E := Lib.hid E0; clear E0 hb0) | ((with_reducible refine kn_box E.out rfl rfl rfl ?_); clear E; intro g u E0 hb0; have E := Lib.hid E0; clear E0 hb0) | ((with_reducible refine kn_box_int E.out rfl rfl rfl ?_); clear E; intro g u E0 hb0; have E := Lib.hid E0; clear E0 hb0) | ((with_reducible refine kn_box_slice E.out rfl rfl rfl ?_); clear E; intro g u E0 hb0; have E := Lib.hid E0; clear E0 hb0) | ((with_reducible refine kn_box_bool E.out rfl rfl rfl ?_); clear E; intro g u E0 hb0; have E := Lib.hid E0; clear E0 hb0) | ((with_reducible refine kn_box_func E.out rfl rfl rfl ?_); clear E; intro g u E0 hb0; have E := Lib.hid E0; clear E0 hb0))
  refine wp_region_held_drew (S := Kn w [.row g14 38 (i64s DV), .row g12 38 (i64s DV), .row g10 32 (blk d f2 Z), .row g8 28 (blk d f2 Z)] [Nums]) (by kernel_rfl) (E.out.drew.part _ _ (by repeat (first | exact List.Sublist.refl _ | apply List.Sublist.cons_cons | apply List.Sublist.cons)) (by simp)) (fun kS => ?_)
  have E1 := Lib.hid E.out.drew
  generalize World.drew _ = u1 at kS E1 ⊢
  clear E
  have E := E1
  clear E1
  (refine takeL (i := 0) (v := _) rfl (by kernel_rfl) (by kernel_rfl) (by kernel_rfl) (fun _ _ _ h => h) (by first | exact Or.inl ⟨by rfl, (by intro u hSu; clear hSu; go_simp; try with_reducible rfl)⟩ | exact Or.inr ⟨by rfl, rfl⟩) kS ?_; (try simp only [Act.put, List.setIfInBounds_toArray, List.set_cons_zero, List.set_cons_succ])); (refine takeL (i := 1) (v := _) rfl (by kernel_rfl) (by kernel_rfl) (by kernel_rfl) (fun _ _ _ h => h) (by first | exact Or.inl ⟨by rfl, (by intro u hSu; clear hSu; go_simp; try with_reducible rfl)⟩ | exact Or.inr ⟨by rfl, rfl⟩) kS ?_; (try simp only [Act.put, List.setIfInBounds_toArray, List.set_cons_zero, List.set_cons_succ]))
  (refine takeL (i := 2) (v := _) rfl (by kernel_rfl) (by kernel_rfl) (by kernel_rfl) (fun _ _ _ h => h) (yield_loads (g := g8) rfl rfl rfl (blk_length (by omega))) kS ?_; (try simp only [Act.put, List.setIfInBounds_toArray, List.set_cons_zero, List.set_cons_succ]))
  (refine takeL (i := 4) (v := _) rfl (by kernel_rfl) (by kernel_rfl) (by kernel_rfl) (fun _ _ _ h => h) (yield_loads (g := g10) rfl rfl rfl (blk_length (by omega))) kS ?_; (try simp only [Act.put, List.setIfInBounds_toArray, List.set_cons_zero, List.set_cons_succ]))
  refine callL (i := 3) rfl (by kernel_rfl) (fun K hK => ?_)
  (rw [if_pos (by rfl)]; go_simp; (with_reducible refine (hTo.out _).mono ?_); rintro e w7 ⟨rfl, hb⟩; have E1 := Lib.hid (E.out.later hb); clear hb E; have E := E1; clear E1; go_wp2_with fail; (refine hK.out _ _ (E.out.part _ _ (by repeat (first | exact List.Sublist.refl _ | apply List.Sublist.cons_cons | apply List.Sublist.cons)) (by simp)) (fun kS => ?_); clear hK K; (try simp only [Act.put, List.setIfInBounds_toArray, List.set_cons_zero, List.set_cons_succ])))
  (refine takeL (i := 5) (v := _) rfl (by kernel_rfl) (by kernel_rfl) (by kernel_rfl) (fun _ _ _ h => h) (by first | exact Or.inl ⟨by rfl, (by intro u hSu; clear hSu; go_simp; try with_reducible rfl)⟩ | exact Or.inr ⟨by rfl, rfl⟩) kS ?_; (try simp only [Act.put, List.setIfInBounds_toArray, List.set_cons_zero, List.set_cons_succ])); (refine takeL (i := 6) (v := _) rfl (by kernel_rfl) (by kernel_rfl) (by kernel_rfl) (fun _ _ _ h => h) (by first | exact Or.inl ⟨by rfl, (by intro u hSu; clear hSu; go_simp; try with_reducible rfl)⟩ | exact Or.inr ⟨by rfl, rfl⟩) kS ?_; (try simp only [Act.put, List.setIfInBounds_toArray, List.set_cons_zero, List.set_cons_succ])); (refine takeL (i := 7) (v := _) rfl (by kernel_rfl) (by kernel_rfl) (by kernel_rfl) (fun _ _ _ h => h) (by first | exact Or.inl ⟨by rfl, (by intro u hSu; clear hSu; go_simp; try with_reducible rfl)⟩ | exact Or.inr ⟨by rfl, rfl⟩) kS ?_; (try simp only [Act.put, List.setIfInBounds_toArray, List.set_cons_zero, List.set_cons_succ])); (refine takeL (i := 8) (v := _) rfl (by kernel_rfl) (by kernel_rfl) (by kernel_rfl) (fun _ _ _ h => h) (by first | exact Or.inl ⟨by rfl, (by intro u hSu; clear hSu; go_simp; try with_reducible rfl)⟩ | exact Or.inr ⟨by rfl, rfl⟩) kS ?_; (try simp only [Act.put, List.setIfInBounds_toArray, List.set_cons_zero, List.set_cons_succ])); (refine takeL (i := 9) (v := _) rfl (by kernel_rfl) (by kernel_rfl) (by kernel_rfl) (fun _ _ _ h => h) (by first | exact Or.inl ⟨by rfl, (by intro u hSu; clear hSu; go_simp; try with_reducible rfl)⟩ | exact Or.inr ⟨by rfl, rfl⟩) kS ?_; (try simp only [Act.put, List.setIfInBounds_toArray, List.set_cons_zero, List.set_cons_succ])); (refine takeL (i := 10) (v := _) rfl (by kernel_rfl) (by kernel_rfl) (by kernel_rfl) (fun _ _ _ h => h) (by first | exact Or.inl ⟨by rfl, (by intro u hSu; clear hSu; go_simp; try with_reducible rfl)⟩ | exact Or.inr ⟨by rfl, rfl⟩) kS ?_; (try simp only [Act.put, List.setIfInBounds_toArray, List.set_cons_zero, List.set_cons_succ])); (refine takeL (i := 11) (v := _) rfl (by kernel_rfl) (by kernel_rfl) (by kernel_rfl) (fun _ _ _ h => h) (by first | exact Or.inl ⟨by rfl, (by intro u hSu; clear hSu; go_simp; try with_reducible rfl)⟩ | exact Or.inr ⟨by rfl, rfl⟩) kS ?_; (try simp only [Act.put, List.setIfInBounds_toArray, List.set_cons_zero, List.set_cons_succ])); (refine takeL (i := 12) (v := _) rfl (by kernel_rfl) (by kernel_rfl) (by kernel_rfl) (fun _ _ _ h => h) (by first | exact Or.inl ⟨by rfl, (by intro u hSu; clear hSu; go_simp; try with_reducible rfl)⟩ | exact Or.inr ⟨by rfl, rfl⟩) kS ?_; (try simp only [Act.put, List.setIfInBounds_toArray, List.set_cons_zero, List.set_cons_succ]))
  (refine takeL (i := 13) (v := _) rfl (by kernel_rfl) (by kernel_rfl) (by kernel_rfl) (fun _ _ _ h => h) (yield_loads (g := g12) rfl rfl rfl (by rw [i64s_length]; exact hl)) kS ?_; (try simp only [Act.put, List.setIfInBounds_toArray, List.set_cons_zero, List.set_cons_succ]))
  (refine takeL (i := 14) (v := _) rfl (by kernel_rfl) (by kernel_rfl) (by kernel_rfl) (fun _ _ _ h => h) (yield_loads (g := g14) rfl rfl rfl (by rw [i64s_length]; exact hl)) kS ?_; (try simp only [Act.put, List.setIfInBounds_toArray, List.set_cons_zero, List.set_cons_succ]))
  (refine takeL (i := 15) (v := _) rfl (by kernel_rfl) (by kernel_rfl) (by kernel_rfl) (fun _ _ _ h => h) (by first | exact Or.inl ⟨by rfl, (by intro u hSu; clear hSu; go_simp; try with_reducible rfl)⟩ | exact Or.inr ⟨by rfl, rfl⟩) kS ?_; (try simp only [Act.put, List.setIfInBounds_toArray, List.set_cons_zero, List.set_cons_succ])); (refine takeL (i := 16) (v := _) rfl (by kernel_rfl) (by kernel_rfl) (by kernel_rfl) (fun _ _ _ h => h) (by first | exact Or.inl ⟨by rfl, (by intro u hSu; clear hSu; go_simp; try with_reducible rfl)⟩ | exact Or.inr ⟨by rfl, rfl⟩) kS ?_; (try simp only [Act.put, List.setIfInBounds_toArray, List.set_cons_zero, List.set_cons_succ])); (refine takeL (i := 17) (v := _) rfl (by kernel_rfl) (by kernel_rfl) (by kernel_rfl) (fun _ _ _ h => h) (by first | exact Or.inl ⟨by rfl, (by intro u hSu; clear hSu; go_simp; try with_reducible rfl)⟩ | exact Or.inr ⟨by rfl, rfl⟩) kS ?_; (try simp only [Act.put, List.setIfInBounds_toArray, List.set_cons_zero, List.set_cons_succ])); (refine takeL (i := 18) (v := _) rfl (by kernel_rfl) (by kernel_rfl) (by kernel_rfl) (fun _ _ _ h => h) (by first | exact Or.inl ⟨by rfl, (by intro u hSu; clear hSu; go_simp; try with_reducible rfl)⟩ | exact Or.inr ⟨by rfl, rfl⟩) kS ?_; (try simp only [Act.put, List.setIfInBounds_toArray, List.set_cons_zero, List.set_cons_succ])); (refine takeL (i := 19) (v := _) rfl (by kernel_rfl) (by kernel_rfl) (by kernel_rfl) (fun _ _ _ h => h) (by first | exact Or.inl ⟨by rfl, (by intro u hSu; clear hSu; go_simp; try with_reducible rfl)⟩ | exact Or.inr ⟨by rfl, rfl⟩) kS ?_; (try simp only [Act.put, List.setIfInBounds_toArray, List.set_cons_zero, List.set_cons_succ])); (refine takeL (i := 20) (v := _) rfl (by kernel_rfl) (by kernel_rfl) (by kernel_rfl) (fun _ _ _ h => h) (by first | exact Or.inl ⟨by rfl, (by intro u hSu; clear hSu; go_simp; try with_reducible rfl)⟩ | exact Or.inr ⟨by rfl, rfl⟩) kS ?_; (try simp only [Act.put, List.setIfInBounds_toArray, List.set_cons_zero, List.set_cons_succ])); (refine takeL (i := 21) (v := _) rfl (by kernel_rfl) (by kernel_rfl) (by kernel_rfl) (fun _ _ _ h => h) (by first | exact Or.inl ⟨by rfl, (by intro u hSu; clear hSu; go_simp; try with_reducible rfl)⟩ | exact Or.inr ⟨by rfl, rfl⟩) kS ?_; (try simp only [Act.put, List.setIfInBounds_toArray, List.set_cons_zero, List.set_cons_succ])); (refine takeL (i := 22) (v := _) rfl (by kernel_rfl) (by kernel_rfl) (by kernel_rfl) (fun _ _ _ h => h) (by first | exact Or.inl ⟨by rfl, (by intro u hSu; clear hSu; go_simp; try with_reducible rfl)⟩ | exact Or.inr ⟨by rfl, rfl⟩) kS ?_; (try simp only [Act.put, List.setIfInBounds_toArray, List.set_cons_zero, List.set_cons_succ])); (refine takeL (i := 23) (v := _) rfl (by kernel_rfl) (by kernel_rfl) (by kernel_rfl) (fun _ _ _ h => h) (by first | exact Or.inl ⟨by rfl, (by intro u hSu; clear hSu; go_simp; try with_reducible rfl)⟩ | exact Or.inr ⟨by rfl, rfl⟩) kS ?_; (try simp only [Act.put, List.setIfInBounds_toArray, List.set_cons_zero, List.set_cons_succ])); (refine takeL (i := 25) (v := _) rfl (by kernel_rfl) (by kernel_rfl) (by kernel_rfl) (fun _ _ _ h => h) (by first | exact Or.inl ⟨by rfl, (by intro u hSu; clear hSu; go_simp; try with_reducible rfl)⟩ | exact Or.inr ⟨by rfl, rfl⟩) kS ?_; (try simp only [Act.put, List.setIfInBounds_toArray, List.set_cons_zero, List.set_cons_succ]))
  refine callL (i := 24) rfl (by kernel_rfl) (fun K hK => ?_)
  (rw [if_pos (by rfl)]; go_simp; (with_reducible refine (hT.out _ (E.out.get (List.mem_cons_of_mem _ List.mem_cons_self))).mono ?_); rintro e w7 ⟨rfl, hb⟩; have E1 := Lib.hid (E.out.later hb); clear hb E; have E := E1; clear E1; go_wp2_with fail; (refine hK.out _ _ (E.out.part _ _ (by repeat (first | exact List.Sublist.refl _ | apply List.Sublist.cons_cons | apply List.Sublist.cons)) (by simp)) (fun kS => ?_); clear hK K; (try simp only [Act.put, List.setIfInBounds_toArray, List.set_cons_zero, List.set_cons_succ])))
  refine callL (i := 26) rfl (by kernel_rfl) (fun K hK => ?_)
  (rw [if_pos (by rfl)]; go_simp; (with_reducible refine (hS.out _).mono ?_); rintro e w7 ⟨rfl, hb⟩; have E1 := Lib.hid (E.out.later hb); clear hb E; have E := E1; clear E1; go_wp2_with fail; (refine hK.out _ _ (E.out.part _ _ (by repeat (first | exact List.Sublist.refl _ | apply List.Sublist.cons_cons | apply List.Sublist.cons)) (by simp)) (fun kS => ?_); clear hK K; (try simp only [Act.put, List.setIfInBounds_toArray, List.set_cons_zero, List.set_cons_succ])))
  (refine takeL (i := 27) (v := _) rfl (by kernel_rfl) (by kernel_rfl) (by kernel_rfl) (fun _ _ _ h => h) (by first | exact Or.inl ⟨by rfl, (by intro u hSu; clear hSu; go_simp; try with_reducible rfl)⟩ | exact Or.inr ⟨by rfl, rfl⟩) kS ?_; (try simp only [Act.put, List.setIfInBounds_toArray, List.set_cons_zero, List.set_cons_succ])); (refine takeL (i := 28) (v := _) rfl (by kernel_rfl) (by kernel_rfl) (by kernel_rfl) (fun _ _ _ h => h) (by first | exact Or.inl ⟨by rfl, (by intro u hSu; clear hSu; go_simp; try with_reducible rfl)⟩ | exact Or.inr ⟨by rfl, rfl⟩) kS ?_; (try simp only [Act.put, List.setIfInBounds_toArray, List.set_cons_zero, List.set_cons_succ])); (refine takeL (i := 29) (v := _) rfl (by kernel_rfl) (by kernel_rfl) (by kernel_rfl) (fun _ _ _ h => h) (by first | exact Or.inl ⟨by rfl, (by intro u hSu; clear hSu; go_simp; try with_reducible rfl)⟩ | exact Or.inr ⟨by rfl, rfl⟩) kS ?_; (try simp only [Act.put, List.setIfInBounds_toArray, List.set_cons_zero, List.set_cons_succ])); (refine takeL (i := 30) (v := _) rfl (by kernel_rfl) (by kernel_rfl) (by kernel_rfl) (fun _ _ _ h => h) (by first | exact Or.inl ⟨by rfl, (by intro u hSu; clear hSu; go_simp; try with_reducible rfl)⟩ | exact Or.inr ⟨by rfl, rfl⟩) kS ?_; (try simp only [Act.put, List.setIfInBounds_toArray, List.set_cons_zero, List.set_cons_succ])); (refine takeL (i := 31) (v := _) rfl (by kernel_rfl) (by kernel_rfl) (by kernel_rfl) (fun _ _ _ h => h) (by first | exact Or.inl ⟨by rfl, (by intro u hSu; clear hSu; go_simp; try with_reducible rfl)⟩ | exact Or.inr ⟨by rfl, rfl⟩) kS ?_; (try simp only [Act.put, List.setIfInBounds_toArray, List.set_cons_zero, List.set_cons_succ])); (refine takeL (i := 33) (v := _) rfl (by kernel_rfl) (by kernel_rfl) (by kernel_rfl) (fun _ _ _ h => h) (by first | exact Or.inl ⟨by rfl, (by intro u hSu; clear hSu; go_simp; try with_reducible rfl)⟩ | exact Or.inr ⟨by rfl, rfl⟩) kS ?_; (try simp only [Act.put, List.setIfInBounds_toArray, List.set_cons_zero, List.set_cons_succ])); (refine takeL (i := 34) (v := _) rfl (by kernel_rfl) (by kernel_rfl) (by kernel_rfl) (fun _ _ _ h => h) (by first | exact Or.inl ⟨by rfl, (by intro u hSu; clear hSu; go_simp; try with_reducible rfl)⟩ | exact Or.inr ⟨by rfl, rfl⟩) kS ?_; (try simp only [Act.put, List.setIfInBounds_toArray, List.set_cons_zero, List.set_cons_succ]))
  refine callL (i := 32) rfl (by kernel_rfl) (fun K hK => ?_)
  (rw [if_pos (by rfl)]; go_simp; (with_reducible refine (hH.out _).mono ?_); rintro e w7 ⟨rfl, rfl⟩; go_wp2_with fail; (refine hK.out _ _ (E.out.part _ _ (by repeat (first | exact List.Sublist.refl _ | apply List.Sublist.cons_cons | apply List.Sublist.cons)) (by simp)) (fun kS => ?_); clear hK K; (try simp only [Act.put, List.setIfInBounds_toArray, List.set_cons_zero, List.set_cons_succ])))
  refine callL (i := 35) rfl (by kernel_rfl) (fun K hK => ?_)
  (rw [if_pos (by rfl)]; go_simp; (with_reducible refine (hI.out _).mono ?_); rintro e w7 ⟨rfl, rfl⟩; go_wp2_with fail; (refine hK.out _ _ (E.out.part _ _ (by repeat (first | exact List.Sublist.refl _ | apply List.Sublist.cons_cons | apply List.Sublist.cons)) (by simp)) (fun kS => ?_); clear hK K; (try simp only [Act.put, List.setIfInBounds_toArray, List.set_cons_zero, List.set_cons_succ])))
  (refine takeL (i := 36) (v := _) rfl (by kernel_rfl) (by kernel_rfl) (by kernel_rfl) (fun _ _ _ h => h) (by first | exact Or.inl ⟨by rfl, (by intro u hSu; clear hSu; go_simp; try with_reducible rfl)⟩ | exact Or.inr ⟨by rfl, rfl⟩) kS ?_; (try simp only [Act.put, List.setIfInBounds_toArray, List.set_cons_zero, List.set_cons_succ])); (refine takeL (i := 37) (v := _) rfl (by kernel_rfl) (by kernel_rfl) (by kernel_rfl) (fun _ _ _ h => h) (by first | exact Or.inl ⟨by rfl, (by intro u hSu; clear hSu; go_simp; try with_reducible rfl)⟩ | exact Or.inr ⟨by rfl, rfl⟩) kS ?_; (try simp only [Act.put, List.setIfInBounds_toArray, List.set_cons_zero, List.set_cons_succ])); (refine takeL (i := 38) (v := _) rfl (by kernel_rfl) (by kernel_rfl) (by kernel_rfl) (fun _ _ _ h => h) (by first | exact Or.inl ⟨by rfl, (by intro u hSu; clear hSu; go_simp; try with_reducible rfl)⟩ | exact Or.inr ⟨by rfl, rfl⟩) kS ?_; (try simp only [Act.put, List.setIfInBounds_toArray, List.set_cons_zero, List.set_cons_succ]))
  refine wpAnyH_done (by kernel_rfl) ?_ _
  go_wp2_with fail
  go_ret
  exact ⟨rfl, E.out.bel⟩
theorem walk (w : World) (hN : Nums w) (A : Option Addr) (n c : Nat) (xs : List Nat) (hB : Bs w w.heap.size A n xs) (hc : n ≤ c) (hcm : c ≤ 9223372036854775807) (a : Int) (_ : -9223372036854775808 ≤ a ∧ a ≤ 9223372036854775807) (f : Bool) :
    Calls Tryd.prog 3 #[.slice A n c, .int .i64 a, .bool f] w fun e w' => e = .returned (.bool true) ∧ Below w.heap.size w w' := by
  by_cases h : n ≤ 40
  · exact walk_near w hN A n c xs hB a f h
  · exact walk_far w hN A n c xs (by omega) a f h

theorem laidOut : laidOutB Tryd.prog = true := by kernel_rfl
set_option maxRecDepth 100000 in
theorem contract (H : Type) (enc : TypeId × Value → H) (W : World) (base : Nat) (args : Array Value) (ds gs : List (DataW H)) (before : List MemPlace)
    (hval0 : ∀ (j : Nat) t v, Tryd.f3.params[j]? = some t → args[j]? = some v → Value.okWide Tryd.prog W .any base t v)
    (hW : DataW.Whole enc Tryd.prog Tryd.f3.params.toList Rows.etconeTellsSpec.vars false W args.toList ds gs before) (hL : laidMetH Tryd.prog Rows.etconeTellsRow.laid W) :
    Calls Tryd.prog 3 args W fun e W' => ∃ v, e = .returned v ∧ Rows.etconeTellsSpec.post enc Tryd.prog Tryd.f3 false true false false W args v W' := by
  have hval : ∀ (j : Nat) t v, Tryd.f3.params[j]? = some t → args[j]? = some v → Value.okWide Tryd.prog W .any base t v := hval0
  have hW' := hW
  obtain ⟨p, q, hA0, hV, rfl, hfz, hnd⟩ := hW
  have hA : DataW.TrodAll enc Tryd.prog W 0 (fun _ => true) true Tryd.f3.params.toList args.toList ds p := hA0
  rw [Tryd.params3] at hA hval
  obtain ⟨v0, vs0, d0, ds0, p0, q0, hargs, rfl, rfl, h0, r0⟩ := trodAll_cons hA
  obtain ⟨v1, vs1, d1, ds1, p1, q1, rfl, rfl, rfl, h1, r1⟩ := trodAll_cons r0
  obtain ⟨v2, vs2, d2, ds2, p2, q2, rfl, rfl, rfl, h2, r2⟩ := trodAll_cons r1
  obtain ⟨rfl, rfl, rfl⟩ := trodAll_nil r2
  obtain rfl : args = #[v0, v1, v2] := by cases args; simp_all
  have lt0 : ∀ x ∈ p0, x.block < W.heap.size := by obtain ⟨m, hm⟩ := h0; exact DataW.trod_lt m _ _ _ hm
  obtain ⟨rfl, rfl⟩ := trodVars_none hV
  obtain ⟨A0, n0, c0, xs0, rfl, hB0, hc0, hcm0⟩ := open_bytes Tryd.underlying22 Tryd.underlying5 (by kernel_rfl) (hval 0 22 v0 rfl rfl) h0
  obtain ⟨a1, rfl, rfl, rfl, w1⟩ := open_int Tryd.underlying3 (hval 1 3 v1 rfl rfl) h1
  have hm1 := bounds_i64 w1
  obtain ⟨a2, rfl, rfl, rfl⟩ := open_bool Tryd.underlying4 (hval 2 4 v2 rfl rfl) h2
  clear hA0 hval0
  refine (walk W (tabs hL) A0 n0 c0 xs0 hB0 hc0 hcm0 a1 hm1 a2).mono fun e W' ⟨he, bel⟩ => ?_
  subst he
  exact ⟨_, rfl, _, _, _, [], _, [], hW', trodAll_mk1 (shut_bool Tryd.underlying4 _), (trodAll_cons_mk (Below.trod laidOut (by kernel_rfl) (of_decide_eq_true (by kernel_rfl)) h0 bel lt0) (trodAll_cons_mk (shut_int Tryd.underlying3 w1) (trodAll_cons_mk (shut_bool Tryd.underlying4 _) trodAll_mk0))), rfl, bel.frame _, fun h => by cases h⟩

theorem reads (os : Os) {H : Type} (enc : TypeId × Value → H) : ∃ places, DataW.whole enc Tryd.prog ((laidWorld os).forCall (fun _ _ => 0) ⟨#[], #[.slice none 0 0, .int .i64 0, .bool false], []⟩).memory Tryd.f3.params.toList Rows.etconeTellsSpec.vars false (#[.slice none 0 0, .int .i64 0, .bool false] : Array Value).toList 8 = some ([.nil, .lit (.int .i64 0), .lit (.bool false)], [], places) :=
  ⟨[], by kernel_rfl⟩

set_option maxRecDepth 100000 in
theorem lifted (os : Os) (started : os.Started) (H : Type) (enc : TypeId × Value → H) (F : Stop.Interp) :
    ReturnsInHanded {} Tryd.checked os 3 .any ((OpenSpec.ofChange Rows.etconeTellsSpec).preRow enc Tryd.prog Tryd.f3 Rows.etconeTellsRow.domain false Rows.etconeTellsRow.laid) (((OpenSpec.ofChange Rows.etconeTellsSpec).at F).post enc Tryd.prog Tryd.f3 false true false false) := by
  obtain ⟨places, hx⟩ := reads os enc
  refine returnsInHanded_of_row (C := Tryd.checked) (s := OpenSpec.ofChange Rows.etconeTellsSpec) own started (by kernel_rfl) Tryd.func3
    (witness_row_at (enc := enc) (C := Tryd.checked) false (laidWorld os) #[.slice none 0 0, .int .i64 0, .bool false] rfl (by kernel_rfl) (by kernel_rfl) (by kernel_rfl)
      (OpenSpec.preRow_of_cond 8 hx (by kernel_rfl) (fun k hk => by cases hk) (by kernel_rfl) (laid_met os _))) ?_
  intro W base args ds gs before hval hW _ _ _ hL _ _
  exact contract H enc W base args ds gs before hval hW hL

theorem said : Rows.EtconeTellsSaid :=
  OpenClaim.holds_of_cond 3 Tryd.f3 rfl rfl rfl rfl rfl rfl rfl ⟨rfl, rfl, rfl, rfl, rfl⟩ rfl rfl rfl rfl rfl (by kernel_rfl) Tryd.func3 (by kernel_rfl)
    (of_decide_eq_true (by kernel_rfl)) (by unfold Func.isWrapper; first | (rw [if_pos (by decide +kernel)]; kernel_rfl) | (rw [if_neg (by decide +kernel)]; exact ⟨rfl, rfl⟩))
    (fun os started H enc _ F => by rw [OpenClaim.pre_eq_preRow]; exact lifted os started H enc F)

theorem plain (f : FuncId) (fn : Func) (hf : Tryd.pinned.checked.prog.funcNamed "swatch/swatchlaw10.EtconeTells" = some f) (hfn : Tryd.pinned.checked.prog.funcs[f]? = some fn) :
    false = Tryd.pinned.checked.prog.looks [] ∧ ∀ (j : Nat) t, fn.params[j]? = some t → Tryd.pinned.checked.prog.wantsStandIn t = false := by
  obtain rfl : f = 3 := Option.some.inj ((show Tryd.prog.funcNamed "swatch/swatchlaw10.EtconeTells" = some 3 by kernel_rfl).symm.trans hf) |>.symm
  obtain rfl : fn = Tryd.f3 := (Option.some.inj (Tryd.func3.symm.trans hfn)).symm
  refine ⟨by kernel_rfl, fun j t ht => ?_⟩
  rw [Tryd.params3] at ht
  have hm := Array.mem_of_getElem? ht
  simp only [List.mem_toArray, List.mem_cons, List.not_mem_nil, or_false] at hm
  rcases hm with rfl | rfl | rfl
  · exact (show Tryd.prog.wantsStandIn 22 = false by kernel_rfl)
  · exact (show Tryd.prog.wantsStandIn 3 = false by kernel_rfl)
  · exact (show Tryd.prog.wantsStandIn 4 = false by kernel_rfl)

theorem card : Rows.EtconeTellsCardSaid :=
  Claim7.holds_tied_plain_at .later [] _ _ _ _ said (fun _ h => by cases h) (by kernel_rfl) (fun _ h => by cases h) etconeTells_row_tie rfl ⟨rfl, rfl⟩ (by kernel_rfl) rfl plain (by kernel_rfl)
end Go.Proofs.YtjlkdmdepdoanaaDoor.etconeTells

namespace Go.Proofs.YtjlkdmdepdoanaaDoor
theorem etconeTells_holds : Rows.EtconeTellsCardSaid := etconeTells.card
#print axioms etconeTells_holds
end Go.Proofs.YtjlkdmdepdoanaaDoor
