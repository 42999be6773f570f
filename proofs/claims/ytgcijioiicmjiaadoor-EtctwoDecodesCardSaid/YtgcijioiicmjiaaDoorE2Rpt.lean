/- ETC2 blocks, the document's: the parts and the kind. -/
import Derived.Test.YtgcijioiicmjiaaDoorE2Rsm
import Derived.Test.YtgcijioiicmjiaaDoorE1Rpaint
import Derived.Test.YtgcijioiicmjiaaDoorE2Dec
set_option linter.all false
namespace Go.Proofs.YtgcijioiicmjiaaDoor
open Go.RowKit
open Bi Lv Eo Et

set_option maxHeartbeats 2000000 in
set_option maxRecDepth 100000 in
theorem parts11 (A : Option Addr) (c : Nat) (p : Bool) (xs : List Nat) (w : World) (h : Bs w w.heap.size A 8 xs) :
    Calls Tryd.prog 28 #[.slice A 8 c, .bool p] w fun e w' => e = .returned (.agg (blk (pD (pxs p xs)) (pF (pxs p xs)) (pZ (pxs p xs))).toArray) ∧ Below w.heap.size w w' := by
  have E := Lib.hid ((Kn.start w).arg_bs h)
  have hz24 := Lib.hid z24_length
  have hpl := pxs_length p xs
  rw [h.1] at hpl
  replace hpl := Lib.hid hpl
  have hZ := Lib.hid (pZ_length (pxs p xs))
  have hP := Lib.hid (fun A c u hu => rparts_ok A c (pxs p xs) u hu)
  cases p
  · rw [pxs_no] at hP hZ ⊢
    clear h hpl
    generalize pD xs = d at *
    generalize pF xs = f at *
    generalize pZ xs = Z at *
    go_enter Tryd.func28, Tryd.ntmps28
    go_wp2_with (first
      | (go_at_call 40; (with_reducible refine (hP.out _ _ _ ?ha).mono ?_); (case ha => exact E.out.bs (by simp)); rintro e w2 ⟨rfl, hb⟩; have E1 := Lib.hid (E.out.later hb); clear hb E; have E := E1; clear E1)
      | ((with_reducible refine kn_bputall (g := g5) E.out rfl rfl rfl rfl rfl ?h1 ?h2 ?_); (case h1 => exact hz24.out); (case h2 => exact hZ.out); clear E; intro u E0; have E := Lib.hid E0; clear E0)
      | ((with_reducible refine kn_ball (g := g5) E.out rfl rfl rfl ?h1 ?_); (case h1 => exact hZ.out))
      | ((with_reducible refine kn_bputall (g := g4) E.out rfl rfl rfl rfl rfl ?h1 ?h2 ?_); (case h1 => exact hz24.out); (case h2 => exact hZ.out); clear E; intro u E0; have E := Lib.hid E0; clear E0)
      | ((with_reducible refine kn_load E.out rfl rfl rfl rfl ?_)) | ((with_reducible refine kn_load_if E.out rfl rfl rfl rfl ?_)) | ((with_reducible refine kn_loads E.out rfl rfl rfl ?_ ?_); (focus (first | rfl | (simp only [i64s_length, u8s_length]; first | rfl | assumption | omega)))) | ((with_reducible refine kn_loads_if E.out rfl rfl rfl ?_ ?_); (focus (first | rfl | (simp only [i64s_length, u8s_length]; first | rfl | assumption | omega)))) | ((with_reducible refine kn_stores E.out rfl rfl rfl rfl rfl ?_ ?_ ?_); (focus (first | exact ⟨rfl, rfl⟩ | (simp only [i64s_length, u8s_length]; refine ⟨?_, ?_⟩ <;> first | rfl | assumption | omega))); (focus (first | exact i64s_one _ | exact u8s_one _ | simp [Value.oneCell'])); clear E; intro u E0; have E := Lib.hid E0; clear E0) | ((with_reducible refine kn_alloc (o := ⟨some 4, _, _, _, _, _⟩) E.out rfl rfl ?_); clear E; intro g4 u E0 hb0; have E := Lib.hid E0; clear E0 hb0) | ((with_reducible refine kn_box (o := ⟨some 4, _, _, _, _, _⟩) E.out rfl rfl rfl ?_); clear E; intro g4 u E0 hb0; have E := Lib.hid E0; clear E0 hb0) | ((with_reducible refine kn_box_int (o := ⟨some 4, _, _, _, _, _⟩) E.out rfl rfl rfl ?_); clear E; intro g4 u E0 hb0; have E := Lib.hid E0; clear E0 hb0) | ((with_reducible refine kn_box_slice (o := ⟨some 4, _, _, _, _, _⟩) E.out rfl rfl rfl ?_); clear E; intro g4 u E0 hb0; have E := Lib.hid E0; clear E0 hb0) | ((with_reducible refine kn_box_bool (o := ⟨some 4, _, _, _, _, _⟩) E.out rfl rfl rfl ?_); clear E; intro g4 u E0 hb0; have E := Lib.hid E0; clear E0 hb0) | ((with_reducible refine kn_box_func (o := ⟨some 4, _, _, _, _, _⟩) E.out rfl rfl rfl ?_); clear E; intro g4 u E0 hb0; have E := Lib.hid E0; clear E0 hb0) | ((with_reducible refine kn_alloc (o := ⟨some 5, _, _, _, _, _⟩) E.out rfl rfl ?_); clear E; intro g5 u E0 hb0; have E := Lib.hid E0; clear E0 hb0) | ((with_reducible refine kn_box (o := ⟨some 5, _, _, _, _, _⟩) E.out rfl rfl rfl ?_); clear E; intro g5 u E0 hb0; have E := Lib.hid E0; clear E0 hb0) | ((with_reducible refine kn_box_int (o := ⟨some 5, _, _, _, _, _⟩) E.out rfl rfl rfl ?_); clear E; intro g5 u E0 hb0; have E := Lib.hid E0; clear E0 hb0) | ((with_reducible refine kn_box_slice (o := ⟨some 5, _, _, _, _, _⟩) E.out rfl rfl rfl ?_); clear E; intro g5 u E0 hb0; have E := Lib.hid E0; clear E0 hb0) | ((with_reducible refine kn_box_bool (o := ⟨some 5, _, _, _, _, _⟩) E.out rfl rfl rfl ?_); clear E; intro g5 u E0 hb0; have E := Lib.hid E0; clear E0 hb0) | ((with_reducible refine kn_box_func (o := ⟨some 5, _, _, _, _, _⟩) E.out rfl rfl rfl ?_); clear E; intro g5 u E0 hb0; have E := Lib.hid E0; clear E0 hb0))
    refine bodyPost_ret (results_kn E.out rfl _ rfl (blk_length (by have := hZ.out; omega))) rfl ?_
    exact ⟨rfl, E.out.bel⟩
  · have hxl := h.1
    have hS := Lib.hid (fun u hu => show Calls Tryd.prog 61 #[.slice A 8 c, .int .i64 30, .int .i64 1, .bool true, .int .u64 1] u (Laid u (pxs true xs) 0) from by
      have k := rset_any A 8 c ((30 : Nat) : Int) ((1 : Nat) : Int) true 1 xs u hu (by omega) (by omega)
      have e0 : setE 8 ((30 : Nat) : Int) ((1 : Nat) : Int) 1 = 0 := by decide
      rw [e0, setV_ok hxl e0] at k
      exact k)
    clear hxl
    clear h
    generalize pxs true xs = ys at *
    generalize pD ys = d at *
    generalize pF ys = f at *
    generalize pZ ys = Z at *
    go_enter Tryd.func28, Tryd.ntmps28
    go_wp2_with (first
      | (go_at_call 61; ((with_reducible refine (hS.out _ ?ha).mono ?_); (case ha => exact E.out.bs (by simp)); clear hS; rintro e w1 ⟨A1, n1, c1, rfl, hB1, hn1, hc1, hb⟩; obtain rfl : n1 = 8 := hB1.1.symm.trans hpl.out; have E1 := Lib.hid (E.out.later hb); clear hb E; have E := E1; clear E1; have E1 := Lib.hid (E.out.new_bsi hB1); clear E hB1; have E := E1; clear E1))
      | (go_at_call 40; (with_reducible refine (hP.out _ _ _ ?ha).mono ?_); (case ha => exact E.out.bs (by simp)); rintro e w2 ⟨rfl, hb⟩; have E1 := Lib.hid (E.out.later hb); clear hb E; have E := E1; clear E1)
      | ((with_reducible refine kn_bputall (g := g5) E.out rfl rfl rfl rfl rfl ?h1 ?h2 ?_); (case h1 => exact hz24.out); (case h2 => exact hZ.out); clear E; intro u E0; have E := Lib.hid E0; clear E0)
      | ((with_reducible refine kn_ball (g := g5) E.out rfl rfl rfl ?h1 ?_); (case h1 => exact hZ.out))
      | ((with_reducible refine kn_bputall (g := g4) E.out rfl rfl rfl rfl rfl ?h1 ?h2 ?_); (case h1 => exact hz24.out); (case h2 => exact hZ.out); clear E; intro u E0; have E := Lib.hid E0; clear E0)
      | ((with_reducible refine kn_load E.out rfl rfl rfl rfl ?_)) | ((with_reducible refine kn_load_if E.out rfl rfl rfl rfl ?_)) | ((with_reducible refine kn_loads E.out rfl rfl rfl ?_ ?_); (focus (first | rfl | (simp only [i64s_length, u8s_length]; first | rfl | assumption | omega)))) | ((with_reducible refine kn_loads_if E.out rfl rfl rfl ?_ ?_); (focus (first | rfl | (simp only [i64s_length, u8s_length]; first | rfl | assumption | omega)))) | ((with_reducible refine kn_stores E.out rfl rfl rfl rfl rfl ?_ ?_ ?_); (focus (first | exact ⟨rfl, rfl⟩ | (simp only [i64s_length, u8s_length]; refine ⟨?_, ?_⟩ <;> first | rfl | assumption | omega))); (focus (first | exact i64s_one _ | exact u8s_one _ | simp [Value.oneCell'])); clear E; intro u E0; have E := Lib.hid E0; clear E0) | ((with_reducible refine kn_alloc (o := ⟨some 4, _, _, _, _, _⟩) E.out rfl rfl ?_); clear E; intro g4 u E0 hb0; have E := Lib.hid E0; clear E0 hb0) | ((with_reducible refine kn_box (o := ⟨some 4, _, _, _, _, _⟩) E.out rfl rfl rfl ?_); clear E; intro g4 u E0 hb0; have E := Lib.hid E0; clear E0 hb0) | ((with_reducible refine kn_box_int (o := ⟨some 4, _, _, _, _, _⟩) E.out rfl rfl rfl ?_); clear E; intro g4 u E0 hb0; have E := Lib.hid E0; clear E0 hb0) | ((with_reducible refine kn_box_slice (o := ⟨some 4, _, _, _, _, _⟩) E.out rfl rfl rfl ?_); clear E; intro g4 u E0 hb0; have E := Lib.hid E0; clear E0 hb0) | ((with_reducible refine kn_box_bool (o := ⟨some 4, _, _, _, _, _⟩) E.out rfl rfl rfl ?_); clear E; intro g4 u E0 hb0; have E := Lib.hid E0; clear E0 hb0) | ((with_reducible refine kn_box_func (o := ⟨some 4, _, _, _, _, _⟩) E.out rfl rfl rfl ?_); clear E; intro g4 u E0 hb0; have E := Lib.hid E0; clear E0 hb0) | ((with_reducible refine kn_alloc (o := ⟨some 5, _, _, _, _, _⟩) E.out rfl rfl ?_); clear E; intro g5 u E0 hb0; have E := Lib.hid E0; clear E0 hb0) | ((with_reducible refine kn_box (o := ⟨some 5, _, _, _, _, _⟩) E.out rfl rfl rfl ?_); clear E; intro g5 u E0 hb0; have E := Lib.hid E0; clear E0 hb0) | ((with_reducible refine kn_box_int (o := ⟨some 5, _, _, _, _, _⟩) E.out rfl rfl rfl ?_); clear E; intro g5 u E0 hb0; have E := Lib.hid E0; clear E0 hb0) | ((with_reducible refine kn_box_slice (o := ⟨some 5, _, _, _, _, _⟩) E.out rfl rfl rfl ?_); clear E; intro g5 u E0 hb0; have E := Lib.hid E0; clear E0 hb0) | ((with_reducible refine kn_box_bool (o := ⟨some 5, _, _, _, _, _⟩) E.out rfl rfl rfl ?_); clear E; intro g5 u E0 hb0; have E := Lib.hid E0; clear E0 hb0) | ((with_reducible refine kn_box_func (o := ⟨some 5, _, _, _, _, _⟩) E.out rfl rfl rfl ?_); clear E; intro g5 u E0 hb0; have E := Lib.hid E0; clear E0 hb0))
    refine bodyPost_ret (results_kn E.out rfl _ rfl (blk_length (by have := hZ.out; omega))) rfl ?_
    exact ⟨rfl, E.out.bel⟩
set_option maxHeartbeats 2000000 in
set_option maxRecDepth 100000 in
theorem kind11 (A : Option Addr) (n c : Nat) (p : Bool) (xs : List Nat) (w : World) (h : Bs w w.heap.size A n xs) (hm : n ≤ 9223372036854775807) :
    Calls Tryd.prog 11 #[.slice A n c, .bool p] w fun e w' => e = .returned (.int .i64 (kdV n p xs)) ∧ Below w.heap.size w w' := by
  unfold kdV
  by_cases h8 : n = 8
  · subst h8
    rw [if_pos rfl]
    unfold kdN
    have E := Lib.hid ((Kn.start w).arg_bs h)
    have hP := Lib.hid (fun u hu => parts11 A c p xs u hu)
    have hB := Lib.hid (fun u => rbases_any (pD (pxs p xs)) (pF (pxs p xs)) (pZ (pxs p xs)) u (pZ_length _) (ok_parts _))
    have hbl := Lib.hid (baV_length (pD (pxs p xs)) (pZ (pxs p xs)))
    have hf4 : farP (pD (pxs p xs)) (pZ (pxs p xs)) 3 ≤ 3 := by
      have := kdN_le p xs
      unfold kdN at this
      split at this <;> omega
    clear h hm
    generalize pxs p xs = ys at *
    generalize farP (pD ys) (pZ ys) 3 = far at *
    generalize baV (pD ys) (pZ ys) = BA at *
    generalize pD ys = d at *
    generalize pF ys = f at *
    generalize pZ ys = Z at *
    by_cases hf : far = 3
    · subst hf
      rw [if_pos rfl]
      go_enter Tryd.func11, Tryd.ntmps11
      go_wp2_with (first
        | (go_at_call 28; (with_reducible refine (hP.out _ ?ha).mono ?_); (case ha => exact E.out.bs (by simp)); rintro e w2 ⟨rfl, hb⟩; have E1 := Lib.hid (E.out.later hb); clear hb E; have E := E1; clear E1)
        | (go_at_call 30; (with_reducible refine (hB.out _).mono ?_); rintro e w2 ⟨rfl, hb⟩; have E1 := Lib.hid (E.out.later hb); clear hb E; have E := E1; clear E1)
        | ((with_reducible refine kn_stores (g := g5) (vs := i64s BA) E.out rfl rfl rfl rfl rfl ?hl ?h1 ?_); (case hl => exact ⟨rfl, by rw [i64s_length]; exact hbl.out⟩); (case h1 => exact i64s_one _); clear E; intro u E0; have E := Lib.hid E0; clear E0)
        | ((with_reducible refine kn_load E.out rfl rfl rfl rfl ?_)) | ((with_reducible refine kn_load_if E.out rfl rfl rfl rfl ?_)) | ((with_reducible refine kn_loads E.out rfl rfl rfl ?_ ?_); (focus (first | rfl | (simp only [i64s_length, u8s_length]; first | rfl | assumption | omega)))) | ((with_reducible refine kn_loads_if E.out rfl rfl rfl ?_ ?_); (focus (first | rfl | (simp only [i64s_length, u8s_length]; first | rfl | assumption | omega)))) | ((with_reducible refine kn_stores E.out rfl rfl rfl rfl rfl ?_ ?_ ?_); (focus (first | exact ⟨rfl, rfl⟩ | (simp only [i64s_length, u8s_length]; refine ⟨?_, ?_⟩ <;> first | rfl | assumption | omega))); (focus (first | exact i64s_one _ | exact u8s_one _ | simp [Value.oneCell'])); clear E; intro u E0; have E := Lib.hid E0; clear E0) | ((with_reducible refine kn_alloc (o := ⟨some 5, _, _, _, _, _⟩) E.out rfl rfl ?_); clear E; intro g5 u E0 hb0; have E := Lib.hid E0; clear E0 hb0) | ((with_reducible refine kn_box (o := ⟨some 5, _, _, _, _, _⟩) E.out rfl rfl rfl ?_); clear E; intro g5 u E0 hb0; have E := Lib.hid E0; clear E0 hb0) | ((with_reducible refine kn_box_int (o := ⟨some 5, _, _, _, _, _⟩) E.out rfl rfl rfl ?_); clear E; intro g5 u E0 hb0; have E := Lib.hid E0; clear E0 hb0) | ((with_reducible refine kn_box_slice (o := ⟨some 5, _, _, _, _, _⟩) E.out rfl rfl rfl ?_); clear E; intro g5 u E0 hb0; have E := Lib.hid E0; clear E0 hb0) | ((with_reducible refine kn_box_bool (o := ⟨some 5, _, _, _, _, _⟩) E.out rfl rfl rfl ?_); clear E; intro g5 u E0 hb0; have E := Lib.hid E0; clear E0 hb0) | ((with_reducible refine kn_box_func (o := ⟨some 5, _, _, _, _, _⟩) E.out rfl rfl rfl ?_); clear E; intro g5 u E0 hb0; have E := Lib.hid E0; clear E0 hb0))
      go_ret
      exact ⟨rfl, E.out.bel⟩
    · rw [if_neg hf]
      have hfb : ((far : Int) == 3) = false := by simp; omega
      have hfn : ¬ ((far : Int) = 3) := by omega
      go_enter Tryd.func11, Tryd.ntmps11
      go_wp2_with (first
        | (go_at_call 28; (with_reducible refine (hP.out _ ?ha).mono ?_); (case ha => exact E.out.bs (by simp)); rintro e w2 ⟨rfl, hb⟩; have E1 := Lib.hid (E.out.later hb); clear hb E; have E := E1; clear E1)
        | (go_at_call 30; (with_reducible refine (hB.out _).mono ?_); rintro e w2 ⟨rfl, hb⟩; have E1 := Lib.hid (E.out.later hb); clear hb E; have E := E1; clear E1)
        | ((with_reducible refine kn_stores (g := g5) (vs := i64s BA) E.out rfl rfl rfl rfl rfl ?hl ?h1 ?_); (case hl => exact ⟨rfl, by rw [i64s_length]; exact hbl.out⟩); (case h1 => exact i64s_one _); clear E; intro u E0; have E := Lib.hid E0; clear E0)
        | ((with_reducible refine kn_load E.out rfl rfl rfl rfl ?_)) | ((with_reducible refine kn_load_if E.out rfl rfl rfl rfl ?_)) | ((with_reducible refine kn_loads E.out rfl rfl rfl ?_ ?_); (focus (first | rfl | (simp only [i64s_length, u8s_length]; first | rfl | assumption | omega)))) | ((with_reducible refine kn_loads_if E.out rfl rfl rfl ?_ ?_); (focus (first | rfl | (simp only [i64s_length, u8s_length]; first | rfl | assumption | omega)))) | ((with_reducible refine kn_stores E.out rfl rfl rfl rfl rfl ?_ ?_ ?_); (focus (first | exact ⟨rfl, rfl⟩ | (simp only [i64s_length, u8s_length]; refine ⟨?_, ?_⟩ <;> first | rfl | assumption | omega))); (focus (first | exact i64s_one _ | exact u8s_one _ | simp [Value.oneCell'])); clear E; intro u E0; have E := Lib.hid E0; clear E0) | ((with_reducible refine kn_alloc (o := ⟨some 5, _, _, _, _, _⟩) E.out rfl rfl ?_); clear E; intro g5 u E0 hb0; have E := Lib.hid E0; clear E0 hb0) | ((with_reducible refine kn_box (o := ⟨some 5, _, _, _, _, _⟩) E.out rfl rfl rfl ?_); clear E; intro g5 u E0 hb0; have E := Lib.hid E0; clear E0 hb0) | ((with_reducible refine kn_box_int (o := ⟨some 5, _, _, _, _, _⟩) E.out rfl rfl rfl ?_); clear E; intro g5 u E0 hb0; have E := Lib.hid E0; clear E0 hb0) | ((with_reducible refine kn_box_slice (o := ⟨some 5, _, _, _, _, _⟩) E.out rfl rfl rfl ?_); clear E; intro g5 u E0 hb0; have E := Lib.hid E0; clear E0 hb0) | ((with_reducible refine kn_box_bool (o := ⟨some 5, _, _, _, _, _⟩) E.out rfl rfl rfl ?_); clear E; intro g5 u E0 hb0; have E := Lib.hid E0; clear E0 hb0) | ((with_reducible refine kn_box_func (o := ⟨some 5, _, _, _, _, _⟩) E.out rfl rfl rfl ?_); clear E; intro g5 u E0 hb0; have E := Lib.hid E0; clear E0 hb0))
      go_ret
      refine ⟨?_, E.out.bel⟩
      first | rfl | (congr 3) | simp
  · rw [if_neg h8]
    have E := Lib.hid (Kn.start w)
    have hn8 : ¬ ((n : Int) = 8) := by omega
    clear h h8
    go_enter Tryd.func11, Tryd.ntmps11
    go_wp2_with (first | ((with_reducible refine kn_load E.out rfl rfl rfl rfl ?_)) | ((with_reducible refine kn_load_if E.out rfl rfl rfl rfl ?_)) | ((with_reducible refine kn_loads E.out rfl rfl rfl ?_ ?_); (focus (first | rfl | (simp only [i64s_length, u8s_length]; first | rfl | assumption | omega)))) | ((with_reducible refine kn_loads_if E.out rfl rfl rfl ?_ ?_); (focus (first | rfl | (simp only [i64s_length, u8s_length]; first | rfl | assumption | omega)))) | ((with_reducible refine kn_stores E.out rfl rfl rfl rfl rfl ?_ ?_ ?_); (focus (first | exact ⟨rfl, rfl⟩ | (simp only [i64s_length, u8s_length]; refine ⟨?_, ?_⟩ <;> first | rfl | assumption | omega))); (focus (first | exact i64s_one _ | exact u8s_one _ | simp [Value.oneCell'])); clear E; intro u E0; have E := Lib.hid E0; clear E0))
    go_ret
    exact ⟨rfl, E.out.bel⟩
end Go.Proofs.YtgcijioiicmjiaaDoor
