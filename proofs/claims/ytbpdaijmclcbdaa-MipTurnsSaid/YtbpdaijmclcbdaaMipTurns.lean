/- MipTurns: the half of an image, columns as rows, is its half, columns as rows; an image of one colour keeps it down to 1 by 1. -/
import Derived.Test.YtbpdaijmclcbdaaRows
import Derived.Test.YtbpdaijmclcbdaaMpAwake
import Derived.Test.YtbpdaijmclcbdaaMpLast
import Derived.Test.YtbpdaijmclcbdaaImEq
import Derived.Test.YtbpdaijmclcbdaaOpenIm
import Derived.Test.YtbpdaijmclcbdaaOpenArr
namespace Go.Proofs.Ytbpdaijmclcbdaa.mipTurns
open Go.ChangeShapes Go.WideShapes Go.ChangeAt Go.RowKit
open Im Mp

set_option maxHeartbeats 1000000 in
set_option maxRecDepth 100000 in
theorem dark (W H : Int) (A : Option Addr) (n c : Nat) (t : List Int) (w : World) (hn : n ≤ 9223372036854775807) (ht : t.length = 4) (hd : lightB W H n = false ∨ (lightB W H n = true ∧ ¬ rightP W H n)) :
    Calls Try.prog 7 #[img W H A n c, arr t] w fun e w' => e = .returned (.bool true) ∧ Below w.heap.size w w' := by
  have E := Lib.hid (Kn.start w)
  have hA := Lib.hid mawake_any
  have h1 := Lib.hid (fun u => light_any W H A n c u hn)
  have h2 := Lib.hid (fun u => right_any W H A n c u hn)
  rcases hd with hd | ⟨hd, hr⟩
  · rw [hd] at h1
    clear hd
    go_enter Try.func7, Try.ntmps7
    go_wp2_with (first
    | (go_at_call 22; refine (hA.out _).mono ?_; rintro e w1 ⟨rfl, hb⟩; have E1 := Lib.hid (E.out.later hb); clear hb E; have E := E1; clear E1)
    | (go_at_call 9; refine (h1.out _).mono ?_; rintro e w2 ⟨rfl, hb⟩; have E1 := Lib.hid (E.out.later hb); clear hb E; have E := E1; clear E1)
    | ((with_reducible refine kn_load E.out rfl rfl rfl rfl ?_)) | ((with_reducible refine kn_load_if E.out rfl rfl rfl rfl ?_)) | ((with_reducible refine kn_loads E.out rfl rfl rfl ?_ ?_); (focus (first | rfl | (simp only [i64s_length, u8s_length]; first | rfl | assumption | omega)))) | ((with_reducible refine kn_loads_if E.out rfl rfl rfl ?_ ?_); (focus (first | rfl | (simp only [i64s_length, u8s_length]; first | rfl | assumption | omega)))) | ((with_reducible refine kn_store1_int E.out rfl rfl rfl rfl rfl ?_); clear E; intro u E0; have E := Lib.hid E0; clear E0) | ((with_reducible refine kn_store1_slice E.out rfl rfl rfl rfl rfl ?_); clear E; intro u E0; have E := Lib.hid E0; clear E0) | ((with_reducible refine kn_store1_bool E.out rfl rfl rfl rfl rfl ?_); clear E; intro u E0; have E := Lib.hid E0; clear E0) | ((with_reducible refine kn_stores E.out rfl rfl rfl rfl rfl ?_ ?_ ?_); (focus (first | exact ⟨rfl, rfl⟩ | (simp only [i64s_length, u8s_length]; refine ⟨?_, ?_⟩ <;> first | rfl | assumption | omega))); (focus (first | exact i64s_one _ | exact u8s_one _ | simp [Value.oneCell'])); clear E; intro u E0; have E := Lib.hid E0; clear E0) | ((with_reducible refine kn_alloc E.out rfl rfl ?_); clear E; intro g u E0 hb0; have E := Lib.hid E0; clear E0 hb0) | ((with_reducible refine kn_box E.out rfl rfl rfl ?_); clear E; intro g u E0 hb0; have E := Lib.hid E0; clear E0 hb0) | ((with_reducible refine kn_box_int E.out rfl rfl rfl ?_); clear E; intro g u E0 hb0; have E := Lib.hid E0; clear E0 hb0) | ((with_reducible refine kn_box_slice E.out rfl rfl rfl ?_); clear E; intro g u E0 hb0; have E := Lib.hid E0; clear E0 hb0) | ((with_reducible refine kn_box_bool E.out rfl rfl rfl ?_); clear E; intro g u E0 hb0; have E := Lib.hid E0; clear E0 hb0) | ((with_reducible refine kn_box_func E.out rfl rfl rfl ?_); clear E; intro g u E0 hb0; have E := Lib.hid E0; clear E0 hb0))
    go_ret
    exact ⟨rfl, E.out.bel⟩
  · rw [hd] at h1
    rw [decide_eq_false hr] at h2
    clear hd hr
    go_enter Try.func7, Try.ntmps7
    go_wp2_with (first
    | (go_at_call 22; refine (hA.out _).mono ?_; rintro e w1 ⟨rfl, hb⟩; have E1 := Lib.hid (E.out.later hb); clear hb E; have E := E1; clear E1)
    | (go_at_call 9; refine (h1.out _).mono ?_; rintro e w2 ⟨rfl, hb⟩; have E1 := Lib.hid (E.out.later hb); clear hb E; have E := E1; clear E1)
    | (go_at_call 20; refine (h2.out _).mono ?_; rintro e w3 ⟨rfl, hb⟩; have E1 := Lib.hid (E.out.later hb); clear hb E; have E := E1; clear E1)
    | ((with_reducible refine kn_load E.out rfl rfl rfl rfl ?_)) | ((with_reducible refine kn_load_if E.out rfl rfl rfl rfl ?_)) | ((with_reducible refine kn_loads E.out rfl rfl rfl ?_ ?_); (focus (first | rfl | (simp only [i64s_length, u8s_length]; first | rfl | assumption | omega)))) | ((with_reducible refine kn_loads_if E.out rfl rfl rfl ?_ ?_); (focus (first | rfl | (simp only [i64s_length, u8s_length]; first | rfl | assumption | omega)))) | ((with_reducible refine kn_store1_int E.out rfl rfl rfl rfl rfl ?_); clear E; intro u E0; have E := Lib.hid E0; clear E0) | ((with_reducible refine kn_store1_slice E.out rfl rfl rfl rfl rfl ?_); clear E; intro u E0; have E := Lib.hid E0; clear E0) | ((with_reducible refine kn_store1_bool E.out rfl rfl rfl rfl rfl ?_); clear E; intro u E0; have E := Lib.hid E0; clear E0) | ((with_reducible refine kn_stores E.out rfl rfl rfl rfl rfl ?_ ?_ ?_); (focus (first | exact ⟨rfl, rfl⟩ | (simp only [i64s_length, u8s_length]; refine ⟨?_, ?_⟩ <;> first | rfl | assumption | omega))); (focus (first | exact i64s_one _ | exact u8s_one _ | simp [Value.oneCell'])); clear E; intro u E0; have E := Lib.hid E0; clear E0) | ((with_reducible refine kn_alloc E.out rfl rfl ?_); clear E; intro g u E0 hb0; have E := Lib.hid E0; clear E0 hb0) | ((with_reducible refine kn_box E.out rfl rfl rfl ?_); clear E; intro g u E0 hb0; have E := Lib.hid E0; clear E0 hb0) | ((with_reducible refine kn_box_int E.out rfl rfl rfl ?_); clear E; intro g u E0 hb0; have E := Lib.hid E0; clear E0 hb0) | ((with_reducible refine kn_box_slice E.out rfl rfl rfl ?_); clear E; intro g u E0 hb0; have E := Lib.hid E0; clear E0 hb0) | ((with_reducible refine kn_box_bool E.out rfl rfl rfl ?_); clear E; intro g u E0 hb0; have E := Lib.hid E0; clear E0 hb0) | ((with_reducible refine kn_box_func E.out rfl rfl rfl ?_); clear E; intro g u E0 hb0; have E := Lib.hid E0; clear E0 hb0))
    go_ret
    exact ⟨rfl, E.out.bel⟩

set_option maxHeartbeats 8000000 in
set_option maxRecDepth 100000 in
theorem lit (d a : Nat) (A : Option Addr) (n c : Nat) (xs : List Nat) (t : List Int) (w : World) (hB : Bs w w.heap.size A n xs) (ht : t.length = 4) (hl : lightB (d : Int) (a : Int) n = true) (hr : rightP (d : Int) (a : Int) n) :
    Calls Try.prog 7 #[img (d : Int) (a : Int) A n c, arr t] w fun e w' => e = .returned (.bool true) ∧ Below w.heap.size w w' := by
  have hn := lightB_le hl
  have hs := hr.1
  unfold szP at hs
  obtain ⟨s1, s2, s3, s4⟩ := hs
  have hxl : rightP (d : Int) (a : Int) xs.length := by rw [hB.1]; exact hr
  have hn4 : n = 4 * (a * d) := by
    have h := hr.2
    have e : (4 * (d : Int) * (a : Int)) = ((4 * (a * d) : Nat) : Int) := by rw [Nat.mul_comm a d]; simp [Int.mul_assoc]
    omega
  have E := Lib.hid ((Kn.start w).arg_img (show Img w (img (d : Int) (a : Int) A n c) (d : Int) (a : Int) xs from ⟨A, n, c, rfl, by omega, hB⟩))
  have hA := Lib.hid mawake_any
  have h1 := Lib.hid (fun u => light_any (d : Int) (a : Int) A n c u (by omega))
  have h2 := Lib.hid (fun u => right_any (d : Int) (a : Int) A n c u (by omega))
  rw [hl] at h1
  rw [decide_eq_true hr] at h2
  obtain ⟨d', hd'⟩ : ∃ k : Nat, hv (d : Int) = (k : Int) := ⟨(hv (d : Int)).toNat, by have := hv_pos (d : Int); omega⟩
  obtain ⟨a', ha'⟩ : ∃ k : Nat, hv (a : Int) = (k : Int) := ⟨(hv (a : Int)).toNat, by have := hv_pos (a : Int); omega⟩
  have hxt := tu_right hr xs
  have hft := hf_tu d a xs hr.1
  have hhr := hf_right hr xs
  rw [hd', ha'] at hft hhr
  have h3 := Lib.hid (fun (u : World) (h : Img u (img (d : Int) (a : Int) A n c) (d : Int) (a : Int) xs) => mhalf_any _ (d : Int) (a : Int) xs u h)
  simp only [show ∀ z, putW (rightP (d : Int) (a : Int) xs.length) z = z from fun z => if_pos hxl, show ∀ z, putX (rightP (d : Int) (a : Int) xs.length) z = z from fun z => if_pos hxl, show noE (rightP (d : Int) (a : Int) xs.length) = 0 from if_pos hxl, hd', ha'] at h3
  have h4 := Lib.hid (fun (u : World) (v : Value) (h : Img u v (a : Int) (d : Int) (tu (d : Int) (a : Int) xs)) => mhalf_any v (a : Int) (d : Int) (tu (d : Int) (a : Int) xs) u h)
  simp only [show ∀ z, putW (rightP (a : Int) (d : Int) (tu (d : Int) (a : Int) xs).length) z = z from fun z => if_pos hxt, show ∀ z, putX (rightP (a : Int) (d : Int) (tu (d : Int) (a : Int) xs).length) z = z from fun z => if_pos hxt, show noE (rightP (a : Int) (d : Int) (tu (d : Int) (a : Int) xs).length) = 0 from if_pos hxt, hd', ha', hft] at h4
  have h5 := Lib.hid (fun (u : World) (h : Img u (img (d : Int) (a : Int) A n c) (d : Int) (a : Int) xs) => turned_any _ d a xs u hxl h)
  have h6 := Lib.hid (fun (u : World) (v : Value) (h : Img u v (d' : Int) (a' : Int) (hf (d : Int) (a : Int) xs)) => turned_any v d' a' _ u hhr h)
  have h7 := Lib.hid (fun (u : World) (v v' : Value) (W H : Int) (xs : List Nat) (h : Img u v W H xs) (h' : Img u v' W H xs) => rsame_any v v' W H W H xs xs u h h')
  simp only [show ∀ W H xs, decide (sameP W H W H xs xs) = true from fun W H xs => by simp [sameP]] at h7
  have h8 := Lib.hid (fun u => new_ok (d : Int) (a : Int) n u hr)
  have HP := Lib.hid (fun (k q : Nat) (hk : k < a) (hq : q < d) (ys : List Nat) (hy : ys.length = n) (v : Value) (u : World) (h : Img u v (d : Int) (a : Int) ys) => put_any v (d : Int) (a : Int) ys (q : Int) (k : Int) t u h ht)
  have HPA := Lib.hid (fun (k q : Nat) (hk : k < a) (hq : q < d) (ys : List Nat) (hy : ys.length = n) => show atP (d : Int) (a : Int) ys (q : Int) (k : Int) from ⟨by rw [hy]; exact hr, by omega, by omega, by omega, by omega⟩)
  have hRn := Lib.hid (fun (ys : List Nat) (hy : ys.length = n) => show rightP (d : Int) (a : Int) ys.length from by rw [hy]; exact hr)
  have HN4 := Lib.hid hn4
  clear hn4 hl hr hB hxl hxt hft hhr hd' ha'
  generalize tu (d' : Int) (a' : Int) (hf (d : Int) (a : Int) xs) = tx at *
  generalize hf (d : Int) (a : Int) xs = hx at *
  generalize tu (d : Int) (a : Int) xs = ux at *
  go_enter Try.func7, Try.ntmps7
  go_upto_region 9 with (first
    | (go_at_call 22; refine (hA.out _).mono ?_; rintro e w1 ⟨rfl, hb⟩; have E1 := Lib.hid (((E.out.later hb).rest g3).rest1); clear hb E; have E := E1; clear E1)
    | (go_at_call 9; refine (h1.out _).mono ?_; rintro e w2 ⟨rfl, hb⟩; have E1 := Lib.hid (E.out.later hb); clear hb E; have E := E1; clear E1)
    | (go_at_call 20; refine (h2.out _).mono ?_; rintro e w3 ⟨rfl, hb⟩; have E1 := Lib.hid (E.out.later hb); clear hb E; have E := E1; clear E1)
    | (go_at_call 23; first
        | ((with_reducible refine (h3.out _ (E.out.img (v := img (d : Int) (a : Int) A n c))).mono ?_); rintro e w4 ⟨v4, rfl, hI, hb⟩; obtain ⟨A4, n4, c4, rfl, hn4', hB4, _⟩ := hI; have E1 := Lib.hid ((E.out.later hb).new_img (show Img w4 (img (d' : Int) (a' : Int) A4 n4 c4) (d' : Int) (a' : Int) hx from ⟨A4, n4, c4, rfl, hn4', hB4⟩)); clear hb hn4' hB4 E; have E := E1; clear E1)
        | ((with_reducible refine (h4.out _ (img (a : Int) (d : Int) A5 n5 c5) E.out.img).mono ?_); rintro e w6 ⟨v6, rfl, hI, hb⟩; obtain ⟨A6, n6, c6, rfl, hn6, hB6, _⟩ := hI; have E1 := Lib.hid ((E.out.later hb).new_img (show Img w6 (img (a' : Int) (d' : Int) A6 n6 c6) (a' : Int) (d' : Int) tx from ⟨A6, n6, c6, rfl, hn6, hB6⟩)); clear hb hn6 hB6 E; have E := E1; clear E1))
    | (go_at_call 32; (with_reducible refine (h5.out _ (E.out.img (v := img (d : Int) (a : Int) A n c))).mono ?_); rintro e w5 ⟨v5, rfl, hI, hb⟩; obtain ⟨A5, n5, c5, rfl, hn5, hB5⟩ := hI; have E1 := Lib.hid ((E.out.later hb).new_img (show Img w5 (img (a : Int) (d : Int) A5 n5 c5) (a : Int) (d : Int) ux from ⟨A5, n5, c5, rfl, hn5, hB5⟩)); clear hb hn5 hB5 E; have E := E1; clear E1)
    | ((with_reducible refine kn_load E.out rfl rfl rfl rfl ?_)) | ((with_reducible refine kn_load_if E.out rfl rfl rfl rfl ?_)) | ((with_reducible refine kn_loads E.out rfl rfl rfl ?_ ?_); (focus (first | rfl | (simp only [i64s_length, u8s_length]; first | rfl | assumption | omega)))) | ((with_reducible refine kn_loads_if E.out rfl rfl rfl ?_ ?_); (focus (first | rfl | (simp only [i64s_length, u8s_length]; first | rfl | assumption | omega)))) | ((with_reducible refine kn_store1_int E.out rfl rfl rfl rfl rfl ?_); clear E; intro u E0; have E := Lib.hid (Kn.rest1 E0); clear E0) | ((with_reducible refine kn_store1_slice E.out rfl rfl rfl rfl rfl ?_); clear E; intro u E0; have E := Lib.hid (Kn.rest1 E0); clear E0) | ((with_reducible refine kn_store1_bool E.out rfl rfl rfl rfl rfl ?_); clear E; intro u E0; have E := Lib.hid (Kn.rest1 E0); clear E0) | ((with_reducible refine kn_stores E.out rfl rfl rfl rfl rfl ?_ ?_ ?_); (focus (first | exact ⟨rfl, rfl⟩ | (simp only [i64s_length, u8s_length]; refine ⟨?_, ?_⟩ <;> first | rfl | assumption | omega))); (focus (first | exact i64s_one _ | exact u8s_one _ | simp [Value.oneCell'])); clear E; intro u E0; have E := Lib.hid (Kn.rest1 E0); clear E0) | ((with_reducible refine kn_alloc (o := ⟨some 2, _, _, _, _, _⟩) E.out rfl rfl ?_); clear E; intro g2 u E0 hb0; have E := Lib.hid E0; clear E0 hb0) | ((with_reducible refine kn_box (o := ⟨some 2, _, _, _, _, _⟩) E.out rfl rfl rfl ?_); clear E; intro g2 u E0 hb0; have E := Lib.hid E0; clear E0 hb0) | ((with_reducible refine kn_box_int (o := ⟨some 2, _, _, _, _, _⟩) E.out rfl rfl rfl ?_); clear E; intro g2 u E0 hb0; have E := Lib.hid E0; clear E0 hb0) | ((with_reducible refine kn_box_slice (o := ⟨some 2, _, _, _, _, _⟩) E.out rfl rfl rfl ?_); clear E; intro g2 u E0 hb0; have E := Lib.hid E0; clear E0 hb0) | ((with_reducible refine kn_box_bool (o := ⟨some 2, _, _, _, _, _⟩) E.out rfl rfl rfl ?_); clear E; intro g2 u E0 hb0; have E := Lib.hid E0; clear E0 hb0) | ((with_reducible refine kn_box_func (o := ⟨some 2, _, _, _, _, _⟩) E.out rfl rfl rfl ?_); clear E; intro g2 u E0 hb0; have E := Lib.hid E0; clear E0 hb0) | ((with_reducible refine kn_alloc (o := ⟨some 3, _, _, _, _, _⟩) E.out rfl rfl ?_); clear E; intro g3 u E0 hb0; have E := Lib.hid E0; clear E0 hb0) | ((with_reducible refine kn_box (o := ⟨some 3, _, _, _, _, _⟩) E.out rfl rfl rfl ?_); clear E; intro g3 u E0 hb0; have E := Lib.hid E0; clear E0 hb0) | ((with_reducible refine kn_box_int (o := ⟨some 3, _, _, _, _, _⟩) E.out rfl rfl rfl ?_); clear E; intro g3 u E0 hb0; have E := Lib.hid E0; clear E0 hb0) | ((with_reducible refine kn_box_slice (o := ⟨some 3, _, _, _, _, _⟩) E.out rfl rfl rfl ?_); clear E; intro g3 u E0 hb0; have E := Lib.hid E0; clear E0 hb0) | ((with_reducible refine kn_box_bool (o := ⟨some 3, _, _, _, _, _⟩) E.out rfl rfl rfl ?_); clear E; intro g3 u E0 hb0; have E := Lib.hid E0; clear E0 hb0) | ((with_reducible refine kn_box_func (o := ⟨some 3, _, _, _, _, _⟩) E.out rfl rfl rfl ?_); clear E; intro g3 u E0 hb0; have E := Lib.hid E0; clear E0 hb0) | ((with_reducible refine kn_alloc (o := ⟨some 7, _, _, _, _, _⟩) E.out rfl rfl ?_); clear E; intro g7 u E0 hb0; have E := Lib.hid E0; clear E0 hb0) | ((with_reducible refine kn_box (o := ⟨some 7, _, _, _, _, _⟩) E.out rfl rfl rfl ?_); clear E; intro g7 u E0 hb0; have E := Lib.hid E0; clear E0 hb0) | ((with_reducible refine kn_box_int (o := ⟨some 7, _, _, _, _, _⟩) E.out rfl rfl rfl ?_); clear E; intro g7 u E0 hb0; have E := Lib.hid E0; clear E0 hb0) | ((with_reducible refine kn_box_slice (o := ⟨some 7, _, _, _, _, _⟩) E.out rfl rfl rfl ?_); clear E; intro g7 u E0 hb0; have E := Lib.hid E0; clear E0 hb0) | ((with_reducible refine kn_box_bool (o := ⟨some 7, _, _, _, _, _⟩) E.out rfl rfl rfl ?_); clear E; intro g7 u E0 hb0; have E := Lib.hid E0; clear E0 hb0) | ((with_reducible refine kn_box_func (o := ⟨some 7, _, _, _, _, _⟩) E.out rfl rfl rfl ?_); clear E; intro g7 u E0 hb0; have E := Lib.hid E0; clear E0 hb0) | ((with_reducible refine kn_alloc (o := ⟨some 9, _, _, _, _, _⟩) E.out rfl rfl ?_); clear E; intro g9 u E0 hb0; have E := Lib.hid E0; clear E0 hb0) | ((with_reducible refine kn_box (o := ⟨some 9, _, _, _, _, _⟩) E.out rfl rfl rfl ?_); clear E; intro g9 u E0 hb0; have E := Lib.hid E0; clear E0 hb0) | ((with_reducible refine kn_box_int (o := ⟨some 9, _, _, _, _, _⟩) E.out rfl rfl rfl ?_); clear E; intro g9 u E0 hb0; have E := Lib.hid E0; clear E0 hb0) | ((with_reducible refine kn_box_slice (o := ⟨some 9, _, _, _, _, _⟩) E.out rfl rfl rfl ?_); clear E; intro g9 u E0 hb0; have E := Lib.hid E0; clear E0 hb0) | ((with_reducible refine kn_box_bool (o := ⟨some 9, _, _, _, _, _⟩) E.out rfl rfl rfl ?_); clear E; intro g9 u E0 hb0; have E := Lib.hid E0; clear E0 hb0) | ((with_reducible refine kn_box_func (o := ⟨some 9, _, _, _, _, _⟩) E.out rfl rfl rfl ?_); clear E; intro g9 u E0 hb0; have E := Lib.hid E0; clear E0 hb0) | ((with_reducible refine kn_alloc E.out rfl rfl ?_); clear E; intro g u E0 hb0; have E := Lib.hid E0; clear E0 hb0) | ((with_reducible refine kn_box E.out rfl rfl rfl ?_); clear E; intro g u E0 hb0; have E := Lib.hid E0; clear E0 hb0) | ((with_reducible refine kn_box_int E.out rfl rfl rfl ?_); clear E; intro g u E0 hb0; have E := Lib.hid E0; clear E0 hb0) | ((with_reducible refine kn_box_slice E.out rfl rfl rfl ?_); clear E; intro g u E0 hb0; have E := Lib.hid E0; clear E0 hb0) | ((with_reducible refine kn_box_bool E.out rfl rfl rfl ?_); clear E; intro g u E0 hb0; have E := Lib.hid E0; clear E0 hb0) | ((with_reducible refine kn_box_func E.out rfl rfl rfl ?_); clear E; intro g u E0 hb0; have E := Lib.hid E0; clear E0 hb0))
  clear hA h1 h2 h3 h4 h5
  have E1 := Lib.hid (E.out.part [] [rowF g9 24 (imL (a' : Int) (d' : Int) A6 n6 c6), imgF (img (a' : Int) (d' : Int) A6 n6 c6) (a' : Int) (d' : Int) tx, rowF g7 24 (imL (d' : Int) (a' : Int) A4 n4 c4), imgF (img (d' : Int) (a' : Int) A4 n4 c4) (d' : Int) (a' : Int) hx, rowF g2 24 (imL (d : Int) (a : Int) A n c), rowF g3 30 (i64s t)] (List.Sublist.refl _) (by simp))
  clear E
  have E := E1
  clear E1
  refine wp_region_held_drew (S := Kn w [] [rowF g9 24 (imL (a' : Int) (d' : Int) A6 n6 c6), imgF (img (a' : Int) (d' : Int) A6 n6 c6) (a' : Int) (d' : Int) tx, rowF g7 24 (imL (d' : Int) (a' : Int) A4 n4 c4), imgF (img (d' : Int) (a' : Int) A4 n4 c4) (d' : Int) (a' : Int) hx, rowF g2 24 (imL (d : Int) (a : Int) A n c), rowF g3 30 (i64s t)]) (by kernel_rfl) E.out.drew (fun kS => ?_)
  generalize World.drew _ = u1 at kS ⊢
  clear E
  have E := Lib.hid kS
  (refine takeL (i := 0) (v := _) rfl (by kernel_rfl) (by kernel_rfl) (by kernel_rfl) (fun _ _ _ h => h) (by first | exact yield_load rfl rfl rfl rfl | exact yield_loads rfl rfl rfl rfl | exact yield_loads rfl rfl rfl (by simp only [i64s_length, u8s_length]; first | assumption | omega) | exact yield_loadi rfl rfl rfl (by first | assumption | omega) | exact yield_loadp rfl rfl rfl (by first | assumption | omega)) kS ?_; (try simp only [Act.put, List.setIfInBounds_toArray, List.set_cons_zero, List.set_cons_succ])); (refine takeL (i := 2) (v := _) rfl (by kernel_rfl) (by kernel_rfl) (by kernel_rfl) (fun _ _ _ h => h) (by first | exact yield_load rfl rfl rfl rfl | exact yield_loads rfl rfl rfl rfl | exact yield_loads rfl rfl rfl (by simp only [i64s_length, u8s_length]; first | assumption | omega) | exact yield_loadi rfl rfl rfl (by first | assumption | omega) | exact yield_loadp rfl rfl rfl (by first | assumption | omega)) kS ?_; (try simp only [Act.put, List.setIfInBounds_toArray, List.set_cons_zero, List.set_cons_succ]))
  refine callL (i := 1) rfl (by kernel_rfl) (fun K hK => ?_)
  (go_simp; refine (h6.out _ (img (d' : Int) (a' : Int) A4 n4 c4) E.out.img).mono ?_; rintro e w9 ⟨v9, rfl, hI, hb⟩; obtain ⟨A9, n9, c9, rfl, hn9, hB9⟩ := hI; have E1 := Lib.hid ((E.out.later hb).new_img (show Img w9 (img (a' : Int) (d' : Int) A9 n9 c9) (a' : Int) (d' : Int) tx from ⟨A9, n9, c9, rfl, hn9, hB9⟩)); clear hb hn9 hB9 E; have E := E1; clear E1; go_wp2_with fail; (refine hK.out _ _ (E.out.part _ _ (by repeat (first | exact List.Sublist.refl _ | apply List.Sublist.cons_cons | apply List.Sublist.cons)) (by simp)) (fun kS => ?_); clear hK K; (try simp only [Act.put, List.setIfInBounds_toArray, List.set_cons_zero, List.set_cons_succ])))
  refine callL (i := 3) rfl (by kernel_rfl) (fun K hK => ?_)
  (go_simp; refine (h7.out _ (img (a' : Int) (d' : Int) A9 n9 c9) (img (a' : Int) (d' : Int) A6 n6 c6) _ _ _ E.out.img E.out.img).mono ?_; rintro e w10 ⟨rfl, hb⟩; have E1 := Lib.hid (E.out.later hb); clear hb E; have E := E1; clear E1; go_wp2_with fail; (refine hK.out _ _ (E.out.part _ _ (by repeat (first | exact List.Sublist.refl _ | apply List.Sublist.cons_cons | apply List.Sublist.cons)) (by simp)) (fun kS => ?_); clear hK K; (try simp only [Act.put, List.setIfInBounds_toArray, List.set_cons_zero, List.set_cons_succ])))
  (refine takeL (i := 4) (v := _) rfl (by kernel_rfl) (by kernel_rfl) (by kernel_rfl) (fun _ _ _ h => h) (by first | exact Or.inl ⟨by rfl, (by intro u hSu; clear hSu; go_simp; try with_reducible rfl)⟩ | exact Or.inr ⟨by rfl, rfl⟩) kS ?_; (try simp only [Act.put, List.setIfInBounds_toArray, List.set_cons_zero, List.set_cons_succ]))
  refine wpAnyH_done (by kernel_rfl) ?_ _
  clear h6 h7
  have E1 := Lib.hid (E.out.part [] [rowF g2 24 (imL (d : Int) (a : Int) A n c), rowF g3 30 (i64s t)] (List.Sublist.refl _) (by simp))
  clear E kS
  have E := E1
  clear E1
  go_wp2_with (first
    | (go_at_call 33; refine (h8.out _).mono ?_; rintro e w11 ⟨g11, rfl, _, hP, hb⟩; have E1 := Lib.hid ((E.out.later hb).new_img (show Img w11 (img (d : Int) (a : Int) (some ⟨g11, 0, none⟩) n n) (d : Int) (a : Int) (List.replicate n 0) from ⟨_, n, n, rfl, by omega, hP.bs (by simp)⟩)); clear hb hP E; have E := E1; clear E1)
    | ((with_reducible refine kn_load E.out rfl rfl rfl rfl ?_)) | ((with_reducible refine kn_load_if E.out rfl rfl rfl rfl ?_)) | ((with_reducible refine kn_loads E.out rfl rfl rfl ?_ ?_); (focus (first | rfl | (simp only [i64s_length, u8s_length]; first | rfl | assumption | omega)))) | ((with_reducible refine kn_loads_if E.out rfl rfl rfl ?_ ?_); (focus (first | rfl | (simp only [i64s_length, u8s_length]; first | rfl | assumption | omega)))) | ((with_reducible refine kn_store1_int E.out rfl rfl rfl rfl rfl ?_); clear E; intro u E0; have E := Lib.hid E0; clear E0) | ((with_reducible refine kn_store1_slice E.out rfl rfl rfl rfl rfl ?_); clear E; intro u E0; have E := Lib.hid E0; clear E0) | ((with_reducible refine kn_store1_bool E.out rfl rfl rfl rfl rfl ?_); clear E; intro u E0; have E := Lib.hid E0; clear E0) | ((with_reducible refine kn_stores E.out rfl rfl rfl rfl rfl ?_ ?_ ?_); (focus (first | exact ⟨rfl, rfl⟩ | (simp only [i64s_length, u8s_length]; refine ⟨?_, ?_⟩ <;> first | rfl | assumption | omega))); (focus (first | exact i64s_one _ | exact u8s_one _ | simp [Value.oneCell'])); clear E; intro u E0; have E := Lib.hid E0; clear E0) | ((with_reducible refine kn_alloc (o := ⟨some 12, _, _, _, _, _⟩) E.out rfl rfl ?_); clear E; intro g12 u E0 hb0; have E := Lib.hid E0; clear E0 hb0) | ((with_reducible refine kn_box (o := ⟨some 12, _, _, _, _, _⟩) E.out rfl rfl rfl ?_); clear E; intro g12 u E0 hb0; have E := Lib.hid E0; clear E0 hb0) | ((with_reducible refine kn_box_int (o := ⟨some 12, _, _, _, _, _⟩) E.out rfl rfl rfl ?_); clear E; intro g12 u E0 hb0; have E := Lib.hid E0; clear E0 hb0) | ((with_reducible refine kn_box_slice (o := ⟨some 12, _, _, _, _, _⟩) E.out rfl rfl rfl ?_); clear E; intro g12 u E0 hb0; have E := Lib.hid E0; clear E0 hb0) | ((with_reducible refine kn_box_bool (o := ⟨some 12, _, _, _, _, _⟩) E.out rfl rfl rfl ?_); clear E; intro g12 u E0 hb0; have E := Lib.hid E0; clear E0 hb0) | ((with_reducible refine kn_box_func (o := ⟨some 12, _, _, _, _, _⟩) E.out rfl rfl rfl ?_); clear E; intro g12 u E0 hb0; have E := Lib.hid E0; clear E0 hb0) | ((with_reducible refine kn_alloc E.out rfl rfl ?_); clear E; intro g u E0 hb0; have E := Lib.hid E0; clear E0 hb0) | ((with_reducible refine kn_box E.out rfl rfl rfl ?_); clear E; intro g u E0 hb0; have E := Lib.hid E0; clear E0 hb0) | ((with_reducible refine kn_box_int E.out rfl rfl rfl ?_); clear E; intro g u E0 hb0; have E := Lib.hid E0; clear E0 hb0) | ((with_reducible refine kn_box_slice E.out rfl rfl rfl ?_); clear E; intro g u E0 hb0; have E := Lib.hid E0; clear E0 hb0) | ((with_reducible refine kn_box_bool E.out rfl rfl rfl ?_); clear E; intro g u E0 hb0; have E := Lib.hid E0; clear E0 hb0) | ((with_reducible refine kn_box_func E.out rfl rfl rfl ?_); clear E; intro g u E0 hb0; have E := Lib.hid E0; clear E0 hb0))
  clear h8
  go_loopw [14] (fun i wr => ∃ (k : Nat) (B : Option Addr) (m c' : Nat) (ys : List Nat), k ≤ a ∧ i = .int .i64 k ∧ Hid (ys.length = n ∧ Done t (k * d) ys) ∧ Hid (Kn w [.row g12 24 (imL (d : Int) (a : Int) B m c')] [imgF (img (d : Int) (a : Int) B m c') (d : Int) (a : Int) ys, rowF g2 24 (imL (d : Int) (a : Int) A n c), rowF g3 30 (i64s t)] wr)) (fun i _ => a - (intOf i).toNat)
  case atStart => exact ⟨0, _, n, n, _, by omega, rfl, Lib.hid ⟨by simp, by intro s hs; omega⟩, E⟩
  case round =>
    clear E
    obtain ⟨k, B, m, c', ys, hk, rfl, hys, E⟩ := hrel
    by_cases hlt : k < a
    · go_wp2_with (first | ((with_reducible refine kn_load E.out rfl rfl rfl rfl ?_)) | ((with_reducible refine kn_load_if E.out rfl rfl rfl rfl ?_)) | ((with_reducible refine kn_loads E.out rfl rfl rfl ?_ ?_); (focus (first | rfl | (simp only [i64s_length, u8s_length]; first | rfl | assumption | omega)))) | ((with_reducible refine kn_loads_if E.out rfl rfl rfl ?_ ?_); (focus (first | rfl | (simp only [i64s_length, u8s_length]; first | rfl | assumption | omega)))) | ((with_reducible refine kn_store1_int E.out rfl rfl rfl rfl rfl ?_); clear E; intro u E0; have E := Lib.hid E0; clear E0) | ((with_reducible refine kn_store1_slice E.out rfl rfl rfl rfl rfl ?_); clear E; intro u E0; have E := Lib.hid E0; clear E0) | ((with_reducible refine kn_store1_bool E.out rfl rfl rfl rfl rfl ?_); clear E; intro u E0; have E := Lib.hid E0; clear E0) | ((with_reducible refine kn_stores E.out rfl rfl rfl rfl rfl ?_ ?_ ?_); (focus (first | exact ⟨rfl, rfl⟩ | (simp only [i64s_length, u8s_length]; refine ⟨?_, ?_⟩ <;> first | rfl | assumption | omega))); (focus (first | exact i64s_one _ | exact u8s_one _ | simp [Value.oneCell'])); clear E; intro u E0; have E := Lib.hid E0; clear E0) | ((with_reducible refine kn_alloc E.out rfl rfl ?_); clear E; intro g u E0 hb0; have E := Lib.hid E0; clear E0 hb0) | ((with_reducible refine kn_box E.out rfl rfl rfl ?_); clear E; intro g u E0 hb0; have E := Lib.hid E0; clear E0 hb0) | ((with_reducible refine kn_box_int E.out rfl rfl rfl ?_); clear E; intro g u E0 hb0; have E := Lib.hid E0; clear E0 hb0) | ((with_reducible refine kn_box_slice E.out rfl rfl rfl ?_); clear E; intro g u E0 hb0; have E := Lib.hid E0; clear E0 hb0) | ((with_reducible refine kn_box_bool E.out rfl rfl rfl ?_); clear E; intro g u E0 hb0; have E := Lib.hid E0; clear E0 hb0) | ((with_reducible refine kn_box_func E.out rfl rfl rfl ?_); clear E; intro g u E0 hb0; have E := Lib.hid E0; clear E0 hb0))
      try rw [show decide (k < a) = true from by simp; omega]
      go_loopw [15] (fun i wr => ∃ (q : Nat) (B : Option Addr) (m c' : Nat) (ys : List Nat), q ≤ d ∧ i = .int .i64 q ∧ Hid (ys.length = n ∧ Done t (k * d + q) ys) ∧ Hid (Kn w [.row g12 24 (imL (d : Int) (a : Int) B m c')] [imgF (img (d : Int) (a : Int) B m c') (d : Int) (a : Int) ys, rowF g2 24 (imL (d : Int) (a : Int) A n c), rowF g3 30 (i64s t)] wr)) (fun i _ => d - (intOf i).toNat)
      case atStart => exact ⟨0, B, m, c', ys, by omega, rfl, hys, E⟩
      case round =>
        clear E hys B m c' ys
        obtain ⟨q, B, m, c', ys, hq, rfl, hys, E⟩ := hrel
        by_cases hlt2 : q < d
        · have hput := Lib.hid (fun (u : World) (v : Value) (h : Img u v (d : Int) (a : Int) ys) => HP.out k q hlt hlt2 ys hys.out.1 v u h)
          have hpa := HPA.out k q hlt hlt2 ys hys.out.1
          simp only [show ∀ z, putW (atP (d : Int) (a : Int) ys (q : Int) (k : Int)) z = z from fun z => if_pos hpa, show ∀ z, putX (atP (d : Int) (a : Int) ys (q : Int) (k : Int)) z = z from fun z => if_pos hpa, show noE (atP (d : Int) (a : Int) ys (q : Int) (k : Int)) = 0 from if_pos hpa] at hput
          have hys' := Lib.hid (show (put ys (plc (d : Int) (q : Int) (k : Int)) t).length = n ∧ Done t (k * d + (q + 1)) (put ys (plc (d : Int) (q : Int) (k : Int)) t) from ⟨by rw [put_length]; exact hys.out.1, by
            rw [plc_nat]
            have h1 := row_lt hlt hlt2
            have h2 := HN4.out
            have h3 := hys.out.1
            rw [Nat.mul_comm d a] at h1
            exact hys.out.2.step (by omega)⟩)
          clear hpa
          generalize put ys (plc (d : Int) (q : Int) (k : Int)) t = zs at hput hys'
          go_wp2_with (first
            | (go_at_call 34; refine (hput.out _ (img (d : Int) (a : Int) B m c') E.out.img).mono ?_; rintro e w12 ⟨v12, rfl, hI, hb⟩; obtain ⟨A12, n12, c12, rfl, hn12, hB12⟩ := hI; have E1 := Lib.hid ((E.out.later hb).img_kind (show Img w12 (img (d : Int) (a : Int) A12 n12 c12) (d : Int) (a : Int) zs from ⟨_, _, _, rfl, hn12, hB12⟩)); clear hb hn12 hB12 E; have E := E1; clear E1)
            | ((with_reducible refine kn_load E.out rfl rfl rfl rfl ?_)) | ((with_reducible refine kn_load_if E.out rfl rfl rfl rfl ?_)) | ((with_reducible refine kn_loads E.out rfl rfl rfl ?_ ?_); (focus (first | rfl | (simp only [i64s_length, u8s_length]; first | rfl | assumption | omega)))) | ((with_reducible refine kn_loads_if E.out rfl rfl rfl ?_ ?_); (focus (first | rfl | (simp only [i64s_length, u8s_length]; first | rfl | assumption | omega)))) | ((with_reducible refine kn_store1_int E.out rfl rfl rfl rfl rfl ?_); clear E; intro u E0; have E := Lib.hid E0; clear E0) | ((with_reducible refine kn_store1_slice E.out rfl rfl rfl rfl rfl ?_); clear E; intro u E0; have E := Lib.hid E0; clear E0) | ((with_reducible refine kn_store1_bool E.out rfl rfl rfl rfl rfl ?_); clear E; intro u E0; have E := Lib.hid E0; clear E0) | ((with_reducible refine kn_stores E.out rfl rfl rfl rfl rfl ?_ ?_ ?_); (focus (first | exact ⟨rfl, rfl⟩ | (simp only [i64s_length, u8s_length]; refine ⟨?_, ?_⟩ <;> first | rfl | assumption | omega))); (focus (first | exact i64s_one _ | exact u8s_one _ | simp [Value.oneCell'])); clear E; intro u E0; have E := Lib.hid E0; clear E0) | ((with_reducible refine kn_alloc E.out rfl rfl ?_); clear E; intro g u E0 hb0; have E := Lib.hid E0; clear E0 hb0) | ((with_reducible refine kn_box E.out rfl rfl rfl ?_); clear E; intro g u E0 hb0; have E := Lib.hid E0; clear E0 hb0) | ((with_reducible refine kn_box_int E.out rfl rfl rfl ?_); clear E; intro g u E0 hb0; have E := Lib.hid E0; clear E0 hb0) | ((with_reducible refine kn_box_slice E.out rfl rfl rfl ?_); clear E; intro g u E0 hb0; have E := Lib.hid E0; clear E0 hb0) | ((with_reducible refine kn_box_bool E.out rfl rfl rfl ?_); clear E; intro g u E0 hb0; have E := Lib.hid E0; clear E0 hb0) | ((with_reducible refine kn_box_func E.out rfl rfl rfl ?_); clear E; intro g u E0 hb0; have E := Lib.hid E0; clear E0 hb0))
          go_roundw
          case rel => exact ⟨q + 1, A12, n12, c12, zs, by omega, by go_num, hys', Lib.hid (E.out.part _ _ (by repeat (first | exact List.Sublist.refl _ | apply List.Sublist.cons_cons | apply List.Sublist.cons)) (by simp))⟩
          case measure => simp [intOf]; omega
        · obtain rfl : d = q := by omega
          go_wp2_with (first | ((with_reducible refine kn_load E.out rfl rfl rfl rfl ?_)) | ((with_reducible refine kn_load_if E.out rfl rfl rfl rfl ?_)) | ((with_reducible refine kn_loads E.out rfl rfl rfl ?_ ?_); (focus (first | rfl | (simp only [i64s_length, u8s_length]; first | rfl | assumption | omega)))) | ((with_reducible refine kn_loads_if E.out rfl rfl rfl ?_ ?_); (focus (first | rfl | (simp only [i64s_length, u8s_length]; first | rfl | assumption | omega)))) | ((with_reducible refine kn_store1_int E.out rfl rfl rfl rfl rfl ?_); clear E; intro u E0; have E := Lib.hid E0; clear E0) | ((with_reducible refine kn_store1_slice E.out rfl rfl rfl rfl rfl ?_); clear E; intro u E0; have E := Lib.hid E0; clear E0) | ((with_reducible refine kn_store1_bool E.out rfl rfl rfl rfl rfl ?_); clear E; intro u E0; have E := Lib.hid E0; clear E0) | ((with_reducible refine kn_stores E.out rfl rfl rfl rfl rfl ?_ ?_ ?_); (focus (first | exact ⟨rfl, rfl⟩ | (simp only [i64s_length, u8s_length]; refine ⟨?_, ?_⟩ <;> first | rfl | assumption | omega))); (focus (first | exact i64s_one _ | exact u8s_one _ | simp [Value.oneCell'])); clear E; intro u E0; have E := Lib.hid E0; clear E0) | ((with_reducible refine kn_alloc E.out rfl rfl ?_); clear E; intro g u E0 hb0; have E := Lib.hid E0; clear E0 hb0) | ((with_reducible refine kn_box E.out rfl rfl rfl ?_); clear E; intro g u E0 hb0; have E := Lib.hid E0; clear E0 hb0) | ((with_reducible refine kn_box_int E.out rfl rfl rfl ?_); clear E; intro g u E0 hb0; have E := Lib.hid E0; clear E0 hb0) | ((with_reducible refine kn_box_slice E.out rfl rfl rfl ?_); clear E; intro g u E0 hb0; have E := Lib.hid E0; clear E0 hb0) | ((with_reducible refine kn_box_bool E.out rfl rfl rfl ?_); clear E; intro g u E0 hb0; have E := Lib.hid E0; clear E0 hb0) | ((with_reducible refine kn_box_func E.out rfl rfl rfl ?_); clear E; intro g u E0 hb0; have E := Lib.hid E0; clear E0 hb0))
          go_roundw
          case rel => exact ⟨k + 1, B, m, c', ys, by omega, by go_num, Lib.hid (by rw [Nat.add_mul, Nat.one_mul]; exact hys.out), E⟩
          case measure => simp [intOf]; omega
    · obtain rfl : a = k := by omega
      obtain ⟨l, mm, zs, T, e1, e2, e3, e4, e5, e6, e7, e8, e9, e10⟩ := last_one d a ys t (hRn.out ys hys.out.1) hys.out.2
      have hLv := Lib.hid (fun u => levels_any (d : Int) (a : Int) u (by omega) (by omega))
      have hCh := Lib.hid (fun (u : World) (h : Img u (img (d : Int) (a : Int) B m c') (d : Int) (a : Int) ys) => chain_any _ (d : Int) (a : Int) ys (lvV (d : Int) (a : Int)) u h (by omega) (by omega))
      rw [e1, e10] at hCh
      have hAt := Lib.hid (fun (u : World) (h : Img u (img (d : Int) (a : Int) B m c') (d : Int) (a : Int) ys) => at_any _ (d : Int) (a : Int) ys 0 0 u h)
      rw [e8, e6] at hAt
      have hAl := Lib.hid (fun (u : World) (v : Value) (h : Img u v 1 1 zs) => at_any v 1 1 zs 0 0 u h)
      rw [e7, e5] at hAl
      have heq : ∀ u, (Op.equalIn 10000 30 (.agg (i64s T).toArray) (.agg (i64s T).toArray)).run Try.prog u = .ok true u := fun u => by
        have h := eq_texel T T e9 e9 u
        simpa using h
      clear e1 e5 e6 e7 e8 e10 HP HPA hRn HN4 hys
      generalize lvV (d : Int) (a : Int) = lvn at *
      have E1 := Lib.hid E.out.rest1
      clear E
      have E := E1
      clear E1
      go_upto_region 18 with (first | ((with_reducible refine kn_load E.out rfl rfl rfl rfl ?_)) | ((with_reducible refine kn_load_if E.out rfl rfl rfl rfl ?_)) | ((with_reducible refine kn_loads E.out rfl rfl rfl ?_ ?_); (focus (first | rfl | (simp only [i64s_length, u8s_length]; first | rfl | assumption | omega)))) | ((with_reducible refine kn_loads_if E.out rfl rfl rfl ?_ ?_); (focus (first | rfl | (simp only [i64s_length, u8s_length]; first | rfl | assumption | omega)))) | ((with_reducible refine kn_store1_int E.out rfl rfl rfl rfl rfl ?_); clear E; intro u E0; have E := Lib.hid E0; clear E0) | ((with_reducible refine kn_store1_slice E.out rfl rfl rfl rfl rfl ?_); clear E; intro u E0; have E := Lib.hid E0; clear E0) | ((with_reducible refine kn_store1_bool E.out rfl rfl rfl rfl rfl ?_); clear E; intro u E0; have E := Lib.hid E0; clear E0) | ((with_reducible refine kn_stores E.out rfl rfl rfl rfl rfl ?_ ?_ ?_); (focus (first | exact ⟨rfl, rfl⟩ | (simp only [i64s_length, u8s_length]; refine ⟨?_, ?_⟩ <;> first | rfl | assumption | omega))); (focus (first | exact i64s_one _ | exact u8s_one _ | simp [Value.oneCell'])); clear E; intro u E0; have E := Lib.hid E0; clear E0) | ((with_reducible refine kn_alloc E.out rfl rfl ?_); clear E; intro g u E0 hb0; have E := Lib.hid E0; clear E0 hb0) | ((with_reducible refine kn_box E.out rfl rfl rfl ?_); clear E; intro g u E0 hb0; have E := Lib.hid E0; clear E0 hb0) | ((with_reducible refine kn_box_int E.out rfl rfl rfl ?_); clear E; intro g u E0 hb0; have E := Lib.hid E0; clear E0 hb0) | ((with_reducible refine kn_box_slice E.out rfl rfl rfl ?_); clear E; intro g u E0 hb0; have E := Lib.hid E0; clear E0 hb0) | ((with_reducible refine kn_box_bool E.out rfl rfl rfl ?_); clear E; intro g u E0 hb0; have E := Lib.hid E0; clear E0 hb0) | ((with_reducible refine kn_box_func E.out rfl rfl rfl ?_); clear E; intro g u E0 hb0; have E := Lib.hid E0; clear E0 hb0))
      refine wp_region_held_drew (S := Kn w [] [rowF g12 24 (imL (d : Int) (a : Int) B m c'), imgF (img (d : Int) (a : Int) B m c') (d : Int) (a : Int) ys, rowF g2 24 (imL (d : Int) (a : Int) A n c), rowF g3 30 (i64s t)]) (by kernel_rfl) E.out.drew (fun kS => ?_)
      generalize World.drew _ = u1 at kS ⊢
      clear E
      have E := Lib.hid kS
      (refine takeL (i := 0) (v := _) rfl (by kernel_rfl) (by kernel_rfl) (by kernel_rfl) (fun _ _ _ h => h) (by first | exact yield_load rfl rfl rfl rfl | exact yield_loads rfl rfl rfl rfl | exact yield_loads rfl rfl rfl (by simp only [i64s_length, u8s_length]; first | assumption | omega) | exact yield_loadi rfl rfl rfl (by first | assumption | omega) | exact yield_loadp rfl rfl rfl (by first | assumption | omega)) kS ?_; (try simp only [Act.put, List.setIfInBounds_toArray, List.set_cons_zero, List.set_cons_succ]))
      (refine takeL (i := 1) (v := _) rfl (by kernel_rfl) (by kernel_rfl) (by kernel_rfl) (fun _ _ _ h => h) (by first | exact Or.inl ⟨by rfl, (by intro u hSu; clear hSu; go_simp; try with_reducible rfl)⟩ | exact Or.inr ⟨by rfl, rfl⟩) kS ?_; (try simp only [Act.put, List.setIfInBounds_toArray, List.set_cons_zero, List.set_cons_succ]))
      (refine takeL (i := 2) (v := _) rfl (by kernel_rfl) (by kernel_rfl) (by kernel_rfl) (fun _ _ _ h => h) (by first | exact yield_load rfl rfl rfl rfl | exact yield_loads rfl rfl rfl rfl | exact yield_loads rfl rfl rfl (by simp only [i64s_length, u8s_length]; first | assumption | omega) | exact yield_loadi rfl rfl rfl (by first | assumption | omega) | exact yield_loadp rfl rfl rfl (by first | assumption | omega)) kS ?_; (try simp only [Act.put, List.setIfInBounds_toArray, List.set_cons_zero, List.set_cons_succ]))
      (refine takeL (i := 3) (v := _) rfl (by kernel_rfl) (by kernel_rfl) (by kernel_rfl) (fun _ _ _ h => h) (by first | exact Or.inl ⟨by rfl, (by intro u hSu; clear hSu; go_simp; try with_reducible rfl)⟩ | exact Or.inr ⟨by rfl, rfl⟩) kS ?_; (try simp only [Act.put, List.setIfInBounds_toArray, List.set_cons_zero, List.set_cons_succ]))
      (refine takeL (i := 4) (v := _) rfl (by kernel_rfl) (by kernel_rfl) (by kernel_rfl) (fun _ _ _ h => h) (by first | exact yield_load rfl rfl rfl rfl | exact yield_loads rfl rfl rfl rfl | exact yield_loads rfl rfl rfl (by simp only [i64s_length, u8s_length]; first | assumption | omega) | exact yield_loadi rfl rfl rfl (by first | assumption | omega) | exact yield_loadp rfl rfl rfl (by first | assumption | omega)) kS ?_; (try simp only [Act.put, List.setIfInBounds_toArray, List.set_cons_zero, List.set_cons_succ]))
      refine callL (i := 5) rfl (by kernel_rfl) (fun K hK => ?_)
      (go_simp; refine (hLv.out _).mono ?_; rintro e w13 ⟨rfl, hb⟩; have E1 := Lib.hid (E.out.later hb); clear hb E; have E := E1; clear E1; go_wp2_with fail; (refine hK.out _ _ (E.out.part _ _ (by repeat (first | exact List.Sublist.refl _ | apply List.Sublist.cons_cons | apply List.Sublist.cons)) (by simp)) (fun kS => ?_); clear hK K; (try simp only [Act.put, List.setIfInBounds_toArray, List.set_cons_zero, List.set_cons_succ])))
      refine callL (i := 6) rfl (by kernel_rfl) (fun K hK => ?_)
      (go_simp; refine (hCh.out _ E.out.img).mono ?_; rintro e w14 ⟨v14, rfl, hI, hb⟩; obtain ⟨A14, c14, vs14, hv14, hr14, hi14⟩ := hI; rw [e2] at hv14 hr14; subst hv14; have E1 := Lib.hid (((E.out.later hb).new_rs hr14).new_imgs hi14); clear hb hr14 hi14 E; have E := E1; clear E1; go_wp2_with fail; (refine hK.out _ _ (E.out.part _ _ (by repeat (first | exact List.Sublist.refl _ | apply List.Sublist.cons_cons | apply List.Sublist.cons)) (by simp)) (fun kS => ?_); clear hK K; (try simp only [Act.put, List.setIfInBounds_toArray, List.set_cons_zero, List.set_cons_succ])))
      (refine takeL (i := 7) (v := _) rfl (by kernel_rfl) (by kernel_rfl) (by kernel_rfl) (fun _ _ _ h => h) (by first | exact Or.inl ⟨by rfl, (by intro u hSu; clear hSu; go_simp; try with_reducible rfl)⟩ | exact Or.inr ⟨by rfl, rfl⟩) kS ?_; (try simp only [Act.put, List.setIfInBounds_toArray, List.set_cons_zero, List.set_cons_succ])); (refine takeL (i := 8) (v := _) rfl (by kernel_rfl) (by kernel_rfl) (by kernel_rfl) (fun _ _ _ h => h) (by first | exact Or.inl ⟨by rfl, (by intro u hSu; clear hSu; go_simp; try with_reducible rfl)⟩ | exact Or.inr ⟨by rfl, rfl⟩) kS ?_; (try simp only [Act.put, List.setIfInBounds_toArray, List.set_cons_zero, List.set_cons_succ])); (refine takeL (i := 9) (v := _) rfl (by kernel_rfl) (by kernel_rfl) (by kernel_rfl) (fun _ _ _ h => h) (by first | exact Or.inl ⟨by rfl, (by intro u hSu; clear hSu; go_simp; try with_reducible rfl)⟩ | exact Or.inr ⟨by rfl, rfl⟩) kS ?_; (try simp only [Act.put, List.setIfInBounds_toArray, List.set_cons_zero, List.set_cons_succ])); (refine takeL (i := 10) (v := _) rfl (by kernel_rfl) (by kernel_rfl) (by kernel_rfl) (fun _ _ _ h => h) (by first | exact Or.inl ⟨by rfl, (by intro u hSu; clear hSu; go_simp; try with_reducible rfl)⟩ | exact Or.inr ⟨by rfl, rfl⟩) kS ?_; (try simp only [Act.put, List.setIfInBounds_toArray, List.set_cons_zero, List.set_cons_succ])); (refine takeL (i := 11) (v := _) rfl (by kernel_rfl) (by kernel_rfl) (by kernel_rfl) (fun _ _ _ h => h) (by first | exact Or.inl ⟨by rfl, (by intro u hSu; clear hSu; go_simp; try with_reducible rfl)⟩ | exact Or.inr ⟨by rfl, rfl⟩) kS ?_; (try simp only [Act.put, List.setIfInBounds_toArray, List.set_cons_zero, List.set_cons_succ]))
      refine wpAnyH_done (by kernel_rfl) ?_ _
      clear kS hLv hCh
      obtain ⟨b14, o14, hA14, _⟩ := (E.out.get (f := rsF A14 ((mm + 1) * 3) (cellsOf vs14)) (by simp)).2 (by omega)
      subst hA14
      obtain ⟨W15, H15, B15, n15, c15, hv15, e71, e72, _⟩ := (E.out.get (f := imgsF vs14 l) (by simp)).2 mm (1, 1, zs) e4
      have e71 : W15 = 1 := e71
      have e72 : H15 = 1 := e72
      subst e71 e72
      have hI15 := Lib.hid (fun (u : World) (h : imgsF vs14 l u) => show Img u (img 1 1 B15 n15 c15) 1 1 zs from by
        obtain ⟨W', H', A', n', d', hv', e1, e2, hI⟩ := h.2 mm (1, 1, zs) e4
        rw [hv15] at hv'
        cases hv'
        exact hI)
      have hv15 := Lib.hid hv15
      clear e4
      go_wp2_with (first
        | (go_at_call 31; first
            | ((with_reducible refine (hAt.out _ E.out.img).mono ?_); rintro e w15 ⟨rfl, hb⟩; have E1 := Lib.hid (E.out.later hb); clear hb E; have E := E1; clear E1)
            | (refine (hAl.out _ _ (hI15.out _ (E.out.get (f := imgsF vs14 l) (by simp)))).mono ?_; rintro e w16 ⟨rfl, hb⟩; have E1 := Lib.hid (E.out.later hb); clear hb E; have E := E1; clear E1))
        | (refine kn_image (g := b14) (off := o14) (i := mm) (n := mm + 1) (vs := vs14) (l := l) E.out rfl rfl rfl (by simp) (by simp) hv15.out (by omega) ?_)
        | (refine kn_image_if (g := b14) (off := o14) (i := mm) (j := 0) (n := mm + 1) (vs := vs14) (l := l) E.out rfl rfl rfl (by simp) (by simp) hv15.out (by omega) rfl ?_)
        | (refine kn_image_if (g := b14) (off := o14) (i := mm) (j := 1) (n := mm + 1) (vs := vs14) (l := l) E.out rfl rfl rfl (by simp) (by simp) hv15.out (by omega) rfl ?_)
        | ((with_reducible refine kn_load E.out rfl rfl rfl rfl ?_)) | ((with_reducible refine kn_load_if E.out rfl rfl rfl rfl ?_)) | ((with_reducible refine kn_loads E.out rfl rfl rfl ?_ ?_); (focus (first | rfl | (simp only [i64s_length, u8s_length]; first | rfl | assumption | omega)))) | ((with_reducible refine kn_loads_if E.out rfl rfl rfl ?_ ?_); (focus (first | rfl | (simp only [i64s_length, u8s_length]; first | rfl | assumption | omega)))) | ((with_reducible refine kn_store1_int E.out rfl rfl rfl rfl rfl ?_); clear E; intro u E0; have E := Lib.hid (Kn.rest1 E0); clear E0) | ((with_reducible refine kn_store1_slice E.out rfl rfl rfl rfl rfl ?_); clear E; intro u E0; have E := Lib.hid (Kn.rest1 E0); clear E0) | ((with_reducible refine kn_store1_bool E.out rfl rfl rfl rfl rfl ?_); clear E; intro u E0; have E := Lib.hid (Kn.rest1 E0); clear E0) | ((with_reducible refine kn_stores E.out rfl rfl rfl rfl rfl ?_ ?_ ?_); (focus (first | exact ⟨rfl, rfl⟩ | (simp only [i64s_length, u8s_length]; refine ⟨?_, ?_⟩ <;> first | rfl | assumption | omega))); (focus (first | exact i64s_one _ | exact u8s_one _ | simp [Value.oneCell'])); clear E; intro u E0; have E := Lib.hid (Kn.rest1 E0); clear E0) | ((with_reducible refine kn_alloc (o := ⟨some 18, _, _, _, _, _⟩) E.out rfl rfl ?_); clear E; intro g18 u E0 hb0; have E := Lib.hid E0; clear E0 hb0) | ((with_reducible refine kn_box (o := ⟨some 18, _, _, _, _, _⟩) E.out rfl rfl rfl ?_); clear E; intro g18 u E0 hb0; have E := Lib.hid E0; clear E0 hb0) | ((with_reducible refine kn_box_int (o := ⟨some 18, _, _, _, _, _⟩) E.out rfl rfl rfl ?_); clear E; intro g18 u E0 hb0; have E := Lib.hid E0; clear E0 hb0) | ((with_reducible refine kn_box_slice (o := ⟨some 18, _, _, _, _, _⟩) E.out rfl rfl rfl ?_); clear E; intro g18 u E0 hb0; have E := Lib.hid E0; clear E0 hb0) | ((with_reducible refine kn_box_bool (o := ⟨some 18, _, _, _, _, _⟩) E.out rfl rfl rfl ?_); clear E; intro g18 u E0 hb0; have E := Lib.hid E0; clear E0 hb0) | ((with_reducible refine kn_box_func (o := ⟨some 18, _, _, _, _, _⟩) E.out rfl rfl rfl ?_); clear E; intro g18 u E0 hb0; have E := Lib.hid E0; clear E0 hb0) | ((with_reducible refine kn_alloc (o := ⟨some 20, _, _, _, _, _⟩) E.out rfl rfl ?_); clear E; intro g20 u E0 hb0; have E := Lib.hid E0; clear E0 hb0) | ((with_reducible refine kn_box (o := ⟨some 20, _, _, _, _, _⟩) E.out rfl rfl rfl ?_); clear E; intro g20 u E0 hb0; have E := Lib.hid E0; clear E0 hb0) | ((with_reducible refine kn_box_int (o := ⟨some 20, _, _, _, _, _⟩) E.out rfl rfl rfl ?_); clear E; intro g20 u E0 hb0; have E := Lib.hid E0; clear E0 hb0) | ((with_reducible refine kn_box_slice (o := ⟨some 20, _, _, _, _, _⟩) E.out rfl rfl rfl ?_); clear E; intro g20 u E0 hb0; have E := Lib.hid E0; clear E0 hb0) | ((with_reducible refine kn_box_bool (o := ⟨some 20, _, _, _, _, _⟩) E.out rfl rfl rfl ?_); clear E; intro g20 u E0 hb0; have E := Lib.hid E0; clear E0 hb0) | ((with_reducible refine kn_box_func (o := ⟨some 20, _, _, _, _, _⟩) E.out rfl rfl rfl ?_); clear E; intro g20 u E0 hb0; have E := Lib.hid E0; clear E0 hb0) | ((with_reducible refine kn_alloc E.out rfl rfl ?_); clear E; intro g u E0 hb0; have E := Lib.hid E0; clear E0 hb0) | ((with_reducible refine kn_box E.out rfl rfl rfl ?_); clear E; intro g u E0 hb0; have E := Lib.hid E0; clear E0 hb0) | ((with_reducible refine kn_box_int E.out rfl rfl rfl ?_); clear E; intro g u E0 hb0; have E := Lib.hid E0; clear E0 hb0) | ((with_reducible refine kn_box_slice E.out rfl rfl rfl ?_); clear E; intro g u E0 hb0; have E := Lib.hid E0; clear E0 hb0) | ((with_reducible refine kn_box_bool E.out rfl rfl rfl ?_); clear E; intro g u E0 hb0; have E := Lib.hid E0; clear E0 hb0) | ((with_reducible refine kn_box_func E.out rfl rfl rfl ?_); clear E; intro g u E0 hb0; have E := Lib.hid E0; clear E0 hb0))
      go_ret
      exact ⟨rfl, E.out.bel⟩

theorem walk (W H : Int) (A : Option Addr) (n c : Nat) (xs : List Nat) (t : List Int) (w : World) (hB : Bs w w.heap.size A n xs) (hn : n ≤ 9223372036854775807) (ht : t.length = 4 * 1) :
    Calls Try.prog 7 #[img W H A n c, arr t] w fun e w' => e = .returned (.bool true) ∧ Below w.heap.size w w' := by
  by_cases h1 : lightB W H n = true
  · by_cases h2 : rightP W H n
    · have hs := h2.1
      unfold szP at hs
      obtain ⟨d, rfl⟩ : ∃ d : Nat, W = (d : Int) := ⟨W.toNat, by omega⟩
      obtain ⟨a, rfl⟩ : ∃ a : Nat, H = (a : Int) := ⟨H.toNat, by omega⟩
      exact lit d a A n c xs t w hB ht h1 h2
    · exact dark W H A n c t w hn ht (.inr ⟨h1, h2⟩)
  · exact dark W H A n c t w hn ht (.inl (by simpa using h1))

theorem own : ownKnob Try.prog.godebug = none := by kernel_rfl
theorem laidOut : laidOutB Try.prog = true := by kernel_rfl

set_option maxRecDepth 100000 in
theorem lifted (os : Os) (started : os.Started) (H : Type) (enc : TypeId × Value → H) :
    ReturnsInHanded {} Try.checked os 7 .any (Rows.mipTurnsSpec.pre6 enc Try.prog Try.f7 Rows.mipTurnsRow.domain false) (Rows.mipTurnsSpec.post enc Try.prog Try.f7 false true false false) := by
  refine returnsInHanded_of_change (C := Try.checked) own started (by kernel_rfl) Try.func7
    (ChangeSpec.witness6 (enc := enc) (C := Try.checked) false ⟨#[], #[.agg #[.int .i64 0, .int .i64 0, .slice none 0 0], .agg #[.int .i64 0, .int .i64 0, .int .i64 0, .int .i64 0]], []⟩ 8 (by kernel_rfl) (by kernel_rfl) (by kernel_rfl) (by kernel_rfl)) ?_
  intro W base args ds gs before hval0 hW hcnd _
  have hval : ∀ (j : Nat) t v, Try.f7.params[j]? = some t → args[j]? = some v → Value.okWide Try.prog W .any base t v := hval0
  have hW' := hW
  obtain ⟨p, q, hA0, hV, rfl, hfz, hnd⟩ := hW
  have hA : DataW.TrodAll enc Try.prog W 0 (fun _ => true) true Try.f7.params.toList args.toList ds p := hA0
  rw [Try.params7] at hA hval
  obtain ⟨v0, vs0, d0, ds0, p0, q0, hargs, rfl, rfl, h0, r0⟩ := trodAll_cons hA
  obtain ⟨v1, vs1, d1, ds1, p1, q1, rfl, rfl, rfl, h1, r1⟩ := trodAll_cons r0
  obtain ⟨rfl, rfl, rfl⟩ := trodAll_nil r1
  obtain rfl : args = #[v0, v1] := by cases args; simp_all
  have lt0 : ∀ x ∈ p0, x.block < W.heap.size := by obtain ⟨m, hm⟩ := h0; exact DataW.trod_lt m _ _ _ hm
  have lt1 : ∀ x ∈ p1, x.block < W.heap.size := by obtain ⟨m, hm⟩ := h1; exact DataW.trod_lt m _ _ _ hm
  obtain ⟨rfl, rfl⟩ := trodVars_none hV
  obtain ⟨W0, H0, A0, n0, c0, xs0, rfl, hB0, hn0, bW0, bH0⟩ := open_img Try.underlying24 (by kernel_rfl) rfl rfl rfl Try.underlying3 Try.underlying22 Try.underlying5 (by kernel_rfl) (by kernel_rfl) (hval 0 24 v0 rfl rfl) h0
  obtain ⟨zs1, rfl, hl1, hz1⟩ := open_flat Try.underlying30 (Flat.array (n := 4) (m := 1) Try.underlying30 (by kernel_rfl) (by omega) (Flat.int Try.underlying3 (by kernel_rfl))) (hval 1 30 v1 rfl rfl) h1
  clear hA0 hval0
  refine (walk W0 H0 A0 n0 c0 xs0 zs1 W hB0 hn0 hl1).mono fun e W' ⟨he, bel⟩ => ?_
  subst he
  exact ⟨_, rfl, _, _, _, [], _, [], hW', trodAll_mk1 (shut_bool Try.underlying4 _), (trodAll_cons_mk (Below.trod laidOut (by kernel_rfl) (of_decide_eq_true (by kernel_rfl)) h0 bel lt0) (trodAll_cons_mk (Below.trod laidOut (by kernel_rfl) (of_decide_eq_true (by kernel_rfl)) h1 bel lt1) trodAll_mk0)), rfl, bel.frame _, fun h => by cases h⟩

theorem over : Rows.mipTurnsRow.holds Try.pinned (OpenSpec.ofChange Rows.mipTurnsSpec) :=
  OpenClaim.holds_of_wide 7 Try.f7 rfl rfl rfl rfl rfl rfl rfl ⟨rfl, rfl, rfl, rfl, rfl⟩ rfl rfl rfl rfl rfl (by kernel_rfl) Try.func7 (by kernel_rfl)
    (of_decide_eq_true (by kernel_rfl)) (by unfold Func.isWrapper; first | (rw [if_pos (by decide +kernel)]; kernel_rfl) | (rw [if_neg (by decide +kernel)]; exact ⟨rfl, rfl⟩))
    (fun os started H enc _ => lifted os started H enc)
end Go.Proofs.Ytbpdaijmclcbdaa.mipTurns

namespace Go.Proofs.Ytbpdaijmclcbdaa
theorem mipTurns_holds : Rows.MipTurnsSaid := mipTurns.over
#print axioms mipTurns_holds
end Go.Proofs.Ytbpdaijmclcbdaa
