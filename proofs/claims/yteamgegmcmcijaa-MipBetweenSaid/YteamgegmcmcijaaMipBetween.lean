/- MipBetween: no texel of a half is beyond the least and the greatest of the four that it is of, for whatever image. -/
import Derived.Test.YteamgegmcmcijaaRows
import Derived.Test.YteamgegmcmcijaaMpAwake
import Derived.Test.YteamgegmcmcijaaOpenIm
namespace Go.Proofs.Yteamgegmcmcijaa.mipBetween
open Go.ChangeShapes Go.WideShapes Go.ChangeAt Go.RowKit
open Im Mp

set_option maxHeartbeats 1000000 in
set_option maxRecDepth 100000 in
theorem dark (W H : Int) (A : Option Addr) (n c : Nat) (w : World) (hn : n ≤ 9223372036854775807) (hd : lightB W H n = false ∨ (lightB W H n = true ∧ ¬ rightP W H n)) :
    Calls Try.prog 6 #[img W H A n c] w fun e w' => e = .returned (.bool true) ∧ Below w.heap.size w w' := by
  have E := Lib.hid (Kn.start w)
  have hA := Lib.hid mawake_any
  have h1 := Lib.hid (fun u => light_any W H A n c u hn)
  have h2 := Lib.hid (fun u => right_any W H A n c u hn)
  rcases hd with hd | ⟨hd, hr⟩
  · rw [hd] at h1
    clear hd
    go_enter Try.func6, Try.ntmps6
    go_wp2_with (first
    | (go_at_call 22; refine (hA.out _).mono ?_; rintro e w1 ⟨rfl, hb⟩; have E1 := Lib.hid (E.out.later hb); clear hb E; have E := E1; clear E1)
    | (go_at_call 9; refine (h1.out _).mono ?_; rintro e w2 ⟨rfl, hb⟩; have E1 := Lib.hid (E.out.later hb); clear hb E; have E := E1; clear E1)
    | ((with_reducible refine kn_load E.out rfl rfl rfl rfl ?_)) | ((with_reducible refine kn_load_if E.out rfl rfl rfl rfl ?_)) | ((with_reducible refine kn_loads E.out rfl rfl rfl ?_ ?_); (focus (first | rfl | (simp only [i64s_length, u8s_length]; first | rfl | assumption | omega)))) | ((with_reducible refine kn_loads_if E.out rfl rfl rfl ?_ ?_); (focus (first | rfl | (simp only [i64s_length, u8s_length]; first | rfl | assumption | omega)))) | ((with_reducible refine kn_store1_int E.out rfl rfl rfl rfl rfl ?_); clear E; intro u E0; have E := Lib.hid E0; clear E0) | ((with_reducible refine kn_store1_slice E.out rfl rfl rfl rfl rfl ?_); clear E; intro u E0; have E := Lib.hid E0; clear E0) | ((with_reducible refine kn_store1_bool E.out rfl rfl rfl rfl rfl ?_); clear E; intro u E0; have E := Lib.hid E0; clear E0) | ((with_reducible refine kn_stores E.out rfl rfl rfl rfl rfl ?_ ?_ ?_); (focus (first | exact ⟨rfl, rfl⟩ | (simp only [i64s_length, u8s_length]; refine ⟨?_, ?_⟩ <;> first | rfl | assumption | omega))); (focus (first | exact i64s_one _ | exact u8s_one _ | simp [Value.oneCell'])); clear E; intro u E0; have E := Lib.hid E0; clear E0) | ((with_reducible refine kn_alloc E.out rfl rfl ?_); clear E; intro g u E0 hb0; have E := Lib.hid E0; clear E0 hb0) | ((with_reducible refine kn_box E.out rfl rfl rfl ?_); clear E; intro g u E0 hb0; have E := Lib.hid E0; clear E0 hb0) | ((with_reducible refine kn_box_int E.out rfl rfl rfl ?_); clear E; intro g u E0 hb0; have E := Lib.hid E0; clear E0 hb0) | ((with_reducible refine kn_box_slice E.out rfl rfl rfl ?_); clear E; intro g u E0 hb0; have E := Lib.hid E0; clear E0 hb0) | ((with_reducible refine kn_box_bool E.out rfl rfl rfl ?_); clear E; intro g u E0 hb0; have E := Lib.hid E0; clear E0 hb0) | ((with_reducible refine kn_box_func E.out rfl rfl rfl ?_); clear E; intro g u E0 hb0; have E := Lib.hid E0; clear E0 hb0))
    go_ret
    exact ⟨rfl, E.out.bel⟩
  · rw [hd] at h1
    rw [decide_eq_false hr] at h2
    clear hd hr
    go_enter Try.func6, Try.ntmps6
    go_wp2_with (first
    | (go_at_call 22; refine (hA.out _).mono ?_; rintro e w1 ⟨rfl, hb⟩; have E1 := Lib.hid (E.out.later hb); clear hb E; have E := E1; clear E1)
    | (go_at_call 9; refine (h1.out _).mono ?_; rintro e w2 ⟨rfl, hb⟩; have E1 := Lib.hid (E.out.later hb); clear hb E; have E := E1; clear E1)
    | (go_at_call 20; refine (h2.out _).mono ?_; rintro e w3 ⟨rfl, hb⟩; have E1 := Lib.hid (E.out.later hb); clear hb E; have E := E1; clear E1)
    | ((with_reducible refine kn_load E.out rfl rfl rfl rfl ?_)) | ((with_reducible refine kn_load_if E.out rfl rfl rfl rfl ?_)) | ((with_reducible refine kn_loads E.out rfl rfl rfl ?_ ?_); (focus (first | rfl | (simp only [i64s_length, u8s_length]; first | rfl | assumption | omega)))) | ((with_reducible refine kn_loads_if E.out rfl rfl rfl ?_ ?_); (focus (first | rfl | (simp only [i64s_length, u8s_length]; first | rfl | assumption | omega)))) | ((with_reducible refine kn_store1_int E.out rfl rfl rfl rfl rfl ?_); clear E; intro u E0; have E := Lib.hid E0; clear E0) | ((with_reducible refine kn_store1_slice E.out rfl rfl rfl rfl rfl ?_); clear E; intro u E0; have E := Lib.hid E0; clear E0) | ((with_reducible refine kn_store1_bool E.out rfl rfl rfl rfl rfl ?_); clear E; intro u E0; have E := Lib.hid E0; clear E0) | ((with_reducible refine kn_stores E.out rfl rfl rfl rfl rfl ?_ ?_ ?_); (focus (first | exact ⟨rfl, rfl⟩ | (simp only [i64s_length, u8s_length]; refine ⟨?_, ?_⟩ <;> first | rfl | assumption | omega))); (focus (first | exact i64s_one _ | exact u8s_one _ | simp [Value.oneCell'])); clear E; intro u E0; have E := Lib.hid E0; clear E0) | ((with_reducible refine kn_alloc E.out rfl rfl ?_); clear E; intro g u E0 hb0; have E := Lib.hid E0; clear E0 hb0) | ((with_reducible refine kn_box E.out rfl rfl rfl ?_); clear E; intro g u E0 hb0; have E := Lib.hid E0; clear E0 hb0) | ((with_reducible refine kn_box_int E.out rfl rfl rfl ?_); clear E; intro g u E0 hb0; have E := Lib.hid E0; clear E0 hb0) | ((with_reducible refine kn_box_slice E.out rfl rfl rfl ?_); clear E; intro g u E0 hb0; have E := Lib.hid E0; clear E0 hb0) | ((with_reducible refine kn_box_bool E.out rfl rfl rfl ?_); clear E; intro g u E0 hb0; have E := Lib.hid E0; clear E0 hb0) | ((with_reducible refine kn_box_func E.out rfl rfl rfl ?_); clear E; intro g u E0 hb0; have E := Lib.hid E0; clear E0 hb0))
    go_ret
    exact ⟨rfl, E.out.bel⟩

/-- A byte of the half. -/
theorem hfK_getD (W H : Int) (xs : List Nat) (a : Nat) : ∀ k t ch, t < k → ch < 4 → (hfK W H xs a k).getD (4 * t + ch) 0 = hfB W H xs ((t % a : Nat) : Int) ((t / a : Nat) : Int) ch
  | 0, t, _, h, _ => absurd h (by omega)
  | k + 1, t, ch, h, hc => by
    have hl := hfK_length W H xs a k
    rw [hfK]
    by_cases e : t = k
    · subst e
      rw [List.getD_eq_getElem?_getD, List.getElem?_append_right (by omega), hl, show 4 * t + ch - 4 * t = ch from by omega]
      have : ch = 0 ∨ ch = 1 ∨ ch = 2 ∨ ch = 3 := by omega
      rcases this with rfl | rfl | rfl | rfl <;> rfl
    · rw [List.getD_eq_getElem?_getD, List.getElem?_append_left (by omega), ← List.getD_eq_getElem?_getD]
      exact hfK_getD W H xs a k t ch (by omega) hc
theorem hf_at {W H : Int} (xs : List Nat) {a d k q : Nat} (ha : hv W = (a : Int)) (hd : hv H = (d : Int)) (hk : k < d) (hq : q < a) {ch : Nat} (hc : ch < 4) :
    (hf W H xs).getD (plc (a : Int) ((q : Nat) : Int) ((k : Nat) : Int) + ch) 0 = hfB W H xs ((q : Nat) : Int) ((k : Nat) : Int) ch := by
  have hp : plc (a : Int) ((q : Nat) : Int) ((k : Nat) : Int) = 4 * (k * a + q) := by
    unfold plc
    have : ((k : Int) * (a : Int) + (q : Int)) = ((k * a + q : Nat) : Int) := by simp
    rw [this]
    omega
  have hfe : hf W H xs = hfK W H xs a (a * d) := by unfold hf; rw [ha, hd]; rfl
  have hlt : k * a + q < a * d := by
    have : (k + 1) * a ≤ d * a := Nat.mul_le_mul_right a hk
    rw [Nat.add_mul, Nat.one_mul, Nat.mul_comm d a] at this
    omega
  rw [hp, hfe, hfK_getD _ _ _ _ _ _ _ hlt hc, (mod_step hq).1, (mod_step hq).2]
theorem between4 {xs ps : List Nat} {ch : Nat} {lo hi : Int} (h : ∀ i, i < 4 → lo ≤ ((xs.getD (ps.getD i 0 + ch) 0 : Nat) : Int) ∧ ((xs.getD (ps.getD i 0 + ch) 0 : Nat) : Int) ≤ hi) : lo ≤ (((sm xs ps ch 4 + 2) / 4 : Nat) : Int) ∧ (((sm xs ps ch 4 + 2) / 4 : Nat) : Int) ≤ hi := by
  have h0 := h 0 (by omega)
  have h1 := h 1 (by omega)
  have h2 := h 2 (by omega)
  have h3 := h 3 (by omega)
  simp only [sm]
  omega

set_option maxHeartbeats 8000000 in
set_option maxRecDepth 100000 in
theorem lit (W H : Int) (A : Option Addr) (n c : Nat) (xs : List Nat) (w : World) (hB : Bs w w.heap.size A n xs) (hl : lightB W H n = true) (hr : rightP W H n) :
    Calls Try.prog 6 #[img W H A n c] w fun e w' => e = .returned (.bool true) ∧ Below w.heap.size w w' := by
  have hn := lightB_le hl
  have hs := hr.1
  unfold szP at hs
  obtain ⟨s1, s2, s3, s4⟩ := hs
  have E := Lib.hid ((Kn.start w).arg_img (show Img w (img W H A n c) W H xs from ⟨A, n, c, rfl, by omega, hB⟩))
  have hA := Lib.hid mawake_any
  have h1 := Lib.hid (fun u => light_any W H A n c u (by omega))
  have h2 := Lib.hid (fun u => right_any W H A n c u (by omega))
  rw [hl] at h1
  rw [decide_eq_true hr] at h2
  have hxl : rightP W H xs.length := by rw [hB.1]; exact hr
  have h3 := Lib.hid (fun (u : World) (h : Img u (img W H A n c) W H xs) => mhalf_any _ W H xs u h)
  simp only [show ∀ z, putW (rightP W H xs.length) z = z from fun z => if_pos hxl, show ∀ z, putX (rightP W H xs.length) z = z from fun z => if_pos hxl, show noE (rightP W H xs.length) = 0 from if_pos hxl] at h3
  have HHR := Lib.hid (hf_right hr xs)
  have HA := Lib.hid (fun (X Y : Int) (u : World) (hu : Img u (img W H A n c) W H xs) => at_any (img W H A n c) W H xs X Y u hu)
  have HV := Lib.hid (fun (X Y : Int) (hi : insP X Y W H) => show atV W H xs X Y = tex xs (plc W X Y) from if_pos ⟨hxl, hi⟩)
  obtain ⟨a, ha⟩ : ∃ a : Nat, hv W = (a : Int) := ⟨(hv W).toNat, by have := hv_pos W; omega⟩
  obtain ⟨d, hd⟩ : ∃ d : Nat, hv H = (d : Int) := ⟨(hv H).toNat, by have := hv_pos H; omega⟩
  have ha1 : 1 ≤ a := by have := hv_pos W; omega
  have hd1 : 1 ≤ d := by have := hv_pos H; omega
  have ha2 : a ≤ 4096 := by have := hv_le s1; omega
  have hd2 : d ≤ 4096 := by have := hv_le s3; omega
  have HIN := Lib.hid (fun (k q : Nat) (hk : k < d) (hq : q < a) => show insP ((q : Nat) : Int) ((k : Nat) : Int) (hv W) (hv H) from by rw [ha, hd]; exact ⟨by omega, by omega, by omega, by omega⟩)
  have HF := Lib.hid (fun (k q : Nat) (hk : k < d) (hq : q < a) (j : Nat) (hj : j < 4) => four_at hr.1 (HIN.out k q hk hq) j hj)
  have HM := Lib.hid (fun (X Y : Int) (hX : 0 ≤ X) (hY : 0 ≤ Y) => mn_ins hr hX hY)
  have HGB := Lib.hid (fun i => getD_byte hB.2.1 i)
  have HHA := Lib.hid (fun (k q : Nat) (hk : k < d) (hq : q < a) (ch : Nat) (hc : ch < 4) => hf_at xs ha hd hk hq hc)
  have HSm := Lib.hid (fun (k q ch : Nat) => sm_four W H xs ((q : Nat) : Int) ((k : Nat) : Int) ch)
  have HB4 := Lib.hid (fun (k q ch : Nat) => hfB_lt hB.2.1 W H ((q : Nat) : Int) ((k : Nat) : Int) ch)
  have hq1 : (if W / 2 < 1 then (1 : Int) else W / 2) = (a : Int) := by rw [← ha]; rfl
  have hq2 : (if H / 2 < 1 then (1 : Int) else H / 2) = (d : Int) := by rw [← hd]; rfl
  rw [ha, hd] at h3 HHR
  clear hl hr hB hxl ha hd HIN
  generalize hf W H xs = hx at *
  go_enter Try.func6, Try.ntmps6
  go_upto_region 6 with (first
    | (go_at_call 22; refine (hA.out _).mono ?_; rintro e w1 ⟨rfl, hb⟩; have E1 := Lib.hid (E.out.later hb); clear hb E; have E := E1; clear E1)
    | (go_at_call 9; refine (h1.out _).mono ?_; rintro e w2 ⟨rfl, hb⟩; have E1 := Lib.hid (E.out.later hb); clear hb E; have E := E1; clear E1)
    | (go_at_call 20; refine (h2.out _).mono ?_; rintro e w3 ⟨rfl, hb⟩; have E1 := Lib.hid ((E.out.later hb).rest1); clear hb E; have E := E1; clear E1)
    | (go_at_call 23; refine (h3.out _ E.out.img).mono ?_; rintro e w4 ⟨v4, rfl, hI, hb⟩; obtain ⟨A4, n4, c4, rfl, hn4, hB4, _⟩ := hI; have hnl := Lib.hid hB4.1; have E1 := Lib.hid ((E.out.later hb).new_img (show Img w4 (img (a : Int) (d : Int) A4 n4 c4) (a : Int) (d : Int) hx from ⟨A4, n4, c4, rfl, hn4, hB4⟩)); clear hb hB4 E; have E := E1; clear E1)
    | ((with_reducible refine kn_load E.out rfl rfl rfl rfl ?_)) | ((with_reducible refine kn_load_if E.out rfl rfl rfl rfl ?_)) | ((with_reducible refine kn_loads E.out rfl rfl rfl ?_ ?_); (focus (first | rfl | (simp only [i64s_length, u8s_length]; first | rfl | assumption | omega)))) | ((with_reducible refine kn_loads_if E.out rfl rfl rfl ?_ ?_); (focus (first | rfl | (simp only [i64s_length, u8s_length]; first | rfl | assumption | omega)))) | ((with_reducible refine kn_store1_int E.out rfl rfl rfl rfl rfl ?_); clear E; intro u E0; have E := Lib.hid (Kn.rest1 E0); clear E0) | ((with_reducible refine kn_store1_slice E.out rfl rfl rfl rfl rfl ?_); clear E; intro u E0; have E := Lib.hid (Kn.rest1 E0); clear E0) | ((with_reducible refine kn_store1_bool E.out rfl rfl rfl rfl rfl ?_); clear E; intro u E0; have E := Lib.hid (Kn.rest1 E0); clear E0) | ((with_reducible refine kn_stores E.out rfl rfl rfl rfl rfl ?_ ?_ ?_); (focus (first | exact ⟨rfl, rfl⟩ | (simp only [i64s_length, u8s_length]; refine ⟨?_, ?_⟩ <;> first | rfl | assumption | omega))); (focus (first | exact i64s_one _ | exact u8s_one _ | simp [Value.oneCell'])); clear E; intro u E0; have E := Lib.hid (Kn.rest1 E0); clear E0) | ((with_reducible refine kn_alloc (o := ⟨some 1, _, _, _, _, _⟩) E.out rfl rfl ?_); clear E; intro g1 u E0 hb0; have E := Lib.hid E0; clear E0 hb0) | ((with_reducible refine kn_box (o := ⟨some 1, _, _, _, _, _⟩) E.out rfl rfl rfl ?_); clear E; intro g1 u E0 hb0; have E := Lib.hid E0; clear E0 hb0) | ((with_reducible refine kn_box_int (o := ⟨some 1, _, _, _, _, _⟩) E.out rfl rfl rfl ?_); clear E; intro g1 u E0 hb0; have E := Lib.hid E0; clear E0 hb0) | ((with_reducible refine kn_box_slice (o := ⟨some 1, _, _, _, _, _⟩) E.out rfl rfl rfl ?_); clear E; intro g1 u E0 hb0; have E := Lib.hid E0; clear E0 hb0) | ((with_reducible refine kn_box_bool (o := ⟨some 1, _, _, _, _, _⟩) E.out rfl rfl rfl ?_); clear E; intro g1 u E0 hb0; have E := Lib.hid E0; clear E0 hb0) | ((with_reducible refine kn_box_func (o := ⟨some 1, _, _, _, _, _⟩) E.out rfl rfl rfl ?_); clear E; intro g1 u E0 hb0; have E := Lib.hid E0; clear E0 hb0) | ((with_reducible refine kn_alloc (o := ⟨some 5, _, _, _, _, _⟩) E.out rfl rfl ?_); clear E; intro g5 u E0 hb0; have E := Lib.hid E0; clear E0 hb0) | ((with_reducible refine kn_box (o := ⟨some 5, _, _, _, _, _⟩) E.out rfl rfl rfl ?_); clear E; intro g5 u E0 hb0; have E := Lib.hid E0; clear E0 hb0) | ((with_reducible refine kn_box_int (o := ⟨some 5, _, _, _, _, _⟩) E.out rfl rfl rfl ?_); clear E; intro g5 u E0 hb0; have E := Lib.hid E0; clear E0 hb0) | ((with_reducible refine kn_box_slice (o := ⟨some 5, _, _, _, _, _⟩) E.out rfl rfl rfl ?_); clear E; intro g5 u E0 hb0; have E := Lib.hid E0; clear E0 hb0) | ((with_reducible refine kn_box_bool (o := ⟨some 5, _, _, _, _, _⟩) E.out rfl rfl rfl ?_); clear E; intro g5 u E0 hb0; have E := Lib.hid E0; clear E0 hb0) | ((with_reducible refine kn_box_func (o := ⟨some 5, _, _, _, _, _⟩) E.out rfl rfl rfl ?_); clear E; intro g5 u E0 hb0; have E := Lib.hid E0; clear E0 hb0) | ((with_reducible refine kn_alloc E.out rfl rfl ?_); clear E; intro g u E0 hb0; have E := Lib.hid E0; clear E0 hb0) | ((with_reducible refine kn_box E.out rfl rfl rfl ?_); clear E; intro g u E0 hb0; have E := Lib.hid E0; clear E0 hb0) | ((with_reducible refine kn_box_int E.out rfl rfl rfl ?_); clear E; intro g u E0 hb0; have E := Lib.hid E0; clear E0 hb0) | ((with_reducible refine kn_box_slice E.out rfl rfl rfl ?_); clear E; intro g u E0 hb0; have E := Lib.hid E0; clear E0 hb0) | ((with_reducible refine kn_box_bool E.out rfl rfl rfl ?_); clear E; intro g u E0 hb0; have E := Lib.hid E0; clear E0 hb0) | ((with_reducible refine kn_box_func E.out rfl rfl rfl ?_); clear E; intro g u E0 hb0; have E := Lib.hid E0; clear E0 hb0))
  have h5 := Lib.hid (fun u => right_any (a : Int) (d : Int) A4 n4 c4 u (by omega))
  rw [decide_eq_true (show rightP (a : Int) (d : Int) n4 from by rw [← hnl.out]; exact HHR.out)] at h5
  go_wp2_with (first
    | (go_at_call 20; refine (h5.out _).mono ?_; rintro e w5 ⟨rfl, hb⟩; have E1 := Lib.hid (E.out.later hb); clear hb E; have E := E1; clear E1)
    | ((with_reducible refine kn_load E.out rfl rfl rfl rfl ?_)) | ((with_reducible refine kn_load_if E.out rfl rfl rfl rfl ?_)) | ((with_reducible refine kn_loads E.out rfl rfl rfl ?_ ?_); (focus (first | rfl | (simp only [i64s_length, u8s_length]; first | rfl | assumption | omega)))) | ((with_reducible refine kn_loads_if E.out rfl rfl rfl ?_ ?_); (focus (first | rfl | (simp only [i64s_length, u8s_length]; first | rfl | assumption | omega)))) | ((with_reducible refine kn_store1_int E.out rfl rfl rfl rfl rfl ?_); clear E; intro u E0; have E := Lib.hid (Kn.rest1 E0); clear E0) | ((with_reducible refine kn_store1_slice E.out rfl rfl rfl rfl rfl ?_); clear E; intro u E0; have E := Lib.hid (Kn.rest1 E0); clear E0) | ((with_reducible refine kn_store1_bool E.out rfl rfl rfl rfl rfl ?_); clear E; intro u E0; have E := Lib.hid (Kn.rest1 E0); clear E0) | ((with_reducible refine kn_stores E.out rfl rfl rfl rfl rfl ?_ ?_ ?_); (focus (first | exact ⟨rfl, rfl⟩ | (simp only [i64s_length, u8s_length]; refine ⟨?_, ?_⟩ <;> first | rfl | assumption | omega))); (focus (first | exact i64s_one _ | exact u8s_one _ | simp [Value.oneCell'])); clear E; intro u E0; have E := Lib.hid (Kn.rest1 E0); clear E0) | ((with_reducible refine kn_alloc E.out rfl rfl ?_); clear E; intro g u E0 hb0; have E := Lib.hid E0; clear E0 hb0) | ((with_reducible refine kn_box E.out rfl rfl rfl ?_); clear E; intro g u E0 hb0; have E := Lib.hid E0; clear E0 hb0) | ((with_reducible refine kn_box_int E.out rfl rfl rfl ?_); clear E; intro g u E0 hb0; have E := Lib.hid E0; clear E0 hb0) | ((with_reducible refine kn_box_slice E.out rfl rfl rfl ?_); clear E; intro g u E0 hb0; have E := Lib.hid E0; clear E0 hb0) | ((with_reducible refine kn_box_bool E.out rfl rfl rfl ?_); clear E; intro g u E0 hb0; have E := Lib.hid E0; clear E0 hb0) | ((with_reducible refine kn_box_func E.out rfl rfl rfl ?_); clear E; intro g u E0 hb0; have E := Lib.hid E0; clear E0 hb0))
  have E1 := Lib.hid (E.out.part [] [rowF g5 24 (imL (a : Int) (d : Int) A4 n4 c4), imgF (img (a : Int) (d : Int) A4 n4 c4) (a : Int) (d : Int) hx, rowF g1 24 (imL W H A n c), imgF (img W H A n c) W H xs] (List.Sublist.refl _) (by simp))
  have HAh := Lib.hid (fun (X Y : Int) (u : World) (hu : Img u (img (a : Int) (d : Int) A4 n4 c4) (a : Int) (d : Int) hx) => at_any _ (a : Int) (d : Int) hx X Y u hu)
  have HVh := Lib.hid (fun (k q : Nat) (hk : k < d) (hq : q < a) => show atV (a : Int) (d : Int) hx ((q : Nat) : Int) ((k : Nat) : Int) = tex hx (plc (a : Int) ((q : Nat) : Int) ((k : Nat) : Int)) from if_pos ⟨HHR.out, by omega, by omega, by omega, by omega⟩)
  clear E hA h1 h2 h3 h5
  have E := E1
  clear E1
  go_loopw [7] (fun i wr => ∃ k : Nat, k ≤ d ∧ i = .int .i64 k ∧ Hid (Kn w [] [rowF g5 24 (imL (a : Int) (d : Int) A4 n4 c4), imgF (img (a : Int) (d : Int) A4 n4 c4) (a : Int) (d : Int) hx, rowF g1 24 (imL W H A n c), imgF (img W H A n c) W H xs] wr)) (fun i _ => d - (intOf i).toNat)
  case atStart => exact ⟨0, by omega, rfl, E⟩
  case round =>
    clear E
    obtain ⟨k, hk1, rfl, E⟩ := hrel
    by_cases hlt : k < d
    · go_wp2_with (first | ((with_reducible refine kn_load E.out rfl rfl rfl rfl ?_)) | ((with_reducible refine kn_load_if E.out rfl rfl rfl rfl ?_)) | ((with_reducible refine kn_loads E.out rfl rfl rfl ?_ ?_); (focus (first | rfl | (simp only [i64s_length, u8s_length]; first | rfl | assumption | omega)))) | ((with_reducible refine kn_loads_if E.out rfl rfl rfl ?_ ?_); (focus (first | rfl | (simp only [i64s_length, u8s_length]; first | rfl | assumption | omega)))) | ((with_reducible refine kn_store1_int E.out rfl rfl rfl rfl rfl ?_); clear E; intro u E0; have E := Lib.hid (Kn.rest1 E0); clear E0) | ((with_reducible refine kn_store1_slice E.out rfl rfl rfl rfl rfl ?_); clear E; intro u E0; have E := Lib.hid (Kn.rest1 E0); clear E0) | ((with_reducible refine kn_store1_bool E.out rfl rfl rfl rfl rfl ?_); clear E; intro u E0; have E := Lib.hid (Kn.rest1 E0); clear E0) | ((with_reducible refine kn_stores E.out rfl rfl rfl rfl rfl ?_ ?_ ?_); (focus (first | exact ⟨rfl, rfl⟩ | (simp only [i64s_length, u8s_length]; refine ⟨?_, ?_⟩ <;> first | rfl | assumption | omega))); (focus (first | exact i64s_one _ | exact u8s_one _ | simp [Value.oneCell'])); clear E; intro u E0; have E := Lib.hid (Kn.rest1 E0); clear E0) | ((with_reducible refine kn_alloc E.out rfl rfl ?_); clear E; intro g u E0 hb0; have E := Lib.hid E0; clear E0 hb0) | ((with_reducible refine kn_box E.out rfl rfl rfl ?_); clear E; intro g u E0 hb0; have E := Lib.hid E0; clear E0 hb0) | ((with_reducible refine kn_box_int E.out rfl rfl rfl ?_); clear E; intro g u E0 hb0; have E := Lib.hid E0; clear E0 hb0) | ((with_reducible refine kn_box_slice E.out rfl rfl rfl ?_); clear E; intro g u E0 hb0; have E := Lib.hid E0; clear E0 hb0) | ((with_reducible refine kn_box_bool E.out rfl rfl rfl ?_); clear E; intro g u E0 hb0; have E := Lib.hid E0; clear E0 hb0) | ((with_reducible refine kn_box_func E.out rfl rfl rfl ?_); clear E; intro g u E0 hb0; have E := Lib.hid E0; clear E0 hb0))
      try rw [show decide (k < d) = true from by simp; omega]
      go_loopw [8] (fun i wr => ∃ q : Nat, q ≤ a ∧ i = .int .i64 q ∧ Hid (Kn w [] [rowF g5 24 (imL (a : Int) (d : Int) A4 n4 c4), imgF (img (a : Int) (d : Int) A4 n4 c4) (a : Int) (d : Int) hx, rowF g1 24 (imL W H A n c), imgF (img W H A n c) W H xs] wr)) (fun i _ => a - (intOf i).toNat)
      case atStart => exact ⟨0, by omega, rfl, E⟩
      case round =>
        clear E
        obtain ⟨q, hq3, rfl, E⟩ := hrel
        by_cases hlt2 : q < a
        · have hAh := Lib.hid (HAh.out ((q : Nat) : Int) ((k : Nat) : Int))
          rw [HVh.out k q hlt hlt2] at hAh
          have hTL := tex_length hx (plc (a : Int) ((q : Nat) : Int) ((k : Nat) : Int))
          have hTV := Lib.hid (fun (ch : Nat) (hc : ch < 4) => show (i64s (tex hx (plc (a : Int) ((q : Nat) : Int) ((k : Nat) : Int))))[ch]? = some (.int .i64 ((hfB W H xs ((q : Nat) : Int) ((k : Nat) : Int) ch : Nat) : Int)) from by rw [i64s_get _ _ (by rw [hTL]; exact hc), tex_getD _ _ _ hc, HHA.out k q hlt hlt2 ch hc])
          have hf4 := Lib.hid (HF.out k q hlt hlt2)
          have hsm := Lib.hid (HSm.out k q)
          have hb4 := Lib.hid (HB4.out k q)
          clear HF HSm HB4 HHA HAh HVh
          generalize hfB W H xs ((q : Nat) : Int) ((k : Nat) : Int) = tb at *
          generalize fourP W H ((q : Nat) : Int) ((k : Nat) : Int) = ps at *
          generalize tex hx (plc (a : Int) ((q : Nat) : Int) ((k : Nat) : Int)) = T at *
          generalize noE (atP (a : Int) (d : Int) hx ((q : Nat) : Int) ((k : Nat) : Int)) = er at *
          go_wp2_with (first
            | (go_at_call 31; refine (hAh.out _ E.out.img).mono ?_; rintro e w6 ⟨rfl, hb⟩; have E1 := Lib.hid (E.out.later hb); clear hb E; have E := E1; clear E1)
            | ((with_reducible refine kn_load E.out rfl rfl rfl rfl ?_)) | ((with_reducible refine kn_load_if E.out rfl rfl rfl rfl ?_)) | ((with_reducible refine kn_loads E.out rfl rfl rfl ?_ ?_); (focus (first | rfl | (simp only [i64s_length, u8s_length]; first | rfl | assumption | omega)))) | ((with_reducible refine kn_loads_if E.out rfl rfl rfl ?_ ?_); (focus (first | rfl | (simp only [i64s_length, u8s_length]; first | rfl | assumption | omega)))) | ((with_reducible refine kn_store1_int E.out rfl rfl rfl rfl rfl ?_); clear E; intro u E0; have E := Lib.hid (Kn.rest1 E0); clear E0) | ((with_reducible refine kn_store1_slice E.out rfl rfl rfl rfl rfl ?_); clear E; intro u E0; have E := Lib.hid (Kn.rest1 E0); clear E0) | ((with_reducible refine kn_store1_bool E.out rfl rfl rfl rfl rfl ?_); clear E; intro u E0; have E := Lib.hid (Kn.rest1 E0); clear E0) | ((with_reducible refine kn_stores E.out rfl rfl rfl rfl rfl ?_ ?_ ?_); (focus (first | exact ⟨rfl, rfl⟩ | (simp only [i64s_length, u8s_length]; refine ⟨?_, ?_⟩ <;> first | rfl | assumption | omega))); (focus (first | exact i64s_one _ | exact u8s_one _ | simp [Value.oneCell'])); clear E; intro u E0; have E := Lib.hid (Kn.rest1 E0); clear E0) | ((with_reducible refine kn_alloc (o := ⟨some 9, _, _, _, _, _⟩) E.out rfl rfl ?_); clear E; intro g9 u E0 hb0; have E := Lib.hid E0; clear E0 hb0) | ((with_reducible refine kn_box (o := ⟨some 9, _, _, _, _, _⟩) E.out rfl rfl rfl ?_); clear E; intro g9 u E0 hb0; have E := Lib.hid E0; clear E0 hb0) | ((with_reducible refine kn_box_int (o := ⟨some 9, _, _, _, _, _⟩) E.out rfl rfl rfl ?_); clear E; intro g9 u E0 hb0; have E := Lib.hid E0; clear E0 hb0) | ((with_reducible refine kn_box_slice (o := ⟨some 9, _, _, _, _, _⟩) E.out rfl rfl rfl ?_); clear E; intro g9 u E0 hb0; have E := Lib.hid E0; clear E0 hb0) | ((with_reducible refine kn_box_bool (o := ⟨some 9, _, _, _, _, _⟩) E.out rfl rfl rfl ?_); clear E; intro g9 u E0 hb0; have E := Lib.hid E0; clear E0 hb0) | ((with_reducible refine kn_box_func (o := ⟨some 9, _, _, _, _, _⟩) E.out rfl rfl rfl ?_); clear E; intro g9 u E0 hb0; have E := Lib.hid E0; clear E0 hb0) | ((with_reducible refine kn_alloc E.out rfl rfl ?_); clear E; intro g u E0 hb0; have E := Lib.hid E0; clear E0 hb0) | ((with_reducible refine kn_box E.out rfl rfl rfl ?_); clear E; intro g u E0 hb0; have E := Lib.hid E0; clear E0 hb0) | ((with_reducible refine kn_box_int E.out rfl rfl rfl ?_); clear E; intro g u E0 hb0; have E := Lib.hid E0; clear E0 hb0) | ((with_reducible refine kn_box_slice E.out rfl rfl rfl ?_); clear E; intro g u E0 hb0; have E := Lib.hid E0; clear E0 hb0) | ((with_reducible refine kn_box_bool E.out rfl rfl rfl ?_); clear E; intro g u E0 hb0; have E := Lib.hid E0; clear E0 hb0) | ((with_reducible refine kn_box_func E.out rfl rfl rfl ?_); clear E; intro g u E0 hb0; have E := Lib.hid E0; clear E0 hb0))
          try rw [show decide (q < a) = true from by simp; omega]
          have E1 := Lib.hid (E.out.part [] [rowF g9 30 (i64s T), rowF g5 24 (imL (a : Int) (d : Int) A4 n4 c4), imgF (img (a : Int) (d : Int) A4 n4 c4) (a : Int) (d : Int) hx, rowF g1 24 (imL W H A n c), imgF (img W H A n c) W H xs] (List.Sublist.refl _) (by simp))
          clear E hAh
          have E := E1
          clear E1
          go_loopw [11] (fun i wr => ∃ ch : Nat, ch ≤ 4 ∧ i = .int .i64 ch ∧ Hid (Kn w [] [rowF g9 30 (i64s T), rowF g5 24 (imL (a : Int) (d : Int) A4 n4 c4), imgF (img (a : Int) (d : Int) A4 n4 c4) (a : Int) (d : Int) hx, rowF g1 24 (imL W H A n c), imgF (img W H A n c) W H xs] wr)) (fun i _ => 4 - (intOf i).toNat)
          case atStart => exact ⟨0, by omega, rfl, E⟩
          case round =>
            clear E
            obtain ⟨ch, hch, rfl, E⟩ := hrel
            by_cases hlt3 : ch < 4
            · have hchi : (ch : Int) < 4 := by omega
              have hTc := Lib.hid (hTV.out ch hlt3)
              have hsc := Lib.hid (hsm.out ch)
              have hbc := hb4.out ch
              clear hTV hsm hb4
              generalize tb ch = tv at *
              go_wp2_with (first | ((with_reducible refine kn_load E.out rfl rfl rfl rfl ?_)) | ((with_reducible refine kn_load_if E.out rfl rfl rfl rfl ?_)) | ((with_reducible refine kn_loads E.out rfl rfl rfl ?_ ?_); (focus (first | rfl | (simp only [i64s_length, u8s_length]; first | rfl | assumption | omega)))) | ((with_reducible refine kn_loads_if E.out rfl rfl rfl ?_ ?_); (focus (first | rfl | (simp only [i64s_length, u8s_length]; first | rfl | assumption | omega)))) | ((with_reducible refine kn_store1_int E.out rfl rfl rfl rfl rfl ?_); clear E; intro u E0; have E := Lib.hid (Kn.rest1 E0); clear E0) | ((with_reducible refine kn_store1_slice E.out rfl rfl rfl rfl rfl ?_); clear E; intro u E0; have E := Lib.hid (Kn.rest1 E0); clear E0) | ((with_reducible refine kn_store1_bool E.out rfl rfl rfl rfl rfl ?_); clear E; intro u E0; have E := Lib.hid (Kn.rest1 E0); clear E0) | ((with_reducible refine kn_stores E.out rfl rfl rfl rfl rfl ?_ ?_ ?_); (focus (first | exact ⟨rfl, rfl⟩ | (simp only [i64s_length, u8s_length]; refine ⟨?_, ?_⟩ <;> first | rfl | assumption | omega))); (focus (first | exact i64s_one _ | exact u8s_one _ | simp [Value.oneCell'])); clear E; intro u E0; have E := Lib.hid (Kn.rest1 E0); clear E0) | ((with_reducible refine kn_alloc E.out rfl rfl ?_); clear E; intro g u E0 hb0; have E := Lib.hid E0; clear E0 hb0) | ((with_reducible refine kn_box E.out rfl rfl rfl ?_); clear E; intro g u E0 hb0; have E := Lib.hid E0; clear E0 hb0) | ((with_reducible refine kn_box_int E.out rfl rfl rfl ?_); clear E; intro g u E0 hb0; have E := Lib.hid E0; clear E0 hb0) | ((with_reducible refine kn_box_slice E.out rfl rfl rfl ?_); clear E; intro g u E0 hb0; have E := Lib.hid E0; clear E0 hb0) | ((with_reducible refine kn_box_bool E.out rfl rfl rfl ?_); clear E; intro g u E0 hb0; have E := Lib.hid E0; clear E0 hb0) | ((with_reducible refine kn_box_func E.out rfl rfl rfl ?_); clear E; intro g u E0 hb0; have E := Lib.hid E0; clear E0 hb0))
              go_loopw [14, 12, 13] (fun i x y wr => ∃ (j : Nat) (lo hi : Int), j ≤ 4 ∧ i = .int .i64 j ∧ x = .int .i64 lo ∧ y = .int .i64 hi ∧ Hid (∀ e, e < j → lo ≤ ((xs.getD (ps.getD e 0 + ch) 0 : Nat) : Int) ∧ ((xs.getD (ps.getD e 0 + ch) 0 : Nat) : Int) ≤ hi) ∧ Hid (Kn w [] [rowF g9 30 (i64s T), rowF g5 24 (imL (a : Int) (d : Int) A4 n4 c4), imgF (img (a : Int) (d : Int) A4 n4 c4) (a : Int) (d : Int) hx, rowF g1 24 (imL W H A n c), imgF (img W H A n c) W H xs] wr)) (fun i _ _ _ => 4 - (intOf i).toNat)
              case atStart => exact ⟨0, 255, 0, by omega, rfl, rfl, rfl, fun e he => absurd he (by omega), E⟩
              case round =>
                clear E
                obtain ⟨j, lo, hi, hj, rfl, rfl, rfl, hbt, E⟩ := hrel
                by_cases hlt4 : j < 4
                · have hfj := hf4.out j hlt4
                  have hins := HM.out (2 * ((q : Nat) : Int) + (j : Int) % 2) (2 * ((k : Nat) : Int) + (j : Int) / 2) (by omega) (by omega)
                  have hAt := Lib.hid (HA.out (mn (2 * ((q : Nat) : Int) + (j : Int) % 2) (W - 1)) (mn (2 * ((k : Nat) : Int) + (j : Int) / 2) (H - 1)))
                  rw [HV.out _ _ hins, ← hfj] at hAt
                  have hmx2 := mn_cases (2 * ((q : Nat) : Int) + (j : Int) % 2) (W - 1)
                  have hmy2 := mn_cases (2 * ((k : Nat) : Int) + (j : Int) / 2) (H - 1)
                  have hUL := tex_length xs (ps.getD j 0)
                  have hUV := Lib.hid (show (i64s (tex xs (ps.getD j 0)))[ch]? = some (.int .i64 ((xs.getD (ps.getD j 0 + ch) 0 : Nat) : Int)) from by rw [i64s_get _ _ (by rw [hUL]; exact hlt3), tex_getD _ _ _ hlt3])
                  have hNB := Lib.hid (show ∀ lo' hi' : Int, lo' ≤ lo → hi ≤ hi' → lo' ≤ ((xs.getD (ps.getD j 0 + ch) 0 : Nat) : Int) → ((xs.getD (ps.getD j 0 + ch) 0 : Nat) : Int) ≤ hi' → ∀ e, e < j + 1 → lo' ≤ ((xs.getD (ps.getD e 0 + ch) 0 : Nat) : Int) ∧ ((xs.getD (ps.getD e 0 + ch) 0 : Nat) : Int) ≤ hi' from fun lo' hi' g1 g2 g3 g4 e he => by
                    rcases Nat.lt_or_ge e j with h | h
                    · have := hbt.out e h; omega
                    · obtain rfl : e = j := by omega
                      exact ⟨g3, g4⟩)
                  have hVb := HGB.out (ps.getD j 0 + ch)
                  clear hfj hins hbt
                  generalize xs.getD (ps.getD j 0 + ch) 0 = V at *
                  generalize tex xs (ps.getD j 0) = U at *
                  generalize noE (atP W H xs (mn (2 * ((q : Nat) : Int) + (j : Int) % 2) (W - 1)) (mn (2 * ((k : Nat) : Int) + (j : Int) / 2) (H - 1))) = er2 at *
                  generalize mn (2 * ((q : Nat) : Int) + (j : Int) % 2) (W - 1) = mx at *
                  generalize mn (2 * ((k : Nat) : Int) + (j : Int) / 2) (H - 1) = my at *
                  by_cases hl1 : (V : Int) < lo <;> by_cases hl2 : hi < (V : Int) <;>
                  · rcases hmx2 with ⟨hx1, rfl⟩ | ⟨hx1, rfl⟩ <;> rcases hmy2 with ⟨hy1, rfl⟩ | ⟨hy1, rfl⟩ <;>
                    · go_wp2_with (first
                        | (go_at_call 31; (with_reducible refine (hAt.out _ E.out.img).mono ?_); rintro e w7 ⟨rfl, hb⟩; have E1 := Lib.hid (E.out.later hb); clear hb E; have E := E1; clear E1)
                        | ((with_reducible refine kn_load (g := g15) (i := ch) (v := .int .i64 (V : Int)) E.out rfl rfl rfl hUV.out ?_))
                        | ((with_reducible refine kn_load E.out rfl rfl rfl rfl ?_)) | ((with_reducible refine kn_load_if E.out rfl rfl rfl rfl ?_)) | ((with_reducible refine kn_loads E.out rfl rfl rfl ?_ ?_); (focus (first | rfl | (simp only [i64s_length, u8s_length]; first | rfl | assumption | omega)))) | ((with_reducible refine kn_loads_if E.out rfl rfl rfl ?_ ?_); (focus (first | rfl | (simp only [i64s_length, u8s_length]; first | rfl | assumption | omega)))) | ((with_reducible refine kn_store1_int E.out rfl rfl rfl rfl rfl ?_); clear E; intro u E0; have E := Lib.hid (Kn.rest1 E0); clear E0) | ((with_reducible refine kn_store1_slice E.out rfl rfl rfl rfl rfl ?_); clear E; intro u E0; have E := Lib.hid (Kn.rest1 E0); clear E0) | ((with_reducible refine kn_store1_bool E.out rfl rfl rfl rfl rfl ?_); clear E; intro u E0; have E := Lib.hid (Kn.rest1 E0); clear E0) | ((with_reducible refine kn_stores E.out rfl rfl rfl rfl rfl ?_ ?_ ?_); (focus (first | exact ⟨rfl, rfl⟩ | (simp only [i64s_length, u8s_length]; refine ⟨?_, ?_⟩ <;> first | rfl | assumption | omega))); (focus (first | exact i64s_one _ | exact u8s_one _ | simp [Value.oneCell'])); clear E; intro u E0; have E := Lib.hid (Kn.rest1 E0); clear E0) | ((with_reducible refine kn_alloc (o := ⟨some 15, _, _, _, _, _⟩) E.out rfl rfl ?_); clear E; intro g15 u E0 hb0; have E := Lib.hid E0; clear E0 hb0) | ((with_reducible refine kn_box (o := ⟨some 15, _, _, _, _, _⟩) E.out rfl rfl rfl ?_); clear E; intro g15 u E0 hb0; have E := Lib.hid E0; clear E0 hb0) | ((with_reducible refine kn_box_int (o := ⟨some 15, _, _, _, _, _⟩) E.out rfl rfl rfl ?_); clear E; intro g15 u E0 hb0; have E := Lib.hid E0; clear E0 hb0) | ((with_reducible refine kn_box_slice (o := ⟨some 15, _, _, _, _, _⟩) E.out rfl rfl rfl ?_); clear E; intro g15 u E0 hb0; have E := Lib.hid E0; clear E0 hb0) | ((with_reducible refine kn_box_bool (o := ⟨some 15, _, _, _, _, _⟩) E.out rfl rfl rfl ?_); clear E; intro g15 u E0 hb0; have E := Lib.hid E0; clear E0 hb0) | ((with_reducible refine kn_box_func (o := ⟨some 15, _, _, _, _, _⟩) E.out rfl rfl rfl ?_); clear E; intro g15 u E0 hb0; have E := Lib.hid E0; clear E0 hb0) | ((with_reducible refine kn_alloc E.out rfl rfl ?_); clear E; intro g u E0 hb0; have E := Lib.hid E0; clear E0 hb0) | ((with_reducible refine kn_box E.out rfl rfl rfl ?_); clear E; intro g u E0 hb0; have E := Lib.hid E0; clear E0 hb0) | ((with_reducible refine kn_box_int E.out rfl rfl rfl ?_); clear E; intro g u E0 hb0; have E := Lib.hid E0; clear E0 hb0) | ((with_reducible refine kn_box_slice E.out rfl rfl rfl ?_); clear E; intro g u E0 hb0; have E := Lib.hid E0; clear E0 hb0) | ((with_reducible refine kn_box_bool E.out rfl rfl rfl ?_); clear E; intro g u E0 hb0; have E := Lib.hid E0; clear E0 hb0) | ((with_reducible refine kn_box_func E.out rfl rfl rfl ?_); clear E; intro g u E0 hb0; have E := Lib.hid E0; clear E0 hb0))
                      go_roundw
                      case rel => exact ⟨j + 1, _, _, by omega, by go_num, rfl, rfl, hNB.out _ _ (by omega) (by omega) (by omega) (by omega), E.out.part _ _ (List.Sublist.refl _) (by simp)⟩
                      case measure => simp [intOf]; omega
                · obtain rfl : j = 4 := by omega
                  have hbw := between4 hbt.out
                  rw [hsc.out] at hbw
                  obtain ⟨hb1, hb2⟩ := hbw
                  have hd1 : decide ((tv : Int) < lo) = false := by simp; omega
                  have hd2 : decide (hi < (tv : Int)) = false := by simp; omega
                  clear hbt
                  go_wp2_with (first
                    | ((with_reducible refine kn_load (g := g9) (i := ch) (v := .int .i64 (tv : Int)) E.out rfl rfl rfl hTc.out ?_))
                    | ((with_reducible refine kn_load_if (g := g9) (i := ch) (v := .int .i64 (tv : Int)) E.out rfl rfl rfl hTc.out ?_))
                    | ((with_reducible refine kn_load E.out rfl rfl rfl rfl ?_)) | ((with_reducible refine kn_load_if E.out rfl rfl rfl rfl ?_)) | ((with_reducible refine kn_loads E.out rfl rfl rfl ?_ ?_); (focus (first | rfl | (simp only [i64s_length, u8s_length]; first | rfl | assumption | omega)))) | ((with_reducible refine kn_loads_if E.out rfl rfl rfl ?_ ?_); (focus (first | rfl | (simp only [i64s_length, u8s_length]; first | rfl | assumption | omega)))) | ((with_reducible refine kn_store1_int E.out rfl rfl rfl rfl rfl ?_); clear E; intro u E0; have E := Lib.hid (Kn.rest1 E0); clear E0) | ((with_reducible refine kn_store1_slice E.out rfl rfl rfl rfl rfl ?_); clear E; intro u E0; have E := Lib.hid (Kn.rest1 E0); clear E0) | ((with_reducible refine kn_store1_bool E.out rfl rfl rfl rfl rfl ?_); clear E; intro u E0; have E := Lib.hid (Kn.rest1 E0); clear E0) | ((with_reducible refine kn_stores E.out rfl rfl rfl rfl rfl ?_ ?_ ?_); (focus (first | exact ⟨rfl, rfl⟩ | (simp only [i64s_length, u8s_length]; refine ⟨?_, ?_⟩ <;> first | rfl | assumption | omega))); (focus (first | exact i64s_one _ | exact u8s_one _ | simp [Value.oneCell'])); clear E; intro u E0; have E := Lib.hid (Kn.rest1 E0); clear E0) | ((with_reducible refine kn_alloc E.out rfl rfl ?_); clear E; intro g u E0 hb0; have E := Lib.hid E0; clear E0 hb0) | ((with_reducible refine kn_box E.out rfl rfl rfl ?_); clear E; intro g u E0 hb0; have E := Lib.hid E0; clear E0 hb0) | ((with_reducible refine kn_box_int E.out rfl rfl rfl ?_); clear E; intro g u E0 hb0; have E := Lib.hid E0; clear E0 hb0) | ((with_reducible refine kn_box_slice E.out rfl rfl rfl ?_); clear E; intro g u E0 hb0; have E := Lib.hid E0; clear E0 hb0) | ((with_reducible refine kn_box_bool E.out rfl rfl rfl ?_); clear E; intro g u E0 hb0; have E := Lib.hid E0; clear E0 hb0) | ((with_reducible refine kn_box_func E.out rfl rfl rfl ?_); clear E; intro g u E0 hb0; have E := Lib.hid E0; clear E0 hb0))
                  go_roundw
                  case rel => exact ⟨ch + 1, by omega, by go_num, E⟩
                  case measure => simp [intOf]; omega
            · obtain rfl : ch = 4 := by omega
              go_wp2_with (first | ((with_reducible refine kn_load E.out rfl rfl rfl rfl ?_)) | ((with_reducible refine kn_load_if E.out rfl rfl rfl rfl ?_)) | ((with_reducible refine kn_loads E.out rfl rfl rfl ?_ ?_); (focus (first | rfl | (simp only [i64s_length, u8s_length]; first | rfl | assumption | omega)))) | ((with_reducible refine kn_loads_if E.out rfl rfl rfl ?_ ?_); (focus (first | rfl | (simp only [i64s_length, u8s_length]; first | rfl | assumption | omega)))) | ((with_reducible refine kn_store1_int E.out rfl rfl rfl rfl rfl ?_); clear E; intro u E0; have E := Lib.hid (Kn.rest1 E0); clear E0) | ((with_reducible refine kn_store1_slice E.out rfl rfl rfl rfl rfl ?_); clear E; intro u E0; have E := Lib.hid (Kn.rest1 E0); clear E0) | ((with_reducible refine kn_store1_bool E.out rfl rfl rfl rfl rfl ?_); clear E; intro u E0; have E := Lib.hid (Kn.rest1 E0); clear E0) | ((with_reducible refine kn_stores E.out rfl rfl rfl rfl rfl ?_ ?_ ?_); (focus (first | exact ⟨rfl, rfl⟩ | (simp only [i64s_length, u8s_length]; refine ⟨?_, ?_⟩ <;> first | rfl | assumption | omega))); (focus (first | exact i64s_one _ | exact u8s_one _ | simp [Value.oneCell'])); clear E; intro u E0; have E := Lib.hid (Kn.rest1 E0); clear E0) | ((with_reducible refine kn_alloc E.out rfl rfl ?_); clear E; intro g u E0 hb0; have E := Lib.hid E0; clear E0 hb0) | ((with_reducible refine kn_box E.out rfl rfl rfl ?_); clear E; intro g u E0 hb0; have E := Lib.hid E0; clear E0 hb0) | ((with_reducible refine kn_box_int E.out rfl rfl rfl ?_); clear E; intro g u E0 hb0; have E := Lib.hid E0; clear E0 hb0) | ((with_reducible refine kn_box_slice E.out rfl rfl rfl ?_); clear E; intro g u E0 hb0; have E := Lib.hid E0; clear E0 hb0) | ((with_reducible refine kn_box_bool E.out rfl rfl rfl ?_); clear E; intro g u E0 hb0; have E := Lib.hid E0; clear E0 hb0) | ((with_reducible refine kn_box_func E.out rfl rfl rfl ?_); clear E; intro g u E0 hb0; have E := Lib.hid E0; clear E0 hb0))
              go_roundw
              case rel => exact ⟨q + 1, by omega, by go_num, E.out.part _ _ (List.Sublist.refl _) (by simp)⟩
              case measure => simp [intOf]; omega
        · obtain rfl : q = a := by omega
          go_wp2_with (first | ((with_reducible refine kn_load E.out rfl rfl rfl rfl ?_)) | ((with_reducible refine kn_load_if E.out rfl rfl rfl rfl ?_)) | ((with_reducible refine kn_loads E.out rfl rfl rfl ?_ ?_); (focus (first | rfl | (simp only [i64s_length, u8s_length]; first | rfl | assumption | omega)))) | ((with_reducible refine kn_loads_if E.out rfl rfl rfl ?_ ?_); (focus (first | rfl | (simp only [i64s_length, u8s_length]; first | rfl | assumption | omega)))) | ((with_reducible refine kn_store1_int E.out rfl rfl rfl rfl rfl ?_); clear E; intro u E0; have E := Lib.hid (Kn.rest1 E0); clear E0) | ((with_reducible refine kn_store1_slice E.out rfl rfl rfl rfl rfl ?_); clear E; intro u E0; have E := Lib.hid (Kn.rest1 E0); clear E0) | ((with_reducible refine kn_store1_bool E.out rfl rfl rfl rfl rfl ?_); clear E; intro u E0; have E := Lib.hid (Kn.rest1 E0); clear E0) | ((with_reducible refine kn_stores E.out rfl rfl rfl rfl rfl ?_ ?_ ?_); (focus (first | exact ⟨rfl, rfl⟩ | (simp only [i64s_length, u8s_length]; refine ⟨?_, ?_⟩ <;> first | rfl | assumption | omega))); (focus (first | exact i64s_one _ | exact u8s_one _ | simp [Value.oneCell'])); clear E; intro u E0; have E := Lib.hid (Kn.rest1 E0); clear E0) | ((with_reducible refine kn_alloc E.out rfl rfl ?_); clear E; intro g u E0 hb0; have E := Lib.hid E0; clear E0 hb0) | ((with_reducible refine kn_box E.out rfl rfl rfl ?_); clear E; intro g u E0 hb0; have E := Lib.hid E0; clear E0 hb0) | ((with_reducible refine kn_box_int E.out rfl rfl rfl ?_); clear E; intro g u E0 hb0; have E := Lib.hid E0; clear E0 hb0) | ((with_reducible refine kn_box_slice E.out rfl rfl rfl ?_); clear E; intro g u E0 hb0; have E := Lib.hid E0; clear E0 hb0) | ((with_reducible refine kn_box_bool E.out rfl rfl rfl ?_); clear E; intro g u E0 hb0; have E := Lib.hid E0; clear E0 hb0) | ((with_reducible refine kn_box_func E.out rfl rfl rfl ?_); clear E; intro g u E0 hb0; have E := Lib.hid E0; clear E0 hb0))
          go_roundw
          case rel => exact ⟨k + 1, by omega, by go_num, E⟩
          case measure => simp [intOf]; omega
    · obtain rfl : k = d := by omega
      go_wp2_with (first | ((with_reducible refine kn_load E.out rfl rfl rfl rfl ?_)) | ((with_reducible refine kn_load_if E.out rfl rfl rfl rfl ?_)) | ((with_reducible refine kn_loads E.out rfl rfl rfl ?_ ?_); (focus (first | rfl | (simp only [i64s_length, u8s_length]; first | rfl | assumption | omega)))) | ((with_reducible refine kn_loads_if E.out rfl rfl rfl ?_ ?_); (focus (first | rfl | (simp only [i64s_length, u8s_length]; first | rfl | assumption | omega)))) | ((with_reducible refine kn_store1_int E.out rfl rfl rfl rfl rfl ?_); clear E; intro u E0; have E := Lib.hid (Kn.rest1 E0); clear E0) | ((with_reducible refine kn_store1_slice E.out rfl rfl rfl rfl rfl ?_); clear E; intro u E0; have E := Lib.hid (Kn.rest1 E0); clear E0) | ((with_reducible refine kn_store1_bool E.out rfl rfl rfl rfl rfl ?_); clear E; intro u E0; have E := Lib.hid (Kn.rest1 E0); clear E0) | ((with_reducible refine kn_stores E.out rfl rfl rfl rfl rfl ?_ ?_ ?_); (focus (first | exact ⟨rfl, rfl⟩ | (simp only [i64s_length, u8s_length]; refine ⟨?_, ?_⟩ <;> first | rfl | assumption | omega))); (focus (first | exact i64s_one _ | exact u8s_one _ | simp [Value.oneCell'])); clear E; intro u E0; have E := Lib.hid (Kn.rest1 E0); clear E0) | ((with_reducible refine kn_alloc E.out rfl rfl ?_); clear E; intro g u E0 hb0; have E := Lib.hid E0; clear E0 hb0) | ((with_reducible refine kn_box E.out rfl rfl rfl ?_); clear E; intro g u E0 hb0; have E := Lib.hid E0; clear E0 hb0) | ((with_reducible refine kn_box_int E.out rfl rfl rfl ?_); clear E; intro g u E0 hb0; have E := Lib.hid E0; clear E0 hb0) | ((with_reducible refine kn_box_slice E.out rfl rfl rfl ?_); clear E; intro g u E0 hb0; have E := Lib.hid E0; clear E0 hb0) | ((with_reducible refine kn_box_bool E.out rfl rfl rfl ?_); clear E; intro g u E0 hb0; have E := Lib.hid E0; clear E0 hb0) | ((with_reducible refine kn_box_func E.out rfl rfl rfl ?_); clear E; intro g u E0 hb0; have E := Lib.hid E0; clear E0 hb0))
      go_ret
      exact ⟨rfl, E.out.bel⟩

theorem walk (W H : Int) (A : Option Addr) (n c : Nat) (xs : List Nat) (w : World) (hB : Bs w w.heap.size A n xs) (hn : n ≤ 9223372036854775807) :
    Calls Try.prog 6 #[img W H A n c] w fun e w' => e = .returned (.bool true) ∧ Below w.heap.size w w' := by
  by_cases h1 : lightB W H n = true
  · by_cases h2 : rightP W H n
    · exact lit W H A n c xs w hB h1 h2
    · exact dark W H A n c w hn (.inr ⟨h1, h2⟩)
  · exact dark W H A n c w hn (.inl (by simpa using h1))

theorem own : ownKnob Try.prog.godebug = none := by kernel_rfl
theorem laidOut : laidOutB Try.prog = true := by kernel_rfl

set_option maxRecDepth 100000 in
theorem lifted (os : Os) (started : os.Started) (H : Type) (enc : TypeId × Value → H) :
    ReturnsInHanded {} Try.checked os 6 .any (Rows.mipBetweenSpec.pre6 enc Try.prog Try.f6 Rows.mipBetweenRow.domain false) (Rows.mipBetweenSpec.post enc Try.prog Try.f6 false true false false) := by
  refine returnsInHanded_of_change (C := Try.checked) own started (by kernel_rfl) Try.func6
    (ChangeSpec.witness6 (enc := enc) (C := Try.checked) false ⟨#[], #[.agg #[.int .i64 0, .int .i64 0, .slice none 0 0]], []⟩ 8 (by kernel_rfl) (by kernel_rfl) (by kernel_rfl) (by kernel_rfl)) ?_
  intro W base args ds gs before hval0 hW hcnd _
  have hval : ∀ (j : Nat) t v, Try.f6.params[j]? = some t → args[j]? = some v → Value.okWide Try.prog W .any base t v := hval0
  have hW' := hW
  obtain ⟨p, q, hA0, hV, rfl, hfz, hnd⟩ := hW
  have hA : DataW.TrodAll enc Try.prog W 0 (fun _ => true) true Try.f6.params.toList args.toList ds p := hA0
  rw [Try.params6] at hA hval
  obtain ⟨v0, vs0, d0, ds0, p0, q0, hargs, rfl, rfl, h0, r0⟩ := trodAll_cons hA
  obtain ⟨rfl, rfl, rfl⟩ := trodAll_nil r0
  obtain rfl : args = #[v0] := by cases args; simp_all
  have lt0 : ∀ x ∈ p0, x.block < W.heap.size := by obtain ⟨m, hm⟩ := h0; exact DataW.trod_lt m _ _ _ hm
  obtain ⟨rfl, rfl⟩ := trodVars_none hV
  obtain ⟨W0, H0, A0, n0, c0, xs0, rfl, hB0, hn0, bW0, bH0⟩ := open_img Try.underlying24 (by kernel_rfl) rfl rfl rfl Try.underlying3 Try.underlying22 Try.underlying5 (by kernel_rfl) (by kernel_rfl) (hval 0 24 v0 rfl rfl) h0
  clear hA0 hval0
  refine (walk W0 H0 A0 n0 c0 xs0 W hB0 hn0).mono fun e W' ⟨he, bel⟩ => ?_
  subst he
  exact ⟨_, rfl, _, _, _, [], _, [], hW', trodAll_mk1 (shut_bool Try.underlying4 _), (trodAll_cons_mk (Below.trod laidOut (by kernel_rfl) (of_decide_eq_true (by kernel_rfl)) h0 bel lt0) trodAll_mk0), rfl, bel.frame _, fun h => by cases h⟩

theorem over : Rows.mipBetweenRow.holds Try.pinned (OpenSpec.ofChange Rows.mipBetweenSpec) :=
  OpenClaim.holds_of_wide 6 Try.f6 rfl rfl rfl rfl rfl rfl rfl ⟨rfl, rfl, rfl, rfl, rfl⟩ rfl rfl rfl rfl rfl (by kernel_rfl) Try.func6 (by kernel_rfl)
    (of_decide_eq_true (by kernel_rfl)) (by unfold Func.isWrapper; first | (rw [if_pos (by decide +kernel)]; kernel_rfl) | (rw [if_neg (by decide +kernel)]; exact ⟨rfl, rfl⟩))
    (fun os started H enc _ => lifted os started H enc)
end Go.Proofs.Yteamgegmcmcijaa.mipBetween

namespace Go.Proofs.Yteamgegmcmcijaa
theorem mipBetween_holds : Rows.MipBetweenSaid := mipBetween.over
#print axioms mipBetween_holds
end Go.Proofs.Yteamgegmcmcijaa
