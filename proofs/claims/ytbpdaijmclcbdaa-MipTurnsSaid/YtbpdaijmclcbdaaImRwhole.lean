/- The image of tiles, by the reference; and where there is none. -/
import Derived.Test.YtbpdaijmclcbdaaImRlay
import Derived.Test.YtbpdaijmclcbdaaImWhole
namespace Go.Proofs.Ytbpdaijmclcbdaa
open Go.RowKit
open Im

/-- A slice of tiles, as a fact. -/
theorem Kn.arg_rs {w u : World} {R : List Res} {F : List (World → Prop)} (E : Kn w R F u) {A : Option Addr} {n : Nat} {vs : List Value} (h : Rs w w.heap.size A n vs) : Kn w R (rsF A n vs :: F) u :=
  E.fact fun u' hk => by
    have h2 : Rs u w.heap.size A n vs := h.below E.bel
    refine ⟨h2.1, fun hn => ?_⟩
    obtain ⟨b, off, e, hb, hc⟩ := h2.2 hn
    have hnot : b ∉ blocks R := fun hm => by
      obtain ⟨r, hr, e'⟩ := mem_blocks.1 hm
      have := (Res.range (E.res r hr) e').1
      omega
    refine ⟨b, off, e, Nat.lt_of_lt_of_le hb (Nat.le_trans E.bel.size hk.size), fun i v hv => ?_⟩
    rw [World.cell?_of_block (w := u) (hk.block b (Nat.lt_of_lt_of_le hb E.bel.size) hnot)]
    exact hc i v hv
/-- An image that a call has answered, whose bytes may not lie in a block that is held for writing: from before or since. -/
theorem Kn.kept_img {w u u' : World} {R : List Res} {F : List (World → Prop)} (E : Kn w R F u) (hb : Below u.heap.size u u') {v : Value} {W H : Int} {xs : List Nat} (h : Img u' v W H xs) (hf : ∀ b off, (∃ n c, v = Go.Proofs.Ytbpdaijmclcbdaa.img W H (some ⟨b, off, none⟩) n c) → b ∉ blocks R) : Kn w R (imgF v W H xs :: F) u' :=
  (E.later hb).fact fun u'' hk => by
    obtain ⟨A, n, c, e, hn, hB⟩ := h
    exact ⟨A, n, c, e, hn, hB.keeps (fun b off e' => hf b off ⟨n, c, by rw [e, e']⟩) hk⟩

set_option maxHeartbeats 1000000 in
theorem whole_no (W H : Int) (A : Option Addr) (m c : Nat) (w : World) (hm : m ≤ 1048576) (hp : ¬ (szP W H ∧ (m : Int) = tl W H * tl H W)) :
    Calls Try.prog 18 #[.int .i64 W, .int .i64 H, .slice A m c] w fun e w' => ∃ v', e = .returned (.tuple #[v', .int .i64 1]) ∧ Img w' v' 0 0 [] ∧ Below w.heap.size w w' := by
  have E := Lib.hid (Kn.start w)
  have hbi := built_image
  by_cases hs : szP W H
  · have hne0 : ¬ (m : Int) = tl W H * tl H W := fun e => hp ⟨hs, e⟩
    obtain ⟨a, ha, ha0, ha2⟩ := tl_nat hs
    obtain ⟨d, hd, hd0, hd2⟩ := tl_nat (szP.symm hs)
    rw [ha, hd] at hne0
    have hr : rightP W H (4 * W * H).toNat := ⟨hs, by have := mul_sz hs; have e : 4 * W * H = 4 * (W * H) := by rw [Int.mul_assoc]
                                                      omega⟩
    have hmx : a * d ≤ 1048576 := Nat.mul_le_mul ha2 hd2
    have hmul : wrap64 ((a : Int) * (d : Int)) = ((a * d : Nat) : Int) := by
      rw [show (a : Int) * (d : Int) = ((a * d : Nat) : Int) from by simp]
      exact wrap64_small _ (by omega) (by omega)
    have hne : ((m : Int) != ((a * d : Nat) : Int)) = true := by
      have : (m : Int) ≠ ((a * d : Nat) : Int) := by rw [show ((a * d : Nat) : Int) = (a : Int) * (d : Int) from by simp]; exact hne0
      simpa using this
    have hN := Lib.hid (fun u => new_ok W H _ u hr)
    have hsz := hs
    unfold szP at hsz
    have hTl := Lib.hid (fun u => tiles_any W H u (by omega) (by omega))
    rw [ha, hd] at hTl
    clear hne0 hp hs hr ha hd hmx
    generalize a * d = N at *
    generalize (4 * W * H).toNat = n at *
    go_enter Try.func18, Try.ntmps18
    go_wp2_with (first
      | (go_at_call 33; refine (hN.out _).mono ?_; rintro e w1 ⟨gp, rfl, _, _, hb⟩; have E1 := Lib.hid (E.out.later hb); clear hb E; have E := E1; clear E1)
      | (go_at_call 15; refine (hTl.out _).mono ?_; rintro e w2 ⟨rfl, rfl⟩)
      | ((with_reducible refine kn_load E.out rfl rfl rfl rfl ?_)) | ((with_reducible refine kn_load_if E.out rfl rfl rfl rfl ?_)) | ((with_reducible refine kn_loads E.out rfl rfl rfl ?_ ?_); (focus (first | rfl | (simp only [i64s_length, u8s_length]; first | rfl | assumption | omega)))) | ((with_reducible refine kn_loads_if E.out rfl rfl rfl ?_ ?_); (focus (first | rfl | (simp only [i64s_length, u8s_length]; first | rfl | assumption | omega)))) | ((with_reducible refine kn_store1_int E.out rfl rfl rfl rfl rfl ?_); clear E; intro u E0; have E := Lib.hid E0; clear E0) | ((with_reducible refine kn_store1_slice E.out rfl rfl rfl rfl rfl ?_); clear E; intro u E0; have E := Lib.hid E0; clear E0) | ((with_reducible refine kn_store1_bool E.out rfl rfl rfl rfl rfl ?_); clear E; intro u E0; have E := Lib.hid E0; clear E0) | ((with_reducible refine kn_stores E.out rfl rfl rfl rfl rfl ?_ ?_ ?_); (focus (first | exact ⟨rfl, rfl⟩ | (simp only [i64s_length, u8s_length]; refine ⟨?_, ?_⟩ <;> first | rfl | assumption | omega))); (focus (first | exact i64s_one _ | exact u8s_one _ | simp [Value.oneCell'])); clear E; intro u E0; have E := Lib.hid E0; clear E0) | ((with_reducible refine kn_alloc E.out rfl rfl ?_); clear E; intro g u E0 hb0; have E := Lib.hid E0; clear E0 hb0) | ((with_reducible refine kn_box E.out rfl rfl rfl ?_); clear E; intro g u E0 hb0; have E := Lib.hid E0; clear E0 hb0) | ((with_reducible refine kn_box_int E.out rfl rfl rfl ?_); clear E; intro g u E0 hb0; have E := Lib.hid E0; clear E0 hb0) | ((with_reducible refine kn_box_slice E.out rfl rfl rfl ?_); clear E; intro g u E0 hb0; have E := Lib.hid E0; clear E0 hb0) | ((with_reducible refine kn_box_bool E.out rfl rfl rfl ?_); clear E; intro g u E0 hb0; have E := Lib.hid E0; clear E0 hb0) | ((with_reducible refine kn_box_func E.out rfl rfl rfl ?_); clear E; intro g u E0 hb0; have E := Lib.hid E0; clear E0 hb0))
    refine bodyPost_ret (results_kn2 E.out rfl _ rfl rfl) rfl ?_
    exact ⟨_, rfl, Img.nil _, E.out.bel⟩
  · have hN := Lib.hid (fun u => new_no W H u hs)
    clear hp hs
    go_enter Try.func18, Try.ntmps18
    go_wp2_with (first
      | (go_at_call 33; refine (hN.out _).mono ?_; rintro e w1 ⟨rfl, hb⟩; have E1 := Lib.hid (E.out.later hb); clear hb E; have E := E1; clear E1)
      | ((with_reducible refine kn_load E.out rfl rfl rfl rfl ?_)) | ((with_reducible refine kn_load_if E.out rfl rfl rfl rfl ?_)) | ((with_reducible refine kn_loads E.out rfl rfl rfl ?_ ?_); (focus (first | rfl | (simp only [i64s_length, u8s_length]; first | rfl | assumption | omega)))) | ((with_reducible refine kn_loads_if E.out rfl rfl rfl ?_ ?_); (focus (first | rfl | (simp only [i64s_length, u8s_length]; first | rfl | assumption | omega)))) | ((with_reducible refine kn_store1_int E.out rfl rfl rfl rfl rfl ?_); clear E; intro u E0; have E := Lib.hid E0; clear E0) | ((with_reducible refine kn_store1_slice E.out rfl rfl rfl rfl rfl ?_); clear E; intro u E0; have E := Lib.hid E0; clear E0) | ((with_reducible refine kn_store1_bool E.out rfl rfl rfl rfl rfl ?_); clear E; intro u E0; have E := Lib.hid E0; clear E0) | ((with_reducible refine kn_stores E.out rfl rfl rfl rfl rfl ?_ ?_ ?_); (focus (first | exact ⟨rfl, rfl⟩ | (simp only [i64s_length, u8s_length]; refine ⟨?_, ?_⟩ <;> first | rfl | assumption | omega))); (focus (first | exact i64s_one _ | exact u8s_one _ | simp [Value.oneCell'])); clear E; intro u E0; have E := Lib.hid E0; clear E0) | ((with_reducible refine kn_alloc E.out rfl rfl ?_); clear E; intro g u E0 hb0; have E := Lib.hid E0; clear E0 hb0) | ((with_reducible refine kn_box E.out rfl rfl rfl ?_); clear E; intro g u E0 hb0; have E := Lib.hid E0; clear E0 hb0) | ((with_reducible refine kn_box_int E.out rfl rfl rfl ?_); clear E; intro g u E0 hb0; have E := Lib.hid E0; clear E0 hb0) | ((with_reducible refine kn_box_slice E.out rfl rfl rfl ?_); clear E; intro g u E0 hb0; have E := Lib.hid E0; clear E0 hb0) | ((with_reducible refine kn_box_bool E.out rfl rfl rfl ?_); clear E; intro g u E0 hb0; have E := Lib.hid E0; clear E0 hb0) | ((with_reducible refine kn_box_func E.out rfl rfl rfl ?_); clear E; intro g u E0 hb0; have E := Lib.hid E0; clear E0 hb0))
    refine bodyPost_ret (results_kn2 E.out rfl _ rfl rfl) rfl ?_
    exact ⟨_, rfl, Img.nil _, E.out.bel⟩

set_option maxHeartbeats 1000000 in
theorem rwhole_no (W H : Int) (A : Option Addr) (m c : Nat) (w : World) (hm : m ≤ 1048576) (hp : ¬ (szP W H ∧ (m : Int) = tl W H * tl H W)) :
    Calls Try.prog 19 #[.int .i64 W, .int .i64 H, .slice A m c] w fun e w' => ∃ v', e = .returned (.tuple #[v', .int .i64 1]) ∧ Img w' v' 0 0 [] ∧ Below w.heap.size w w' := by
  have E := Lib.hid (Kn.start w)
  have hbi := built_image
  by_cases hs : szP W H
  · have hne0 : ¬ (m : Int) = tl W H * tl H W := fun e => hp ⟨hs, e⟩
    obtain ⟨a, ha, ha0, ha2⟩ := tl_nat hs
    obtain ⟨d, hd, hd0, hd2⟩ := tl_nat (szP.symm hs)
    rw [ha, hd] at hne0
    have hr : rightP W H (4 * W * H).toNat := ⟨hs, by have := mul_sz hs; have e : 4 * W * H = 4 * (W * H) := by rw [Int.mul_assoc]
                                                      omega⟩
    have hmx : a * d ≤ 1048576 := Nat.mul_le_mul ha2 hd2
    have hmul : wrap64 ((a : Int) * (d : Int)) = ((a * d : Nat) : Int) := by
      rw [show (a : Int) * (d : Int) = ((a * d : Nat) : Int) from by simp]
      exact wrap64_small _ (by omega) (by omega)
    have hne : ((m : Int) != ((a * d : Nat) : Int)) = true := by
      have : (m : Int) ≠ ((a * d : Nat) : Int) := by rw [show ((a * d : Nat) : Int) = (a : Int) * (d : Int) from by simp]; exact hne0
      simpa using this
    have hN := Lib.hid (fun u => rnew_ok W H _ u hr)
    have hsz := hs
    unfold szP at hsz
    have hTl := Lib.hid (fun u => rtiles_any W H u (by omega) (by omega))
    rw [ha, hd] at hTl
    clear hne0 hp hs hr ha hd hmx
    generalize a * d = N at *
    generalize (4 * W * H).toNat = n at *
    go_enter Try.func19, Try.ntmps19
    go_wp2_with (first
      | (go_at_call 48; refine (hN.out _).mono ?_; rintro e w1 ⟨gp, rfl, _, _, hb⟩; have E1 := Lib.hid (E.out.later hb); clear hb E; have E := E1; clear E1)
      | (go_at_call 16; refine (hTl.out _).mono ?_; rintro e w2 ⟨rfl, rfl⟩)
      | ((with_reducible refine kn_load E.out rfl rfl rfl rfl ?_)) | ((with_reducible refine kn_load_if E.out rfl rfl rfl rfl ?_)) | ((with_reducible refine kn_loads E.out rfl rfl rfl ?_ ?_); (focus (first | rfl | (simp only [i64s_length, u8s_length]; first | rfl | assumption | omega)))) | ((with_reducible refine kn_loads_if E.out rfl rfl rfl ?_ ?_); (focus (first | rfl | (simp only [i64s_length, u8s_length]; first | rfl | assumption | omega)))) | ((with_reducible refine kn_store1_int E.out rfl rfl rfl rfl rfl ?_); clear E; intro u E0; have E := Lib.hid E0; clear E0) | ((with_reducible refine kn_store1_slice E.out rfl rfl rfl rfl rfl ?_); clear E; intro u E0; have E := Lib.hid E0; clear E0) | ((with_reducible refine kn_store1_bool E.out rfl rfl rfl rfl rfl ?_); clear E; intro u E0; have E := Lib.hid E0; clear E0) | ((with_reducible refine kn_stores E.out rfl rfl rfl rfl rfl ?_ ?_ ?_); (focus (first | exact ⟨rfl, rfl⟩ | (simp only [i64s_length, u8s_length]; refine ⟨?_, ?_⟩ <;> first | rfl | assumption | omega))); (focus (first | exact i64s_one _ | exact u8s_one _ | simp [Value.oneCell'])); clear E; intro u E0; have E := Lib.hid E0; clear E0) | ((with_reducible refine kn_alloc E.out rfl rfl ?_); clear E; intro g u E0 hb0; have E := Lib.hid E0; clear E0 hb0) | ((with_reducible refine kn_box E.out rfl rfl rfl ?_); clear E; intro g u E0 hb0; have E := Lib.hid E0; clear E0 hb0) | ((with_reducible refine kn_box_int E.out rfl rfl rfl ?_); clear E; intro g u E0 hb0; have E := Lib.hid E0; clear E0 hb0) | ((with_reducible refine kn_box_slice E.out rfl rfl rfl ?_); clear E; intro g u E0 hb0; have E := Lib.hid E0; clear E0 hb0) | ((with_reducible refine kn_box_bool E.out rfl rfl rfl ?_); clear E; intro g u E0 hb0; have E := Lib.hid E0; clear E0 hb0) | ((with_reducible refine kn_box_func E.out rfl rfl rfl ?_); clear E; intro g u E0 hb0; have E := Lib.hid E0; clear E0 hb0))
    refine bodyPost_ret (results_kn2 E.out rfl _ rfl rfl) rfl ?_
    exact ⟨_, rfl, Img.nil _, E.out.bel⟩
  · have hN := Lib.hid (fun u => rnew_no W H u hs)
    clear hp hs
    go_enter Try.func19, Try.ntmps19
    go_wp2_with (first
      | (go_at_call 48; refine (hN.out _).mono ?_; rintro e w1 ⟨rfl, hb⟩; have E1 := Lib.hid (E.out.later hb); clear hb E; have E := E1; clear E1)
      | ((with_reducible refine kn_load E.out rfl rfl rfl rfl ?_)) | ((with_reducible refine kn_load_if E.out rfl rfl rfl rfl ?_)) | ((with_reducible refine kn_loads E.out rfl rfl rfl ?_ ?_); (focus (first | rfl | (simp only [i64s_length, u8s_length]; first | rfl | assumption | omega)))) | ((with_reducible refine kn_loads_if E.out rfl rfl rfl ?_ ?_); (focus (first | rfl | (simp only [i64s_length, u8s_length]; first | rfl | assumption | omega)))) | ((with_reducible refine kn_store1_int E.out rfl rfl rfl rfl rfl ?_); clear E; intro u E0; have E := Lib.hid E0; clear E0) | ((with_reducible refine kn_store1_slice E.out rfl rfl rfl rfl rfl ?_); clear E; intro u E0; have E := Lib.hid E0; clear E0) | ((with_reducible refine kn_store1_bool E.out rfl rfl rfl rfl rfl ?_); clear E; intro u E0; have E := Lib.hid E0; clear E0) | ((with_reducible refine kn_stores E.out rfl rfl rfl rfl rfl ?_ ?_ ?_); (focus (first | exact ⟨rfl, rfl⟩ | (simp only [i64s_length, u8s_length]; refine ⟨?_, ?_⟩ <;> first | rfl | assumption | omega))); (focus (first | exact i64s_one _ | exact u8s_one _ | simp [Value.oneCell'])); clear E; intro u E0; have E := Lib.hid E0; clear E0) | ((with_reducible refine kn_alloc E.out rfl rfl ?_); clear E; intro g u E0 hb0; have E := Lib.hid E0; clear E0 hb0) | ((with_reducible refine kn_box E.out rfl rfl rfl ?_); clear E; intro g u E0 hb0; have E := Lib.hid E0; clear E0 hb0) | ((with_reducible refine kn_box_int E.out rfl rfl rfl ?_); clear E; intro g u E0 hb0; have E := Lib.hid E0; clear E0 hb0) | ((with_reducible refine kn_box_slice E.out rfl rfl rfl ?_); clear E; intro g u E0 hb0; have E := Lib.hid E0; clear E0 hb0) | ((with_reducible refine kn_box_bool E.out rfl rfl rfl ?_); clear E; intro g u E0 hb0; have E := Lib.hid E0; clear E0 hb0) | ((with_reducible refine kn_box_func E.out rfl rfl rfl ?_); clear E; intro g u E0 hb0; have E := Lib.hid E0; clear E0 hb0))
    refine bodyPost_ret (results_kn2 E.out rfl _ rfl rfl) rfl ?_
    exact ⟨_, rfl, Img.nil _, E.out.bel⟩

set_option maxHeartbeats 2000000 in
theorem rwhole_ok (W H : Int) (A : Option Addr) (n m c a d : Nat) (ts : List Int) (w : World) (hr : rightP W H n) (ha : tl W H = (a : Int)) (hd : tl H W = (d : Int)) (h0 : 0 < a) (ha2 : a ≤ 1024) (hd0 : 0 < d) (hd2 : d ≤ 1024) (hmd : m = a * d)
    (ht : Rs w w.heap.size A (m * 64) (i64s ts)) :
    Calls Try.prog 19 #[.int .i64 W, .int .i64 H, .slice A m c] w fun e w' => ∃ v', e = .returned (.tuple #[v', .int .i64 0]) ∧ Img w' v' W H (whK W H n a ts m) ∧ Below w.heap.size w w' := by
  have hts : ts.length = m * 64 := by have := ht.1; rwa [i64s_length] at this
  have hm0 : 0 < m := by rw [hmd]; exact Nat.mul_pos h0 hd0
  have hm2 : m ≤ 1048576 := by rw [hmd]; exact Nat.mul_le_mul ha2 hd2
  have E := Lib.hid ((Kn.start w).arg_rs ht)
  obtain ⟨b, off, rfl, hbw, _⟩ := ht.2 (by omega)
  have hsz := hr.1
  have hn2 : n ≤ 67108864 := by have h1 := mul_sz hr.1; have h2 := hr.2; have h3 : 4 * W * H = 4 * (W * H) := by rw [Int.mul_assoc]
                                omega
  have hN := Lib.hid (fun u => rnew_ok W H n u hr)
  unfold szP at hsz
  have hTl := Lib.hid (fun u => rtiles_any W H u (by omega) (by omega))
  rw [ha, hd] at hTl
  have hmul : wrap64 ((a : Int) * (d : Int)) = (m : Int) := by
    rw [show (a : Int) * (d : Int) = ((a * d : Nat) : Int) from by simp, ← hmd]
    exact wrap64_small _ (by omega) (by omega)
  have hne : ((m : Int) != (m : Int)) = false := by simp
  have HL := Lib.hid (fun (i : Nat) (hi : i < m) (A' : Option Addr) (c' : Nat) (u : World) (hI : Bs u u.heap.size A' n (whK W H n a ts i)) => rlay_ok A' n c' W H (whK W H n a ts i) ((i % a : Nat) : Int) ((i / a : Nat) : Int) (ti ts i) u hI hn2 (ti_length hts hi) (has_tile hr ha hd h0 (by rw [← hmd]; exact hi)))
  have W0 := Lib.hid (show whK W H n a ts 0 = List.replicate n 0 from rfl)
  have WS := Lib.hid (fun i => show whK W H n a ts (i + 1) = layK W H (whK W H n a ts i) ((i % a : Nat) : Int) ((i / a : Nat) : Int) (ti ts i) 16 from rfl)
  have WL := Lib.hid (whK_length W H n a ts)
  have HT := Lib.hid hts
  clear hr ha hd ht hts hmd
  generalize whK W H n a ts = wk at *
  go_enter Try.func19, Try.ntmps19
  go_wp2_with (first
    | (go_at_call 48; refine (hN.out _).mono ?_; rintro e w1 ⟨gp, rfl, hg, hpx, hb⟩; have E1 := Lib.hid (E.out.fresh_img hb (show ImgN _ w1 (img W H (some ⟨gp, 0, none⟩) n n) W H (wk 0) from ⟨_, n, n, rfl, hn2, by rw [W0.out]; exact hpx.bs (by simp), fun b off e => by cases e; exact hg⟩)); clear hb hg hpx E; have E := E1; clear E1)
    | (go_at_call 16; refine (hTl.out _).mono ?_; rintro e w2 ⟨rfl, rfl⟩)
    | ((with_reducible refine kn_load E.out rfl rfl rfl rfl ?_)) | ((with_reducible refine kn_load_if E.out rfl rfl rfl rfl ?_)) | ((with_reducible refine kn_loads E.out rfl rfl rfl ?_ ?_); (focus (first | rfl | (simp only [i64s_length, u8s_length]; first | rfl | assumption | omega)))) | ((with_reducible refine kn_loads_if E.out rfl rfl rfl ?_ ?_); (focus (first | rfl | (simp only [i64s_length, u8s_length]; first | rfl | assumption | omega)))) | ((with_reducible refine kn_store1_int E.out rfl rfl rfl rfl rfl ?_); clear E; intro u E0; have E := Lib.hid E0; clear E0) | ((with_reducible refine kn_store1_slice E.out rfl rfl rfl rfl rfl ?_); clear E; intro u E0; have E := Lib.hid E0; clear E0) | ((with_reducible refine kn_store1_bool E.out rfl rfl rfl rfl rfl ?_); clear E; intro u E0; have E := Lib.hid E0; clear E0) | ((with_reducible refine kn_stores E.out rfl rfl rfl rfl rfl ?_ ?_ ?_); (focus (first | exact ⟨rfl, rfl⟩ | (simp only [i64s_length, u8s_length]; refine ⟨?_, ?_⟩ <;> first | rfl | assumption | omega))); (focus (first | exact i64s_one _ | exact u8s_one _ | simp [Value.oneCell'])); clear E; intro u E0; have E := Lib.hid E0; clear E0) | ((with_reducible refine kn_alloc (o := ⟨some 6, _, _, _, _, _⟩) E.out rfl rfl ?_); clear E; intro g6 u E0 hb0; have E := Lib.hid E0; clear E0 hb0) | ((with_reducible refine kn_box (o := ⟨some 6, _, _, _, _, _⟩) E.out rfl rfl rfl ?_); clear E; intro g6 u E0 hb0; have E := Lib.hid E0; clear E0 hb0) | ((with_reducible refine kn_box_int (o := ⟨some 6, _, _, _, _, _⟩) E.out rfl rfl rfl ?_); clear E; intro g6 u E0 hb0; have E := Lib.hid E0; clear E0 hb0) | ((with_reducible refine kn_box_slice (o := ⟨some 6, _, _, _, _, _⟩) E.out rfl rfl rfl ?_); clear E; intro g6 u E0 hb0; have E := Lib.hid E0; clear E0 hb0) | ((with_reducible refine kn_box_bool (o := ⟨some 6, _, _, _, _, _⟩) E.out rfl rfl rfl ?_); clear E; intro g6 u E0 hb0; have E := Lib.hid E0; clear E0 hb0) | ((with_reducible refine kn_box_func (o := ⟨some 6, _, _, _, _, _⟩) E.out rfl rfl rfl ?_); clear E; intro g6 u E0 hb0; have E := Lib.hid E0; clear E0 hb0) | ((with_reducible refine kn_alloc (o := ⟨some 8, _, _, _, _, _⟩) E.out rfl rfl ?_); clear E; intro g8 u E0 hb0; have E := Lib.hid E0; clear E0 hb0) | ((with_reducible refine kn_box (o := ⟨some 8, _, _, _, _, _⟩) E.out rfl rfl rfl ?_); clear E; intro g8 u E0 hb0; have E := Lib.hid E0; clear E0 hb0) | ((with_reducible refine kn_box_int (o := ⟨some 8, _, _, _, _, _⟩) E.out rfl rfl rfl ?_); clear E; intro g8 u E0 hb0; have E := Lib.hid E0; clear E0 hb0) | ((with_reducible refine kn_box_slice (o := ⟨some 8, _, _, _, _, _⟩) E.out rfl rfl rfl ?_); clear E; intro g8 u E0 hb0; have E := Lib.hid E0; clear E0 hb0) | ((with_reducible refine kn_box_bool (o := ⟨some 8, _, _, _, _, _⟩) E.out rfl rfl rfl ?_); clear E; intro g8 u E0 hb0; have E := Lib.hid E0; clear E0 hb0) | ((with_reducible refine kn_box_func (o := ⟨some 8, _, _, _, _, _⟩) E.out rfl rfl rfl ?_); clear E; intro g8 u E0 hb0; have E := Lib.hid E0; clear E0 hb0) | ((with_reducible refine kn_alloc E.out rfl rfl ?_); clear E; intro g u E0 hb0; have E := Lib.hid E0; clear E0 hb0) | ((with_reducible refine kn_box E.out rfl rfl rfl ?_); clear E; intro g u E0 hb0; have E := Lib.hid E0; clear E0 hb0) | ((with_reducible refine kn_box_int E.out rfl rfl rfl ?_); clear E; intro g u E0 hb0; have E := Lib.hid E0; clear E0 hb0) | ((with_reducible refine kn_box_slice E.out rfl rfl rfl ?_); clear E; intro g u E0 hb0; have E := Lib.hid E0; clear E0 hb0) | ((with_reducible refine kn_box_bool E.out rfl rfl rfl ?_); clear E; intro g u E0 hb0; have E := Lib.hid E0; clear E0 hb0) | ((with_reducible refine kn_box_func E.out rfl rfl rfl ?_); clear E; intro g u E0 hb0; have E := Lib.hid E0; clear E0 hb0))
  rw [hmul]
  clear hmul
  go_loopw [12] (fun i wr => ∃ (k : Nat) (A' : Option Addr) (c' : Nat), k ≤ m ∧ i = .int .i64 k ∧ Hid (Kn w [.row g8 24 (imL W H A' n c'), .row g6 24 (imL 0 0 none 0 0)] [imgF (img W H A' n c') W H (wk k), rsF (some ⟨b, off, none⟩) (m * 64) (i64s ts)] wr)) (fun i _ => m - (intOf i).toNat)
  case atStart => exact ⟨0, _, _, by omega, rfl, E⟩
  case round =>
    clear E
    obtain ⟨k, A', c', hk, rfl, E⟩ := hrel
    by_cases hlt : k < m
    · have hL := Lib.hid (HL.out k hlt A' c')
      have hWS := Lib.hid (WS.out k)
      rw [← hWS.out] at hL
      have hz : a ≠ 0 := by omega
      have hrem : (k : Int).tmod (a : Int) = ((k % a : Nat) : Int) := by
        rw [Int.tmod_eq_emod_of_nonneg (by omega), ← Int.natCast_emod]
      have hquo : IntKind.i64.wrap ((k : Int) / (a : Int)) = ((k / a : Nat) : Int) := by
        rw [← Int.natCast_ediv]
        have h9 := Nat.div_le_self k a
        generalize k / a = q at *
        exact IntWalk.i64_in _ (by omega)
      generalize k % a = rm at *
      generalize k / a = qt at *
      have hLt := ti_length HT.out hlt
      have hut := Try.underlying32
      have hit : (Try.prog.info? 32).map (·.size) = some (i64s (ti ts k)).length := by rw [i64s_length, hLt]; exact size_tile
      have hki : (k : Int) < (m : Int) := by omega
      go_wp2_with fail
      refine wp_region_held_drew (S := Kn w [.row g6 24 (imL 0 0 none 0 0)] [rsF (some ⟨b, off, none⟩) (m * 64) (i64s ts)]) (by kernel_rfl) (E.out.drew.part _ _ (by repeat (first | exact List.Sublist.refl _ | apply List.Sublist.cons_cons | apply List.Sublist.cons)) (by simp)) (fun kS => ?_)
      have E1 := Lib.hid E.out.drew
      clear E
      have E := E1
      clear E1
      generalize World.drew _ = u1 at kS E ⊢
      (refine takeL (i := 1) (v := _) rfl (by kernel_rfl) (by kernel_rfl) (by kernel_rfl) (fun _ _ _ h => h) (by first | exact Or.inl ⟨by rfl, (by intro u hSu; clear hSu; go_simp; try with_reducible rfl)⟩ | exact Or.inr ⟨by rfl, rfl⟩) kS ?_; (try simp only [Act.put, List.setIfInBounds_toArray, List.set_cons_zero, List.set_cons_succ])); (refine takeL (i := 2) (v := _) rfl (by kernel_rfl) (by kernel_rfl) (by kernel_rfl) (fun _ _ _ h => h) (by first | exact Or.inl ⟨by rfl, (by intro u hSu; clear hSu; go_simp; try with_reducible rfl)⟩ | exact Or.inr ⟨by rfl, rfl⟩) kS ?_; (try simp only [Act.put, List.setIfInBounds_toArray, List.set_cons_zero, List.set_cons_succ])); (refine takeL (i := 3) (v := _) rfl (by kernel_rfl) (by kernel_rfl) (by kernel_rfl) (fun _ _ _ h => h) (by first | exact Or.inl ⟨by rfl, (by intro u hSu; clear hSu; go_simp; try with_reducible rfl)⟩ | exact Or.inr ⟨by rfl, rfl⟩) kS ?_; (try simp only [Act.put, List.setIfInBounds_toArray, List.set_cons_zero, List.set_cons_succ])); (refine takeL (i := 4) (v := _) rfl (by kernel_rfl) (by kernel_rfl) (by kernel_rfl) (fun _ _ _ h => h) (by first | exact Or.inl ⟨by rfl, (by intro u hSu; clear hSu; go_simp; try with_reducible rfl)⟩ | exact Or.inr ⟨by rfl, rfl⟩) kS ?_; (try simp only [Act.put, List.setIfInBounds_toArray, List.set_cons_zero, List.set_cons_succ])); (refine takeL (i := 5) (v := _) rfl (by kernel_rfl) (by kernel_rfl) (by kernel_rfl) (fun _ _ _ h => h) (by first | exact Or.inl ⟨by rfl, (by intro u hSu; clear hSu; go_simp; try with_reducible rfl)⟩ | exact Or.inr ⟨by rfl, rfl⟩) kS ?_; (try simp only [Act.put, List.setIfInBounds_toArray, List.set_cons_zero, List.set_cons_succ])); (refine takeL (i := 6) (v := _) rfl (by kernel_rfl) (by kernel_rfl) (by kernel_rfl) (fun _ _ _ h => h) (by first | exact Or.inl ⟨by rfl, (by intro u hSu; clear hSu; go_simp; try with_reducible rfl)⟩ | exact Or.inr ⟨by rfl, rfl⟩) kS ?_; (try simp only [Act.put, List.setIfInBounds_toArray, List.set_cons_zero, List.set_cons_succ])); (refine takeL (i := 7) (v := _) rfl (by kernel_rfl) (by kernel_rfl) (by kernel_rfl) (fun _ _ _ h => h) (by first | exact Or.inl ⟨by rfl, (by intro u hSu; clear hSu; go_simp; try with_reducible rfl)⟩ | exact Or.inr ⟨by rfl, rfl⟩) kS ?_; (try simp only [Act.put, List.setIfInBounds_toArray, List.set_cons_zero, List.set_cons_succ])); (refine takeL (i := 8) (v := _) rfl (by kernel_rfl) (by kernel_rfl) (by kernel_rfl) (fun _ _ _ h => h) (by first | exact Or.inl ⟨by rfl, (by intro u hSu; clear hSu; go_simp; try with_reducible rfl)⟩ | exact Or.inr ⟨by rfl, rfl⟩) kS ?_; (try simp only [Act.put, List.setIfInBounds_toArray, List.set_cons_zero, List.set_cons_succ])); (refine takeL (i := 9) (v := _) rfl (by kernel_rfl) (by kernel_rfl) (by kernel_rfl) (fun _ _ _ h => h) (by first | exact Or.inl ⟨by rfl, (by intro u hSu; clear hSu; go_simp; try with_reducible rfl)⟩ | exact Or.inr ⟨by rfl, rfl⟩) kS ?_; (try simp only [Act.put, List.setIfInBounds_toArray, List.set_cons_zero, List.set_cons_succ]))
      (refine takeL (i := 10) rfl (by kernel_rfl) (by kernel_rfl) (by kernel_rfl) (fun _ _ _ h => h) (yieldsIf_load_mid (by rfl) _ _ rfl _ _ rfl _ _ (fun u hu => (show Rs u u.heap.size (some ⟨b, off, none⟩) (m * 64) (i64s ts) from hu.get (f := rsF (some ⟨b, off, none⟩) (m * 64) (i64s ts)) (by simp)).tile hlt) hut rfl hit) kS ?_; (try simp only [Act.put, List.setIfInBounds_toArray, List.set_cons_zero, List.set_cons_succ]))
      refine callL (i := 0) rfl (by kernel_rfl) (fun K hK => ?_)
      rw [if_pos (by rfl)]
      refine wp_kn_loads E.out rfl rfl rfl ?_
      (refine hK.out _ _ (E.out.part _ _ (by repeat (first | exact List.Sublist.refl _ | apply List.Sublist.cons_cons | apply List.Sublist.cons)) (by simp)) (fun kS => ?_); clear hK K; (try simp only [Act.put, List.setIfInBounds_toArray, List.set_cons_zero, List.set_cons_succ]))
      refine callL (i := 11) rfl (by kernel_rfl) (fun K hK => ?_)
      go_simp
      refine (hL.out _ (Img.bs (E.out.img (v := img W H A' n c')))).mono ?_
      rintro e w5 ⟨v', rfl, hI, hb⟩
      have E1 := Lib.hid (E.out.fresh_img hb hI)
      clear E hb
      have E := E1
      clear E1
      obtain ⟨A6, n6, c6, rfl, hn6, hB6, _⟩ := hI
      obtain rfl : n = n6 := (WL.out (k + 1)).symm.trans hB6.1
      go_wp2_with fail
      (refine hK.out _ _ (E.out.part _ _ (by repeat (first | exact List.Sublist.refl _ | apply List.Sublist.cons_cons | apply List.Sublist.cons)) (by simp)) (fun kS => ?_); clear hK K; (try simp only [Act.put, List.setIfInBounds_toArray, List.set_cons_zero, List.set_cons_succ]))
      (refine takeL (i := 12) (v := _) rfl (by kernel_rfl) (by kernel_rfl) (by kernel_rfl) (fun _ _ _ h => h) (by first | exact Or.inl ⟨by rfl, (by intro u hSu; clear hSu; go_simp; try with_reducible rfl)⟩ | exact Or.inr ⟨by rfl, rfl⟩) kS ?_; (try simp only [Act.put, List.setIfInBounds_toArray, List.set_cons_zero, List.set_cons_succ])); (refine takeL (i := 13) (v := _) rfl (by kernel_rfl) (by kernel_rfl) (by kernel_rfl) (fun _ _ _ h => h) (by first | exact Or.inl ⟨by rfl, (by intro u hSu; clear hSu; go_simp; try with_reducible rfl)⟩ | exact Or.inr ⟨by rfl, rfl⟩) kS ?_; (try simp only [Act.put, List.setIfInBounds_toArray, List.set_cons_zero, List.set_cons_succ])); (refine takeL (i := 14) (v := _) rfl (by kernel_rfl) (by kernel_rfl) (by kernel_rfl) (fun _ _ _ h => h) (by first | exact Or.inl ⟨by rfl, (by intro u hSu; clear hSu; go_simp; try with_reducible rfl)⟩ | exact Or.inr ⟨by rfl, rfl⟩) kS ?_; (try simp only [Act.put, List.setIfInBounds_toArray, List.set_cons_zero, List.set_cons_succ]))
      refine callL (i := 15) rfl (by kernel_rfl) (fun K hK => ?_)
      rw [if_pos (by rfl)]
      refine wp_kn_stores (vs := imL W H A6 n c6) E.out rfl rfl rfl rfl (by exact ⟨rfl, rfl⟩) (by simp [Value.oneCell']) ?_
      clear E kS
      intro u E0
      have E := Lib.hid E0
      clear E0
      (refine hK.out _ _ (E.out.part _ _ (by repeat (first | exact List.Sublist.refl _ | apply List.Sublist.cons_cons | apply List.Sublist.cons)) (by simp)) (fun kS => ?_); clear hK K; (try simp only [Act.put, List.setIfInBounds_toArray, List.set_cons_zero, List.set_cons_succ]))
      refine wpAnyH_done (by kernel_rfl) ?_ _
      go_wp2_with fail
      go_roundw
      case rel => exact ⟨k + 1, A6, c6, by omega, by go_num, E.out.part _ _ (List.Sublist.refl _) (by simp)⟩
      case measure => simp [intOf]; omega
    · obtain rfl : k = m := by omega
      go_wp2_with (first | ((with_reducible refine kn_load E.out rfl rfl rfl rfl ?_)) | ((with_reducible refine kn_load_if E.out rfl rfl rfl rfl ?_)) | ((with_reducible refine kn_loads E.out rfl rfl rfl ?_ ?_); (focus (first | rfl | (simp only [i64s_length, u8s_length]; first | rfl | assumption | omega)))) | ((with_reducible refine kn_loads_if E.out rfl rfl rfl ?_ ?_); (focus (first | rfl | (simp only [i64s_length, u8s_length]; first | rfl | assumption | omega)))) | ((with_reducible refine kn_store1_int E.out rfl rfl rfl rfl rfl ?_); clear E; intro u E0; have E := Lib.hid E0; clear E0) | ((with_reducible refine kn_store1_slice E.out rfl rfl rfl rfl rfl ?_); clear E; intro u E0; have E := Lib.hid E0; clear E0) | ((with_reducible refine kn_store1_bool E.out rfl rfl rfl rfl rfl ?_); clear E; intro u E0; have E := Lib.hid E0; clear E0) | ((with_reducible refine kn_stores E.out rfl rfl rfl rfl rfl ?_ ?_ ?_); (focus (first | exact ⟨rfl, rfl⟩ | (simp only [i64s_length, u8s_length]; refine ⟨?_, ?_⟩ <;> first | rfl | assumption | omega))); (focus (first | exact i64s_one _ | exact u8s_one _ | simp [Value.oneCell'])); clear E; intro u E0; have E := Lib.hid E0; clear E0) | ((with_reducible refine kn_alloc E.out rfl rfl ?_); clear E; intro g u E0 hb0; have E := Lib.hid E0; clear E0 hb0) | ((with_reducible refine kn_box E.out rfl rfl rfl ?_); clear E; intro g u E0 hb0; have E := Lib.hid E0; clear E0 hb0) | ((with_reducible refine kn_box_int E.out rfl rfl rfl ?_); clear E; intro g u E0 hb0; have E := Lib.hid E0; clear E0 hb0) | ((with_reducible refine kn_box_slice E.out rfl rfl rfl ?_); clear E; intro g u E0 hb0; have E := Lib.hid E0; clear E0 hb0) | ((with_reducible refine kn_box_bool E.out rfl rfl rfl ?_); clear E; intro g u E0 hb0; have E := Lib.hid E0; clear E0 hb0) | ((with_reducible refine kn_box_func E.out rfl rfl rfl ?_); clear E; intro g u E0 hb0; have E := Lib.hid E0; clear E0 hb0))
      refine bodyPost_ret (results_kn2 E.out rfl _ rfl rfl) rfl ?_
      exact ⟨_, rfl, E.out.img, E.out.bel⟩

namespace Im
def whP (W H : Int) (m : Nat) : Prop := szP W H ∧ (m : Int) = tl W H * tl H W
instance (W H : Int) (m : Nat) : Decidable (whP W H m) := inferInstanceAs (Decidable (_ ∧ _))
def whX (W H : Int) (ts : List Int) (m : Nat) : List Nat := whK W H (4 * W * H).toNat (tl W H).toNat ts m
end Im
theorem wh_facts {W H : Int} {m : Nat} (h : whP W H m) : ∃ a d, rightP W H (4 * W * H).toNat ∧ tl W H = ((a : Nat) : Int) ∧ tl H W = ((d : Nat) : Int) ∧ 0 < a ∧ a ≤ 1024 ∧ 0 < d ∧ d ≤ 1024 ∧ m = a * d ∧ (tl W H).toNat = a := by
  obtain ⟨hs, hm⟩ := h
  obtain ⟨a, ha, ha0, ha2⟩ := tl_nat hs
  obtain ⟨d, hd, hd0, hd2⟩ := tl_nat (szP.symm hs)
  refine ⟨a, d, ⟨hs, by have := mul_sz hs; have e : 4 * W * H = 4 * (W * H) := by rw [Int.mul_assoc]
                        omega⟩, ha, hd, ha0, ha2, hd0, hd2, ?_, by rw [ha]; rfl⟩
  rw [ha, hd] at hm
  have : (m : Int) = ((a * d : Nat) : Int) := by rw [hm]; simp
  exact_mod_cast this
theorem whole_any (W H : Int) (A : Option Addr) (m c : Nat) (ts : List Int) (w : World) (hm : m ≤ 1048576) (ht : Rs w w.heap.size A (m * 64) (i64s ts)) :
    Calls Try.prog 18 #[.int .i64 W, .int .i64 H, .slice A m c] w fun e w' => ∃ v', e = .returned (.tuple #[v', .int .i64 (noE (whP W H m))]) ∧ Img w' v' (putW (whP W H m) W) (putW (whP W H m) H) (putX (whP W H m) (whX W H ts m)) ∧ Below w.heap.size w w' := by
  by_cases hp : whP W H m
  · simp only [show ∀ z, putW (whP W H m) z = z from fun z => if_pos hp, show ∀ z, putX (whP W H m) z = z from fun z => if_pos hp, show noE (whP W H m) = 0 from if_pos hp]
    obtain ⟨a, d, hr, ha, hd, h0, ha2, hd0, hd2, hmd, hta⟩ := wh_facts hp
    rw [whX, hta]
    exact whole_ok W H A _ m c a d ts w hr ha hd h0 ha2 hd0 hd2 hmd ht
  · simp only [show ∀ z, putW (whP W H m) z = 0 from fun z => if_neg hp, show ∀ z, putX (whP W H m) z = [] from fun z => if_neg hp, show noE (whP W H m) = 1 from if_neg hp]
    exact whole_no W H A m c w hm hp
theorem rwhole_any (W H : Int) (A : Option Addr) (m c : Nat) (ts : List Int) (w : World) (hm : m ≤ 1048576) (ht : Rs w w.heap.size A (m * 64) (i64s ts)) :
    Calls Try.prog 19 #[.int .i64 W, .int .i64 H, .slice A m c] w fun e w' => ∃ v', e = .returned (.tuple #[v', .int .i64 (noE (whP W H m))]) ∧ Img w' v' (putW (whP W H m) W) (putW (whP W H m) H) (putX (whP W H m) (whX W H ts m)) ∧ Below w.heap.size w w' := by
  by_cases hp : whP W H m
  · simp only [show ∀ z, putW (whP W H m) z = z from fun z => if_pos hp, show ∀ z, putX (whP W H m) z = z from fun z => if_pos hp, show noE (whP W H m) = 0 from if_pos hp]
    obtain ⟨a, d, hr, ha, hd, h0, ha2, hd0, hd2, hmd, hta⟩ := wh_facts hp
    rw [whX, hta]
    exact rwhole_ok W H A _ m c a d ts w hr ha hd h0 ha2 hd0 hd2 hmd ht
  · simp only [show ∀ z, putW (whP W H m) z = 0 from fun z => if_neg hp, show ∀ z, putX (whP W H m) z = [] from fun z => if_neg hp, show noE (whP W H m) = 1 from if_neg hp]
    exact rwhole_no W H A m c w hm hp
end Go.Proofs.Ytbpdaijmclcbdaa
