/- ImageWhole: an image comes whole of its tiles, for whatever image. -/
import Derived.Test.YteamgegmcmcijaaRows
import Derived.Test.YteamgegmcmcijaaKnT
import Derived.Test.YteamgegmcmcijaaImAwake
import Derived.Test.YteamgegmcmcijaaImWhole
import Derived.Test.YteamgegmcmcijaaImAll
import Derived.Test.YteamgegmcmcijaaOpenIm
namespace Go.Proofs.Yteamgegmcmcijaa.imageWhole
open Go.ChangeShapes Go.WideShapes Go.ChangeAt Go.RowKit
open Im

theorem Rs.of_ownN {w : World} {base : Nat} {e : TypeId} {size n c : Nat} {A : Option Addr} {vs : List Value} (h : w.ownsRow base e size (.slice A n c) n vs) : Rs w w.heap.size A (n * size) vs := by
  refine ⟨h.1, fun hn => ?_⟩
  rcases h.2 with ⟨_, h0⟩ | ⟨g, cap, cur, hv, _, hh, _, _, _, ht⟩
  · subst h0; omega
  · have hA : A = some ⟨g, 0, none⟩ := by injection hv
    subst hA
    refine ⟨g, 0, rfl, (Array.getElem?_eq_some_iff.1 hh).1, fun i v hi => ?_⟩
    rw [Nat.zero_add, cell_of_row w g i cur e (0, 0) hh]
    rw [← ht, List.getElem?_take] at hi
    split at hi
    · simpa using hi
    · cases hi

set_option maxHeartbeats 1000000 in
theorem dark (W H : Int) (A : Option Addr) (n c : Nat) (w : World) (hn : n ≤ 9223372036854775807) (hd : lightB W H n = false ∨ (lightB W H n = true ∧ ¬ rightP W H n)) :
    Calls Try.prog 4 #[img W H A n c] w fun e w' => e = .returned (.bool true) ∧ Below w.heap.size w w' := by
  have E := Lib.hid (Kn.start w)
  have hA := Lib.hid awake_any
  have h1 := Lib.hid (fun u => light_any W H A n c u hn)
  have h2 := Lib.hid (fun u => right_any W H A n c u hn)
  rcases hd with hd | ⟨hd, hr⟩
  · rw [hd] at h1
    clear hd
    go_enter Try.func4, Try.ntmps4
    go_wp2_with (first
    | (go_at_call 8; refine (hA.out _).mono ?_; rintro e w1 ⟨rfl, hb⟩; have E1 := Lib.hid (E.out.later hb); clear hb E; have E := E1; clear E1)
    | (go_at_call 9; refine (h1.out _).mono ?_; rintro e w2 ⟨rfl, hb⟩; have E1 := Lib.hid (E.out.later hb); clear hb E; have E := E1; clear E1)
    | ((with_reducible refine kn_load E.out rfl rfl rfl rfl ?_)) | ((with_reducible refine kn_load_if E.out rfl rfl rfl rfl ?_)) | ((with_reducible refine kn_loads E.out rfl rfl rfl ?hlen ?_); (case hlen => first | rfl | (simp only [i64s_length, u8s_length]; first | rfl | assumption | omega))) | ((with_reducible refine kn_loads_if E.out rfl rfl rfl ?hlen ?_); (case hlen => first | rfl | (simp only [i64s_length, u8s_length]; first | rfl | assumption | omega))) | ((with_reducible refine kn_store1_int E.out rfl rfl rfl rfl rfl ?_); clear E; intro u E0; have E := Lib.hid E0; clear E0) | ((with_reducible refine kn_store1_slice E.out rfl rfl rfl rfl rfl ?_); clear E; intro u E0; have E := Lib.hid E0; clear E0) | ((with_reducible refine kn_store1_bool E.out rfl rfl rfl rfl rfl ?_); clear E; intro u E0; have E := Lib.hid E0; clear E0) | ((with_reducible refine kn_stores E.out rfl rfl rfl rfl rfl ?hlen ?hone ?_); (case hlen => first | exact ⟨rfl, rfl⟩ | (simp only [i64s_length, u8s_length]; refine ⟨?_, ?_⟩ <;> first | rfl | assumption | omega)); (case hone => first | exact i64s_one _ | exact u8s_one _ | simp [Value.oneCell']); clear E; intro u E0; have E := Lib.hid E0; clear E0) | ((with_reducible refine kn_alloc E.out rfl rfl ?_); clear E; intro g u E0 hb0; have E := Lib.hid E0; clear E0 hb0) | ((with_reducible refine kn_box E.out rfl rfl rfl ?_); clear E; intro g u E0 hb0; have E := Lib.hid E0; clear E0 hb0) | ((with_reducible refine kn_box_int E.out rfl rfl rfl ?_); clear E; intro g u E0 hb0; have E := Lib.hid E0; clear E0 hb0) | ((with_reducible refine kn_box_slice E.out rfl rfl rfl ?_); clear E; intro g u E0 hb0; have E := Lib.hid E0; clear E0 hb0) | ((with_reducible refine kn_box_bool E.out rfl rfl rfl ?_); clear E; intro g u E0 hb0; have E := Lib.hid E0; clear E0 hb0) | ((with_reducible refine kn_box_func E.out rfl rfl rfl ?_); clear E; intro g u E0 hb0; have E := Lib.hid E0; clear E0 hb0))
    go_ret
    exact ⟨rfl, E.out.bel⟩
  · rw [hd] at h1
    rw [decide_eq_false hr] at h2
    clear hd hr
    go_enter Try.func4, Try.ntmps4
    go_wp2_with (first
    | (go_at_call 8; refine (hA.out _).mono ?_; rintro e w1 ⟨rfl, hb⟩; have E1 := Lib.hid (E.out.later hb); clear hb E; have E := E1; clear E1)
    | (go_at_call 9; refine (h1.out _).mono ?_; rintro e w2 ⟨rfl, hb⟩; have E1 := Lib.hid (E.out.later hb); clear hb E; have E := E1; clear E1)
    | (go_at_call 20; refine (h2.out _).mono ?_; rintro e w3 ⟨rfl, hb⟩; have E1 := Lib.hid (E.out.later hb); clear hb E; have E := E1; clear E1)
    | ((with_reducible refine kn_load E.out rfl rfl rfl rfl ?_)) | ((with_reducible refine kn_load_if E.out rfl rfl rfl rfl ?_)) | ((with_reducible refine kn_loads E.out rfl rfl rfl ?hlen ?_); (case hlen => first | rfl | (simp only [i64s_length, u8s_length]; first | rfl | assumption | omega))) | ((with_reducible refine kn_loads_if E.out rfl rfl rfl ?hlen ?_); (case hlen => first | rfl | (simp only [i64s_length, u8s_length]; first | rfl | assumption | omega))) | ((with_reducible refine kn_store1_int E.out rfl rfl rfl rfl rfl ?_); clear E; intro u E0; have E := Lib.hid E0; clear E0) | ((with_reducible refine kn_store1_slice E.out rfl rfl rfl rfl rfl ?_); clear E; intro u E0; have E := Lib.hid E0; clear E0) | ((with_reducible refine kn_store1_bool E.out rfl rfl rfl rfl rfl ?_); clear E; intro u E0; have E := Lib.hid E0; clear E0) | ((with_reducible refine kn_stores E.out rfl rfl rfl rfl rfl ?hlen ?hone ?_); (case hlen => first | exact ⟨rfl, rfl⟩ | (simp only [i64s_length, u8s_length]; refine ⟨?_, ?_⟩ <;> first | rfl | assumption | omega)); (case hone => first | exact i64s_one _ | exact u8s_one _ | simp [Value.oneCell']); clear E; intro u E0; have E := Lib.hid E0; clear E0) | ((with_reducible refine kn_alloc E.out rfl rfl ?_); clear E; intro g u E0 hb0; have E := Lib.hid E0; clear E0 hb0) | ((with_reducible refine kn_box E.out rfl rfl rfl ?_); clear E; intro g u E0 hb0; have E := Lib.hid E0; clear E0 hb0) | ((with_reducible refine kn_box_int E.out rfl rfl rfl ?_); clear E; intro g u E0 hb0; have E := Lib.hid E0; clear E0 hb0) | ((with_reducible refine kn_box_slice E.out rfl rfl rfl ?_); clear E; intro g u E0 hb0; have E := Lib.hid E0; clear E0 hb0) | ((with_reducible refine kn_box_bool E.out rfl rfl rfl ?_); clear E; intro g u E0 hb0; have E := Lib.hid E0; clear E0 hb0) | ((with_reducible refine kn_box_func E.out rfl rfl rfl ?_); clear E; intro g u E0 hb0; have E := Lib.hid E0; clear E0 hb0))
    go_ret
    exact ⟨rfl, E.out.bel⟩

theorem info_tile : (Try.prog.info? 32).map (fun i => (i.zero, i.size, i.bytes)) = some (some (arr z64), 64, 512) := by kernel_rfl
theorem step_mod {a k q : Nat} (h : q < a) : (k * a + q) % a = q ∧ (k * a + q) / a = k := by
  have h0 : 0 < a := by omega
  rw [Nat.mul_comm]
  exact ⟨by rw [Nat.mul_add_mod, Nat.mod_eq_of_lt h], by rw [Nat.mul_add_div h0, Nat.div_eq_of_lt h, Nat.add_zero]⟩

set_option maxHeartbeats 4000000 in
set_option maxRecDepth 100000 in
theorem lit (W H : Int) (A : Option Addr) (n c : Nat) (xs : List Nat) (w : World) (hB : Bs w w.heap.size A n xs) (hl : lightB W H n = true) (hr : rightP W H n) :
    Calls Try.prog 4 #[img W H A n c] w fun e w' => e = .returned (.bool true) ∧ Below w.heap.size w w' := by
  have hn := lightB_le hl
  have hsz := hr.1
  unfold szP at hsz
  obtain ⟨s1, s2, s3, s4⟩ := hsz
  obtain ⟨a, ha, ha0, ha2⟩ := tl_nat hr.1
  obtain ⟨d, hd, hd0, hd2⟩ := tl_nat (szP.symm hr.1)
  have hmx : a * d ≤ 1048576 := Nat.mul_le_mul ha2 hd2
  have E := Lib.hid ((Kn.start w).arg_img (show Img w (img W H A n c) W H xs from ⟨A, n, c, rfl, by omega, hB⟩))
  have hA := Lib.hid awake_any
  have h1 := Lib.hid (fun u => light_any W H A n c u (by omega))
  have h2 := Lib.hid (fun u => right_any W H A n c u (by omega))
  have hT := Lib.hid (fun u => tiles_any W H u (by omega) (by omega))
  rw [ha, hd] at hT
  rw [hl] at h1
  rw [decide_eq_true hr] at h2
  have HG := Lib.hid (fun (k q : Nat) (hk : k < d) (hq : q < a) (u : World) (hI : Img u (img W H A n c) W H xs) => gather_any (img W H A n c) W H xs ((q : Nat) : Int) ((k : Nat) : Int) u hI (by omega) (by omega))
  have HGV := Lib.hid (fun (k q : Nat) (hk : k < d) (hq : q < a) => show gatV W H xs ((q : Nat) : Int) ((k : Nat) : Int) = gatK W H xs ((q : Nat) : Int) ((k : Nat) : Int) 16 ∧ noE (hasP W H xs.length ((q : Nat) : Int) ((k : Nat) : Int)) = 0 from by
    have hh : hasP W H xs.length ((q : Nat) : Int) ((k : Nat) : Int) := by
      rw [hB.1]
      refine ⟨hr, ?_⟩
      rw [ha, hd]
      exact ⟨by omega, by omega, by omega, by omega⟩
    exact ⟨if_pos hh, if_pos hh⟩)
  have HW := Lib.hid (fun (u : World) (A' : Option Addr) (c' : Nat) (h : Rs u u.heap.size A' (a * d * 64) (i64s (gats W H xs a (a * d)))) => whole_ok W H A' n (a * d) c' a d (gats W H xs a (a * d)) u hr ha hd ha0 ha2 hd0 hd2 rfl h)
  rw [whole_back xs hB.2.1 hB.1 hr ha hd ha0] at HW
  have HS := Lib.hid (fun (u : World) (v : Value) (h : Img u (img W H A n c) W H xs) (h' : Img u v W H xs) => rsame_any _ v W H W H xs xs u h h')
  rw [show decide (sameP W H W H xs xs) = true from by simp [sameP]] at HS
  have G0 := Lib.hid (show gats W H xs a 0 = [] from rfl)
  have GS := Lib.hid (fun (k q : Nat) (hq : q < a) => show gats W H xs a (k * a + q + 1) = gats W H xs a (k * a + q) ++ gatK W H xs ((q : Nat) : Int) ((k : Nat) : Int) 16 from by rw [gats, (step_mod hq).1, (step_mod hq).2])
  have GL := Lib.hid (gats_length W H xs a)
  have KL := Lib.hid (fun (k q : Nat) => gatK_length W H xs ((q : Nat) : Int) ((k : Nat) : Int) 16)
  clear hl hr hB ha hd
  generalize gats W H xs a = gs at *
  go_enter Try.func4, Try.ntmps4
  go_wp2_with (first
    | (go_at_call 8; refine (hA.out _).mono ?_; rintro e w1 ⟨rfl, hb⟩; have E1 := Lib.hid (E.out.later hb); clear hb E; have E := E1; clear E1)
    | (go_at_call 9; refine (h1.out _).mono ?_; rintro e w2 ⟨rfl, hb⟩; have E1 := Lib.hid (E.out.later hb); clear hb E; have E := E1; clear E1)
    | (go_at_call 20; refine (h2.out _).mono ?_; rintro e w3 ⟨rfl, hb⟩; have E1 := Lib.hid (E.out.later hb); clear hb E; have E := E1; clear E1)
    | (go_at_call 15; refine (hT.out _).mono ?_; rintro e w4 ⟨rfl, rfl⟩)
    | ((with_reducible refine kn_load E.out rfl rfl rfl rfl ?_)) | ((with_reducible refine kn_load_if E.out rfl rfl rfl rfl ?_)) | ((with_reducible refine kn_loads E.out rfl rfl rfl ?hlen ?_); (case hlen => first | rfl | (simp only [i64s_length, u8s_length]; first | rfl | assumption | omega))) | ((with_reducible refine kn_loads_if E.out rfl rfl rfl ?hlen ?_); (case hlen => first | rfl | (simp only [i64s_length, u8s_length]; first | rfl | assumption | omega))) | ((with_reducible refine kn_store1_int E.out rfl rfl rfl rfl rfl ?_); clear E; intro u E0; have E := Lib.hid E0; clear E0) | ((with_reducible refine kn_store1_slice E.out rfl rfl rfl rfl rfl ?_); clear E; intro u E0; have E := Lib.hid E0; clear E0) | ((with_reducible refine kn_store1_bool E.out rfl rfl rfl rfl rfl ?_); clear E; intro u E0; have E := Lib.hid E0; clear E0) | ((with_reducible refine kn_stores E.out rfl rfl rfl rfl rfl ?hlen ?hone ?_); (case hlen => first | exact ⟨rfl, rfl⟩ | (simp only [i64s_length, u8s_length]; refine ⟨?_, ?_⟩ <;> first | rfl | assumption | omega)); (case hone => first | exact i64s_one _ | exact u8s_one _ | simp [Value.oneCell']); clear E; intro u E0; have E := Lib.hid E0; clear E0) | ((with_reducible refine kn_alloc E.out rfl rfl ?_); clear E; intro g u E0 hb0; have E := Lib.hid E0; clear E0 hb0) | ((with_reducible refine kn_box E.out rfl rfl rfl ?_); clear E; intro g u E0 hb0; have E := Lib.hid E0; clear E0 hb0) | ((with_reducible refine kn_box_int E.out rfl rfl rfl ?_); clear E; intro g u E0 hb0; have E := Lib.hid E0; clear E0 hb0) | ((with_reducible refine kn_box_slice E.out rfl rfl rfl ?_); clear E; intro g u E0 hb0; have E := Lib.hid E0; clear E0 hb0) | ((with_reducible refine kn_box_bool E.out rfl rfl rfl ?_); clear E; intro g u E0 hb0; have E := Lib.hid E0; clear E0 hb0) | ((with_reducible refine kn_box_func E.out rfl rfl rfl ?_); clear E; intro g u E0 hb0; have E := Lib.hid E0; clear E0 hb0))
  have E1 := Lib.hid (E.out.own_nil 32 64)
  clear hA h1 h2 hT E
  go_loopw [8, 7] (fun i v wr => ∃ k : Nat, k ≤ d ∧ i = .int .i64 k ∧ Hid (Kn w [.own 32 64 v (k * a) (i64s (gs (k * a))), .row g 24 (imL W H A n c)] [imgF (img W H A n c) W H xs] wr)) (fun i _ _ => d - (intOf i).toNat)
  case atStart => exact ⟨0, by omega, rfl, by rw [Nat.zero_mul, G0.out]; exact E1⟩
  case round =>
    clear E1
    obtain ⟨k, hk, rfl, E⟩ := hrel
    by_cases hlt : k < d
    · go_wp2
      try rw [show decide (k < d) = true from by simp; omega]
      go_loopw [9, 7] (fun j v wr => ∃ q : Nat, q ≤ a ∧ j = .int .i64 q ∧ Hid (Kn w [.own 32 64 v (k * a + q) (i64s (gs (k * a + q))), .row g 24 (imL W H A n c)] [imgF (img W H A n c) W H xs] wr)) (fun j _ _ => a - (intOf j).toNat)
      case atStart => exact ⟨0, by omega, rfl, E⟩
      case round =>
        clear E
        obtain ⟨q, hq, rfl, E⟩ := hrel
        by_cases hlt2 : q < a
        · have hG := Lib.hid (HG.out k q hlt hlt2)
          rw [(HGV.out k q hlt hlt2).1, (HGV.out k q hlt hlt2).2] at hG
          have hGS := Lib.hid (GS.out k q hlt2)
          have hKL := KL.out k q
          have hqm : k * a + q + 1 ≤ 1048576 := Nat.le_trans (by have : (k + 1) * a ≤ d * a := Nat.mul_le_mul_right a hlt; rw [Nat.add_mul, Nat.one_mul, Nat.mul_comm d a] at this; omega) hmx
          have HQM := Lib.hid hqm
          clear HG HGV GS KL hqm
          generalize gatK W H xs ((q : Nat) : Int) ((k : Nat) : Int) 16 = T at *
          go_wp2_with (first
            | (go_at_call 10; refine (hG.out _ E.out.img).mono ?_; rintro e w5 ⟨rfl, hb⟩; have E1 := Lib.hid (E.out.later hb); clear hb E; have E := E1; clear E1)
            | ((with_reducible refine kn_build1 E.out rfl rfl rfl (vs := i64s T) rfl Try.underlying26 info_tile ?hlen ?hsz ?hs2 ?_); (case hlen => rw [i64s_length]; exact hKL); (case hsz => omega); (case hs2 => omega); clear E; intro g u E0 hb0; have E := Lib.hid E0; clear E0 hb0)
            | (at_builtin; ((with_reducible refine kn_append_row E.out rfl rfl ?hs Try.underlying26 info_tile ?hzc ?hsz rfl ?hl ?h1 ?hn ?hb ?_)); (case hs => rfl); (case hzc => rfl); (case hsz => omega); (case hl => rw [i64s_length, hKL]); (case h1 => exact i64s_one _); (case hn => have := HQM.out; unfold maxLen; omega); (case hb => have := HQM.out; omega); clear E; intro v' u' E0; have E := Lib.hid E0; clear E0)
            | ((with_reducible refine kn_load E.out rfl rfl rfl rfl ?_)) | ((with_reducible refine kn_load_if E.out rfl rfl rfl rfl ?_)) | ((with_reducible refine kn_loads E.out rfl rfl rfl ?hlen ?_); (case hlen => first | rfl | (simp only [i64s_length, u8s_length]; first | rfl | assumption | omega))) | ((with_reducible refine kn_loads_if E.out rfl rfl rfl ?hlen ?_); (case hlen => first | rfl | (simp only [i64s_length, u8s_length]; first | rfl | assumption | omega))) | ((with_reducible refine kn_store1_int E.out rfl rfl rfl rfl rfl ?_); clear E; intro u E0; have E := Lib.hid E0; clear E0) | ((with_reducible refine kn_store1_slice E.out rfl rfl rfl rfl rfl ?_); clear E; intro u E0; have E := Lib.hid E0; clear E0) | ((with_reducible refine kn_store1_bool E.out rfl rfl rfl rfl rfl ?_); clear E; intro u E0; have E := Lib.hid E0; clear E0) | ((with_reducible refine kn_stores E.out rfl rfl rfl rfl rfl ?hlen ?hone ?_); (case hlen => first | exact ⟨rfl, rfl⟩ | (simp only [i64s_length, u8s_length]; refine ⟨?_, ?_⟩ <;> first | rfl | assumption | omega)); (case hone => first | exact i64s_one _ | exact u8s_one _ | simp [Value.oneCell']); clear E; intro u E0; have E := Lib.hid E0; clear E0) | ((with_reducible refine kn_alloc E.out rfl rfl ?_); clear E; intro g u E0 hb0; have E := Lib.hid E0; clear E0 hb0) | ((with_reducible refine kn_box E.out rfl rfl rfl ?_); clear E; intro g u E0 hb0; have E := Lib.hid E0; clear E0 hb0) | ((with_reducible refine kn_box_int E.out rfl rfl rfl ?_); clear E; intro g u E0 hb0; have E := Lib.hid E0; clear E0 hb0) | ((with_reducible refine kn_box_slice E.out rfl rfl rfl ?_); clear E; intro g u E0 hb0; have E := Lib.hid E0; clear E0 hb0) | ((with_reducible refine kn_box_bool E.out rfl rfl rfl ?_); clear E; intro g u E0 hb0; have E := Lib.hid E0; clear E0 hb0) | ((with_reducible refine kn_box_func E.out rfl rfl rfl ?_); clear E; intro g u E0 hb0; have E := Lib.hid E0; clear E0 hb0))
          go_roundw
          case rel => exact ⟨q + 1, by omega, by go_num, by rw [show k * a + (q + 1) = k * a + q + 1 from by omega, hGS.out, i64s_append]; exact E.out.part _ _ (.cons_cons _ (.cons _ (.cons _ (.refl _)))) (by simp)⟩
          case measure => simp [intOf]; omega
        · obtain rfl : q = a := by omega
          go_wp2
          go_roundw
          case rel => exact ⟨k + 1, by omega, by go_num, by rw [Nat.add_mul, Nat.one_mul]; exact E⟩
          case measure => simp [intOf]; omega
    · obtain rfl : k = d := by omega
      have hown := E.out.own (v := u7) (e := 32)
      rcases hown.2 with ⟨_, h0⟩ | ⟨g', cap, cur, rfl, _⟩
      · exact absurd h0 (by have := Nat.mul_pos hd0 ha0; omega)
      have RS := Lib.hid (show Rs wr wr.heap.size (some ⟨g', 0, none⟩) (a * k * 64) (i64s (gs (a * k))) from by have := Rs.of_ownN hown; rwa [Nat.mul_comm k a] at this)
      have hka := Lib.hid (Nat.mul_comm k a)
      have E2 := Lib.hid ((E.out.part [.row g 24 (imL W H A n c)] [imgF (img W H A n c) W H xs] (.cons _ (.refl _)) (by simp)).rest g)
      clear E hown HG HGV GS KL GL G0
      have E := E2
      clear E2
      rw [hka.out]
      generalize a * k = m at *
      go_wp2_with (first
        | (go_at_call 18; refine (HW.out _ _ _ RS.out).mono ?_; rintro e w6 ⟨v', rfl, hI, hb⟩; obtain ⟨A6, n6, c6, rfl, hn6, hB6⟩ := hI; have E1 := Lib.hid ((E.out.later hb).new_img (show Img w6 (img W H A6 n6 c6) W H xs from ⟨A6, n6, c6, rfl, hn6, hB6⟩)); clear hb hn6 hB6 E RS; have E := E1; clear E1)
        | (go_at_call 21; refine (HS.out _ _ E.out.img E.out.img).mono ?_; rintro e w7 ⟨rfl, hb⟩; have E1 := Lib.hid (E.out.later hb); clear hb E; have E := E1; clear E1)
        | ((with_reducible refine kn_load E.out rfl rfl rfl rfl ?_)) | ((with_reducible refine kn_load_if E.out rfl rfl rfl rfl ?_)) | ((with_reducible refine kn_loads E.out rfl rfl rfl ?hlen ?_); (case hlen => first | rfl | (simp only [i64s_length, u8s_length]; first | rfl | assumption | omega))) | ((with_reducible refine kn_loads_if E.out rfl rfl rfl ?hlen ?_); (case hlen => first | rfl | (simp only [i64s_length, u8s_length]; first | rfl | assumption | omega))) | ((with_reducible refine kn_store1_int E.out rfl rfl rfl rfl rfl ?_); clear E; intro u E0; have E := Lib.hid E0; clear E0) | ((with_reducible refine kn_store1_slice E.out rfl rfl rfl rfl rfl ?_); clear E; intro u E0; have E := Lib.hid E0; clear E0) | ((with_reducible refine kn_store1_bool E.out rfl rfl rfl rfl rfl ?_); clear E; intro u E0; have E := Lib.hid E0; clear E0) | ((with_reducible refine kn_stores E.out rfl rfl rfl rfl rfl ?hlen ?hone ?_); (case hlen => first | exact ⟨rfl, rfl⟩ | (simp only [i64s_length, u8s_length]; refine ⟨?_, ?_⟩ <;> first | rfl | assumption | omega)); (case hone => first | exact i64s_one _ | exact u8s_one _ | simp [Value.oneCell']); clear E; intro u E0; have E := Lib.hid E0; clear E0) | ((with_reducible refine kn_alloc E.out rfl rfl ?_); clear E; intro g u E0 hb0; have E := Lib.hid E0; clear E0 hb0) | ((with_reducible refine kn_box E.out rfl rfl rfl ?_); clear E; intro g u E0 hb0; have E := Lib.hid E0; clear E0 hb0) | ((with_reducible refine kn_box_int E.out rfl rfl rfl ?_); clear E; intro g u E0 hb0; have E := Lib.hid E0; clear E0 hb0) | ((with_reducible refine kn_box_slice E.out rfl rfl rfl ?_); clear E; intro g u E0 hb0; have E := Lib.hid E0; clear E0 hb0) | ((with_reducible refine kn_box_bool E.out rfl rfl rfl ?_); clear E; intro g u E0 hb0; have E := Lib.hid E0; clear E0 hb0) | ((with_reducible refine kn_box_func E.out rfl rfl rfl ?_); clear E; intro g u E0 hb0; have E := Lib.hid E0; clear E0 hb0))
      go_ret
      exact ⟨rfl, E.out.bel⟩

theorem walk (W H : Int) (A : Option Addr) (n c : Nat) (xs : List Nat) (w : World) (hB : Bs w w.heap.size A n xs) (hn : n ≤ 9223372036854775807) :
    Calls Try.prog 4 #[img W H A n c] w fun e w' => e = .returned (.bool true) ∧ Below w.heap.size w w' := by
  by_cases h1 : lightB W H n = true
  · by_cases h2 : rightP W H n
    · exact lit W H A n c xs w hB h1 h2
    · exact dark W H A n c w hn (.inr ⟨h1, h2⟩)
  · exact dark W H A n c w hn (.inl (by simpa using h1))

theorem own : ownKnob Try.prog.godebug = none := by kernel_rfl
theorem laidOut : laidOutB Try.prog = true := by kernel_rfl

set_option maxRecDepth 100000 in
theorem lifted (os : Os) (started : os.Started) (H : Type) (enc : TypeId × Value → H) :
    ReturnsInHanded {} Try.checked os 4 .any (Rows.imageWholeSpec.pre6 enc Try.prog Try.f4 Rows.imageWholeRow.domain false) (Rows.imageWholeSpec.post enc Try.prog Try.f4 false true false false) := by
  refine returnsInHanded_of_change (C := Try.checked) own started (by kernel_rfl) Try.func4
    (ChangeSpec.witness6 (enc := enc) (C := Try.checked) false ⟨#[], #[.agg #[.int .i64 0, .int .i64 0, .slice none 0 0]], []⟩ 8 (by kernel_rfl) (by kernel_rfl) (by kernel_rfl) (by kernel_rfl)) ?_
  intro W base args ds gs before hval0 hW hcnd _
  have hval : ∀ (j : Nat) t v, Try.f4.params[j]? = some t → args[j]? = some v → Value.okWide Try.prog W .any base t v := hval0
  have hW' := hW
  obtain ⟨p, q, hA0, hV, rfl, hfz, hnd⟩ := hW
  have hA : DataW.TrodAll enc Try.prog W 0 (fun _ => true) true Try.f4.params.toList args.toList ds p := hA0
  rw [Try.params4] at hA hval
  obtain ⟨v0, vs0, d0, ds0, p0, q0, hargs, rfl, rfl, h0, r0⟩ := trodAll_cons hA
  obtain ⟨rfl, rfl, rfl⟩ := trodAll_nil r0
  obtain rfl : args = #[v0] := by cases args; simp_all
  have lt0 : ∀ x ∈ p0, x.block < W.heap.size := by obtain ⟨m, hm⟩ := h0; exact DataW.trod_lt m _ _ _ hm
  obtain ⟨rfl, rfl⟩ := trodVars_none hV
  obtain ⟨W0, H0, A0, n0, c0, xs0, rfl, hB0, hn0, bW0, bH0⟩ := open_img Try.underlying24 (by kernel_rfl) rfl rfl rfl Try.underlying3 Try.underlying22 Try.underlying5 (by kernel_rfl) (by kernel_rfl) (hval 0 24 v0 rfl rfl) h0
  clear hA0 hval0
  refine (walk W0 H0 A0 n0 c0 xs0 W hB0 hn0).mono fun e W' ⟨he, bel⟩ => ?_
  subst he
  exact ⟨_, rfl, _, _, _, [], _, [], hW', trodAll_mk1 (shut_bool Try.underlying4 _), (trodAll_cons_mk (Below.trod laidOut (by kernel_rfl) (of_decide_eq_true (by kernel_rfl)) h0 bel lt0) trodAll_mk0), rfl, bel.frame _, fun h => by cases h⟩

theorem over : Rows.imageWholeRow.holds Try.pinned (OpenSpec.ofChange Rows.imageWholeSpec) :=
  OpenClaim.holds_of_wide 4 Try.f4 rfl rfl rfl rfl rfl rfl rfl ⟨rfl, rfl, rfl, rfl, rfl⟩ rfl rfl rfl rfl rfl (by kernel_rfl) Try.func4 (by kernel_rfl)
    (of_decide_eq_true (by kernel_rfl)) (by unfold Func.isWrapper; first | (rw [if_pos (by decide +kernel)]; kernel_rfl) | (rw [if_neg (by decide +kernel)]; exact ⟨rfl, rfl⟩))
    (fun os started H enc _ => lifted os started H enc)
end Go.Proofs.Yteamgegmcmcijaa.imageWhole

namespace Go.Proofs.Yteamgegmcmcijaa
theorem imageWhole_holds : Rows.ImageWholeSaid := imageWhole.over
#print axioms imageWhole_holds
end Go.Proofs.Yteamgegmcmcijaa
