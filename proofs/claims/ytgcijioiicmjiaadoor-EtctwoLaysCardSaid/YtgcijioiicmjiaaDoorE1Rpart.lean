/- A block's parts, the document's; a block's texels' numbers. -/
import Derived.Test.YtgcijioiicmjiaaDoorE1Part
set_option linter.all false
namespace Go.Proofs.YtgcijioiicmjiaaDoor
open Go.RowKit
open Bi Lv Eo

set_option maxHeartbeats 4000000 in
set_option maxRecDepth 100000 in
theorem rwhich_ok (A : Option Addr) (c : Nat) (xs : List Nat) (w : World) (h : Bs w w.heap.size A 8 xs) :
    Calls Tryd.prog 72 #[.slice A 8 c] w fun e w' => e = .returned (arr (whV xs 16)) ∧ Below w.heap.size w w' := by
  have E := Lib.hid ((Kn.start w).arg_bs h)
  have hGb := Lib.hid (fun p => G_bd xs p 1)
  have hLn := Lib.hid (whV_length xs)
  have h0 := Lib.hid (whV_zero xs)
  have hSt := Lib.hid (whV_set xs)
  have hVw := Lib.hid (val_w xs)
  have hTop := Lib.hid (fun (P M : Int) (p m : Nat) (hP : P = (p : Int)) (hM : M = (m : Int)) (u : World) (hu : Bs u u.heap.size A 8 xs) (hm : m ≤ 16) (hp : p + m ≤ 64) => show Calls Tryd.prog 27 #[.slice A 8 c, .int .i64 P, .int .i64 M] u (fun e w' => e = .returned (.int .i64 (G xs p m)) ∧ u = w') from top_any A 8 c P M p m hP hM xs _ u hu (by omega) hm (by omega))
  clear h
  generalize whV xs = WH at *
  generalize val xs = V at *
  go_enter Tryd.func72, Tryd.ntmps72
  go_wp2_with (first
    | ((with_reducible refine kn_stores (g := g3) (vs := i64s [0, 0, 0, 0, 0, 0, 0, 0, 0, 0, 0, 0, 0, 0, 0, 0]) E.out rfl rfl rfl rfl ?hy ?hl ?h1 ?_); (case hy => rfl); (case hl => exact ⟨rfl, rfl⟩); (case h1 => exact i64s_one _); clear E; intro u E0; have E := Lib.hid E0; clear E0)
    | ((with_reducible refine kn_load E.out rfl rfl rfl rfl ?_)) | ((with_reducible refine kn_load_if E.out rfl rfl rfl rfl ?_)) | ((with_reducible refine kn_loads E.out rfl rfl rfl ?_ ?_); (focus (first | rfl | (simp only [i64s_length, u8s_length]; first | rfl | assumption | omega)))) | ((with_reducible refine kn_loads_if E.out rfl rfl rfl ?_ ?_); (focus (first | rfl | (simp only [i64s_length, u8s_length]; first | rfl | assumption | omega)))) | ((with_reducible refine kn_stores E.out rfl rfl rfl rfl rfl ?_ ?_ ?_); (focus (first | exact ⟨rfl, rfl⟩ | (simp only [i64s_length, u8s_length]; refine ⟨?_, ?_⟩ <;> first | rfl | assumption | omega))); (focus (first | exact i64s_one _ | exact u8s_one _ | simp [Value.oneCell'])); clear E; intro u E0; have E := Lib.hid E0; clear E0) | ((with_reducible refine kn_alloc (o := ⟨some 2, _, _, _, _, _⟩) E.out rfl rfl ?_); clear E; intro g2 u E0 hb0; have E := Lib.hid E0; clear E0 hb0) | ((with_reducible refine kn_box (o := ⟨some 2, _, _, _, _, _⟩) E.out rfl rfl rfl ?_); clear E; intro g2 u E0 hb0; have E := Lib.hid E0; clear E0 hb0) | ((with_reducible refine kn_box_int (o := ⟨some 2, _, _, _, _, _⟩) E.out rfl rfl rfl ?_); clear E; intro g2 u E0 hb0; have E := Lib.hid E0; clear E0 hb0) | ((with_reducible refine kn_box_slice (o := ⟨some 2, _, _, _, _, _⟩) E.out rfl rfl rfl ?_); clear E; intro g2 u E0 hb0; have E := Lib.hid E0; clear E0 hb0) | ((with_reducible refine kn_box_bool (o := ⟨some 2, _, _, _, _, _⟩) E.out rfl rfl rfl ?_); clear E; intro g2 u E0 hb0; have E := Lib.hid E0; clear E0 hb0) | ((with_reducible refine kn_box_func (o := ⟨some 2, _, _, _, _, _⟩) E.out rfl rfl rfl ?_); clear E; intro g2 u E0 hb0; have E := Lib.hid E0; clear E0 hb0) | ((with_reducible refine kn_alloc (o := ⟨some 3, _, _, _, _, _⟩) E.out rfl rfl ?_); clear E; intro g3 u E0 hb0; have E := Lib.hid E0; clear E0 hb0) | ((with_reducible refine kn_box (o := ⟨some 3, _, _, _, _, _⟩) E.out rfl rfl rfl ?_); clear E; intro g3 u E0 hb0; have E := Lib.hid E0; clear E0 hb0) | ((with_reducible refine kn_box_int (o := ⟨some 3, _, _, _, _, _⟩) E.out rfl rfl rfl ?_); clear E; intro g3 u E0 hb0; have E := Lib.hid E0; clear E0 hb0) | ((with_reducible refine kn_box_slice (o := ⟨some 3, _, _, _, _, _⟩) E.out rfl rfl rfl ?_); clear E; intro g3 u E0 hb0; have E := Lib.hid E0; clear E0 hb0) | ((with_reducible refine kn_box_bool (o := ⟨some 3, _, _, _, _, _⟩) E.out rfl rfl rfl ?_); clear E; intro g3 u E0 hb0; have E := Lib.hid E0; clear E0 hb0) | ((with_reducible refine kn_box_func (o := ⟨some 3, _, _, _, _, _⟩) E.out rfl rfl rfl ?_); clear E; intro g3 u E0 hb0; have E := Lib.hid E0; clear E0 hb0))
  go_loopw [4] (fun ci wr => ∃ i : Nat, i ≤ 16 ∧ ci = .int .i64 i ∧ Hid (Kn w [.row g3 46 (i64s (WH i)), .row g2 46 (i64s [0, 0, 0, 0, 0, 0, 0, 0, 0, 0, 0, 0, 0, 0, 0, 0])] [bsF A 8 xs] wr)) (fun ci _ => 16 - (intOf ci).toNat)
  case atStart => exact ⟨0, by omega, rfl, by rw [h0.out]; exact E⟩
  case round =>
    clear E
    obtain ⟨i, hi, rfl, E⟩ := hrel
    have hl := hLn.out i
    by_cases hlt : i < 16
    · have hS := Lib.hid (hSt.out i hlt)
      have hv := Lib.hid (hVw.out i)
      have ha := hGb.out (47 - pos i)
      have hb := hGb.out (63 - pos i)
      have e1 : ((2 ^ 1 : Nat) : Int) = 2 := rfl
      rw [e1] at ha hb
      have hp := pos_lt hlt
      have hpe : ((pos i : Nat) : Int) = 4 * ((i : Int) % 4) + (i : Int) / 4 := by unfold pos; omega
      have hq0 : 0 ≤ (i : Int) % 4 ∧ (i : Int) % 4 < 4 := by omega
      have hq1 : 0 ≤ (i : Int) / 4 ∧ (i : Int) / 4 < 4 := by omega
      clear hGb hLn h0 hSt hVw e1
      generalize WH i = W0 at *
      generalize pos i = q at *
      obtain ⟨a, hae⟩ : ∃ a, G xs (47 - q) 1 = a := ⟨_, rfl⟩
      obtain ⟨b, hbe⟩ : ∃ b, G xs (63 - q) 1 = b := ⟨_, rfl⟩
      rw [hae] at ha hv
      rw [hbe] at hb hv
      have HA := Lib.hid hae
      have HB := Lib.hid hbe
      clear hae hbe
      go_wp2_with (first
        | (go_at_call 27; refine (hTop.out _ _ (47 - q) 1 (by omega) (by omega) _ (E.out.bs (by simp)) (by omega) (by omega)).mono ?_; rintro e w1 ⟨rfl, rfl⟩; rw [HA.out])
        | (go_at_call 27; refine (hTop.out _ _ (63 - q) 1 (by omega) (by omega) _ (E.out.bs (by simp)) (by omega) (by omega)).mono ?_; rintro e w1 ⟨rfl, rfl⟩; rw [HB.out])
        | ((with_reducible refine kn_storei (g := g3) (i := i) E.out rfl rfl rfl rfl rfl ?hi ?_); (case hi => omega); clear E; intro u E0; have E := Lib.hid E0; clear E0)
        | ((with_reducible refine kn_load E.out rfl rfl rfl rfl ?_)) | ((with_reducible refine kn_load_if E.out rfl rfl rfl rfl ?_)) | ((with_reducible refine kn_loads E.out rfl rfl rfl ?_ ?_); (focus (first | rfl | (simp only [i64s_length, u8s_length]; first | rfl | assumption | omega)))) | ((with_reducible refine kn_loads_if E.out rfl rfl rfl ?_ ?_); (focus (first | rfl | (simp only [i64s_length, u8s_length]; first | rfl | assumption | omega)))) | ((with_reducible refine kn_stores E.out rfl rfl rfl rfl rfl ?_ ?_ ?_); (focus (first | exact ⟨rfl, rfl⟩ | (simp only [i64s_length, u8s_length]; refine ⟨?_, ?_⟩ <;> first | rfl | assumption | omega))); (focus (first | exact i64s_one _ | exact u8s_one _ | simp [Value.oneCell'])); clear E; intro u E0; have E := Lib.hid E0; clear E0))
      go_roundw
      case rel => exact ⟨i + 1, by omega, by go_num, by rw [← hS.out _ hv.out.symm]; exact E⟩
      case measure => simp [intOf]; try omega
    · have ei : i = 16 := by omega
      have hi3 : ¬ ((i : Int) < 16) := by omega
      rw [ei] at E hl
      clear hGb hLn h0 hSt hVw hlt hi ei
      go_wp2_with (first
        | ((with_reducible refine kn_loads (g := g3) E.out rfl rfl rfl ?hl ?_); (case hl => rw [i64s_length]; exact hl))
        | ((with_reducible refine kn_stores (g := g2) (vs := i64s (WH 16)) E.out rfl rfl rfl rfl rfl ?hl ?h1 ?_); (case hl => exact ⟨rfl, by rw [i64s_length]; exact hl⟩); (case h1 => exact i64s_one _); clear E; intro u E0; have E := Lib.hid E0; clear E0)
        | ((with_reducible refine kn_load E.out rfl rfl rfl rfl ?_)) | ((with_reducible refine kn_load_if E.out rfl rfl rfl rfl ?_)) | ((with_reducible refine kn_loads E.out rfl rfl rfl ?_ ?_); (focus (first | rfl | (simp only [i64s_length, u8s_length]; first | rfl | assumption | omega)))) | ((with_reducible refine kn_loads_if E.out rfl rfl rfl ?_ ?_); (focus (first | rfl | (simp only [i64s_length, u8s_length]; first | rfl | assumption | omega)))) | ((with_reducible refine kn_stores E.out rfl rfl rfl rfl rfl ?_ ?_ ?_); (focus (first | exact ⟨rfl, rfl⟩ | (simp only [i64s_length, u8s_length]; refine ⟨?_, ?_⟩ <;> first | rfl | assumption | omega))); (focus (first | exact i64s_one _ | exact u8s_one _ | simp [Value.oneCell'])); clear E; intro u E0; have E := Lib.hid E0; clear E0))
      refine bodyPost_ret (results_kn E.out rfl _ rfl (by rw [i64s_length]; exact hl)) rfl ?_
      exact ⟨rfl, E.out.bel⟩

set_option maxHeartbeats 8000000 in
set_option maxRecDepth 100000 in
theorem rparts_ok (A : Option Addr) (c : Nat) (xs : List Nat) (w : World) (h : Bs w w.heap.size A 8 xs) :
    Calls Tryd.prog 40 #[.slice A 8 c] w fun e w' => e = .returned (.tuple #[.agg (blk (pD xs) (pF xs) (pZ xs)).toArray, .int .i64 0]) ∧ Below w.heap.size w w' := by
  have E := Lib.hid ((Kn.start w).arg_bs h)
  have hD := Lib.hid (pD_G xs)
  have hF := Lib.hid (pF_G xs)
  have hz := Lib.hid z24_length
  have hLn := Lib.hid (pP_length xs)
  have h0 := Lib.hid (pP_zero xs)
  have hPair := Lib.hid (pP_pair xs)
  have hMid := Lib.hid (pP_mid xs)
  have hSome := Lib.hid (pP_some xs)
  have hVa := Lib.hid (val_a xs)
  have hVb := Lib.hid (val_b xs)
  have hVt := Lib.hid (val_t xs)
  have hwl := Lib.hid (whV_length xs 16)
  have hwg := Lib.hid (show ∀ i, i < 16 → (whV xs 16).getD i 0 = val xs (8 + i) from fun i hi => by rw [whV_getD _ _ _ hi, if_pos hi])
  have hWh := Lib.hid (fun u hu => rwhich_ok A c xs u hu)
  have hGb := Lib.hid (G_bd xs)
  rw [show pZ xs = pP xs (sN 24) from rfl]
  have hTop := Lib.hid (fun (P M : Int) (p m : Nat) (hP : P = (p : Int)) (hM : M = (m : Int)) (u : World) (hu : Bs u u.heap.size A 8 xs) (hm : m ≤ 16) (hp : p + m ≤ 64) => show Calls Tryd.prog 27 #[.slice A 8 c, .int .i64 P, .int .i64 M] u (fun e w' => e = .returned (.int .i64 (G xs p m)) ∧ u = w') from top_any A 8 c P M p m hP hM xs _ u hu (by omega) hm (by omega))
  clear h
  generalize pD xs = D at *
  generalize pF xs = F at *
  generalize pP xs = PP at *
  generalize whV xs 16 = WH at *
  generalize val xs = V at *
  go_enter Tryd.func40, Tryd.ntmps40
  go_wp2_with (first
    | (go_at_call 27; refine (hTop.out _ _ 30 1 (by omega) (by omega) _ (E.out.bs (by simp)) (by omega) (by omega)).mono ?_; rintro e w1 ⟨rfl, rfl⟩)
    | (go_at_call 27; refine (hTop.out _ _ 31 1 (by omega) (by omega) _ (E.out.bs (by simp)) (by omega) (by omega)).mono ?_; rintro e w1 ⟨rfl, rfl⟩)
    | ((with_reducible refine kn_bputall (g := g4) (d' := false) (f' := false) (Z' := z24) E.out rfl rfl rfl rfl ?hy ?h1 ?h2 ?_); (case hy => rfl); (case h1 => exact hz.out); (case h2 => exact hz.out); clear E; intro u E0; have E := Lib.hid E0; clear E0)
    | ((with_reducible refine kn_bputd (g := g4) E.out rfl rfl rfl rfl rfl ?_); clear E; intro u E0; have E := Lib.hid E0; clear E0; simp only [hD.out] at E)
    | ((with_reducible refine kn_bputf (g := g4) E.out rfl rfl rfl rfl rfl ?_); clear E; intro u E0; have E := Lib.hid E0; clear E0; simp only [hF.out] at E)
    | ((with_reducible refine kn_load E.out rfl rfl rfl rfl ?_)) | ((with_reducible refine kn_load_if E.out rfl rfl rfl rfl ?_)) | ((with_reducible refine kn_loads E.out rfl rfl rfl ?_ ?_); (focus (first | rfl | (simp only [i64s_length, u8s_length]; first | rfl | assumption | omega)))) | ((with_reducible refine kn_loads_if E.out rfl rfl rfl ?_ ?_); (focus (first | rfl | (simp only [i64s_length, u8s_length]; first | rfl | assumption | omega)))) | ((with_reducible refine kn_stores E.out rfl rfl rfl rfl rfl ?_ ?_ ?_); (focus (first | exact ⟨rfl, rfl⟩ | (simp only [i64s_length, u8s_length]; refine ⟨?_, ?_⟩ <;> first | rfl | assumption | omega))); (focus (first | exact i64s_one _ | exact u8s_one _ | simp [Value.oneCell'])); clear E; intro u E0; have E := Lib.hid E0; clear E0) | ((with_reducible refine kn_alloc (o := ⟨some 2, _, _, _, _, _⟩) E.out rfl rfl ?_); clear E; intro g2 u E0 hb0; have E := Lib.hid E0; clear E0 hb0) | ((with_reducible refine kn_box (o := ⟨some 2, _, _, _, _, _⟩) E.out rfl rfl rfl ?_); clear E; intro g2 u E0 hb0; have E := Lib.hid E0; clear E0 hb0) | ((with_reducible refine kn_box_int (o := ⟨some 2, _, _, _, _, _⟩) E.out rfl rfl rfl ?_); clear E; intro g2 u E0 hb0; have E := Lib.hid E0; clear E0 hb0) | ((with_reducible refine kn_box_slice (o := ⟨some 2, _, _, _, _, _⟩) E.out rfl rfl rfl ?_); clear E; intro g2 u E0 hb0; have E := Lib.hid E0; clear E0 hb0) | ((with_reducible refine kn_box_bool (o := ⟨some 2, _, _, _, _, _⟩) E.out rfl rfl rfl ?_); clear E; intro g2 u E0 hb0; have E := Lib.hid E0; clear E0 hb0) | ((with_reducible refine kn_box_func (o := ⟨some 2, _, _, _, _, _⟩) E.out rfl rfl rfl ?_); clear E; intro g2 u E0 hb0; have E := Lib.hid E0; clear E0 hb0) | ((with_reducible refine kn_alloc (o := ⟨some 4, _, _, _, _, _⟩) E.out rfl rfl ?_); clear E; intro g4 u E0 hb0; have E := Lib.hid E0; clear E0 hb0) | ((with_reducible refine kn_box (o := ⟨some 4, _, _, _, _, _⟩) E.out rfl rfl rfl ?_); clear E; intro g4 u E0 hb0; have E := Lib.hid E0; clear E0 hb0) | ((with_reducible refine kn_box_int (o := ⟨some 4, _, _, _, _, _⟩) E.out rfl rfl rfl ?_); clear E; intro g4 u E0 hb0; have E := Lib.hid E0; clear E0 hb0) | ((with_reducible refine kn_box_slice (o := ⟨some 4, _, _, _, _, _⟩) E.out rfl rfl rfl ?_); clear E; intro g4 u E0 hb0; have E := Lib.hid E0; clear E0 hb0) | ((with_reducible refine kn_box_bool (o := ⟨some 4, _, _, _, _, _⟩) E.out rfl rfl rfl ?_); clear E; intro g4 u E0 hb0; have E := Lib.hid E0; clear E0 hb0) | ((with_reducible refine kn_box_func (o := ⟨some 4, _, _, _, _, _⟩) E.out rfl rfl rfl ?_); clear E; intro g4 u E0 hb0; have E := Lib.hid E0; clear E0 hb0))
  go_loopw [5] (fun ci wr => ∃ k : Nat, k ≤ 3 ∧ ci = .int .i64 k ∧ Hid (Kn w [.row g4 65 (blk D F (PP (sC k))), .row g2 65 (blk false false z24)] [bsF A 8 xs] wr)) (fun ci _ => 3 - (intOf ci).toNat)
  case atStart => exact ⟨0, by omega, rfl, by rw [h0.out]; exact E⟩
  case round =>
    clear E
    obtain ⟨k, hk, rfl, E⟩ := hrel
    have hl := hLn.out (sC k)
    by_cases hlt : k < 3
    · have hk3 : (k : Int) < 3 := by omega
      have hP := Lib.hid (hPair.out k hlt)
      have hva := Lib.hid (hVa.out k hlt)
      have hvb := Lib.hid (hVb.out k hlt)
      cases D
      · have hva' : V k = G xs (8 * k) 4 := hva.out
        have hvb' : V (3 + k) = G xs (8 * k + 4) 4 := by rw [hvb.out]; unfold sg; rw [if_neg (by simp)]; rfl
        replace hva' := Lib.hid hva'
        replace hvb' := Lib.hid hvb'
        clear hPair hVa hVb hGb hSome hMid hVt h0 hLn hD hF hva hvb
        generalize PP (sC k) = P0 at *
        go_wp2_with (first
          | (go_at_call 27; refine (hTop.out _ _ (8 * k) 4 (by omega) (by omega) _ (E.out.bs (by simp)) (by omega) (by omega)).mono ?_; rintro e w1 ⟨rfl, rfl⟩)
          | (go_at_call 27; refine (hTop.out _ _ (8 * k + 4) 4 (by omega) (by omega) _ (E.out.bs (by simp)) (by omega) (by omega)).mono ?_; rintro e w1 ⟨rfl, rfl⟩)
          | ((with_reducible refine kn_bd (g := g4) E.out rfl rfl rfl ?_))
          | ((with_reducible refine kn_bput (i := k) (g := g4) E.out rfl rfl rfl rfl rfl ?h1 ?h2 ?_); (case h1 => omega); (case h2 => (try simp only [List.length_set]); omega); clear E; intro u E0; have E := Lib.hid E0; clear E0)
          | ((with_reducible refine kn_bput (i := 3 + k) (g := g4) E.out rfl rfl rfl rfl rfl ?h1 ?h2 ?_); (case h1 => omega); (case h2 => (try simp only [List.length_set]); omega); clear E; intro u E0; have E := Lib.hid E0; clear E0)
          | ((with_reducible refine kn_load E.out rfl rfl rfl rfl ?_)) | ((with_reducible refine kn_load_if E.out rfl rfl rfl rfl ?_)) | ((with_reducible refine kn_loads E.out rfl rfl rfl ?_ ?_); (focus (first | rfl | (simp only [i64s_length, u8s_length]; first | rfl | assumption | omega)))) | ((with_reducible refine kn_loads_if E.out rfl rfl rfl ?_ ?_); (focus (first | rfl | (simp only [i64s_length, u8s_length]; first | rfl | assumption | omega)))) | ((with_reducible refine kn_stores E.out rfl rfl rfl rfl rfl ?_ ?_ ?_); (focus (first | exact ⟨rfl, rfl⟩ | (simp only [i64s_length, u8s_length]; refine ⟨?_, ?_⟩ <;> first | rfl | assumption | omega))); (focus (first | exact i64s_one _ | exact u8s_one _ | simp [Value.oneCell'])); clear E; intro u E0; have E := Lib.hid E0; clear E0))
        go_roundw
        case rel => exact ⟨k + 1, by omega, by go_num, by rw [← hP.out _ _ hva'.out.symm hvb'.out.symm]; exact E⟩
        case measure => simp [intOf]; try omega
      · have hva' : V k = G xs (8 * k) 5 := hva.out
        have hvb' : V (3 + k) = sg true (G xs (8 * k + 5) 3) := hvb.out
        have hgb := hGb.out (8 * k + 5) 3
        rw [show ((2 ^ 3 : Nat) : Int) = 8 from rfl] at hgb
        replace hva' := Lib.hid hva'
        clear hPair hVa hVb hGb hSome hMid hVt h0 hLn hD hF hva hvb
        generalize PP (sC k) = P0 at *
        obtain ⟨N2, hN2⟩ : ∃ N, G xs (8 * k + 5) 3 = N := ⟨_, rfl⟩
        rw [hN2] at hgb hvb'
        have HN2 := Lib.hid hN2
        clear hN2
        have hgs : ((P0.set k (G xs (8 * k) 5)).set (3 + k) N2).getD (3 + k) 0 = N2 := by
          rw [getD_seti _ _ _ _ (by rw [List.length_set]; omega), if_pos rfl]
        replace hgs := Lib.hid hgs
        by_cases h4 : 3 < N2
        · have hvb2 := Lib.hid (show V (3 + k) = N2 - 8 from by rw [hvb']; unfold sg; rw [if_pos ⟨rfl, by omega⟩])
          have hss := Lib.hid (fun (z : Int) => List.set_set (l := P0.set k (G xs (8 * k) 5)) (i := 3 + k) (a := N2) (b := z))
          clear hvb'
          go_wp2_with (first
            | (go_at_call 27; refine (hTop.out _ _ (8 * k) 5 (by omega) (by omega) _ (E.out.bs (by simp)) (by omega) (by omega)).mono ?_; rintro e w1 ⟨rfl, rfl⟩)
            | (go_at_call 27; refine (hTop.out _ _ (8 * k + 5) 3 (by omega) (by omega) _ (E.out.bs (by simp)) (by omega) (by omega)).mono ?_; rintro e w1 ⟨rfl, rfl⟩; rw [HN2.out])
            | ((with_reducible refine kn_bd (g := g4) E.out rfl rfl rfl ?_))
            | (((with_reducible refine kn_bz (i := 3 + k) (g := g4) E.out rfl rfl rfl ?h1 ?h2 ?_); (case h1 => omega); (case h2 => (try simp only [List.length_set]); omega)); rw [hgs.out])
            | ((with_reducible refine kn_bput (i := k) (g := g4) E.out rfl rfl rfl rfl rfl ?h1 ?h2 ?_); (case h1 => omega); (case h2 => (try simp only [List.length_set]); omega); clear E; intro u E0; have E := Lib.hid E0; clear E0)
            | ((with_reducible refine kn_bput (i := 3 + k) (g := g4) E.out rfl rfl rfl rfl rfl ?h1 ?h2 ?_); (case h1 => omega); (case h2 => (try simp only [List.length_set]); omega); clear E; intro u E0; have E := Lib.hid E0; clear E0)
            | ((with_reducible refine kn_load E.out rfl rfl rfl rfl ?_)) | ((with_reducible refine kn_load_if E.out rfl rfl rfl rfl ?_)) | ((with_reducible refine kn_loads E.out rfl rfl rfl ?_ ?_); (focus (first | rfl | (simp only [i64s_length, u8s_length]; first | rfl | assumption | omega)))) | ((with_reducible refine kn_loads_if E.out rfl rfl rfl ?_ ?_); (focus (first | rfl | (simp only [i64s_length, u8s_length]; first | rfl | assumption | omega)))) | ((with_reducible refine kn_stores E.out rfl rfl rfl rfl rfl ?_ ?_ ?_); (focus (first | exact ⟨rfl, rfl⟩ | (simp only [i64s_length, u8s_length]; refine ⟨?_, ?_⟩ <;> first | rfl | assumption | omega))); (focus (first | exact i64s_one _ | exact u8s_one _ | simp [Value.oneCell'])); clear E; intro u E0; have E := Lib.hid E0; clear E0))
          go_roundw
          case rel => exact ⟨k + 1, by omega, by go_num, by rw [← hP.out _ _ hva'.out.symm hvb2.out.symm, ← hss.out]; exact E⟩
          case measure => simp [intOf]; try omega
        · have hvb2 := Lib.hid (show V (3 + k) = N2 from by rw [hvb']; unfold sg; rw [if_neg fun q => absurd q.2 (by omega)])
          clear hvb'
          go_wp2_with (first
            | (go_at_call 27; refine (hTop.out _ _ (8 * k) 5 (by omega) (by omega) _ (E.out.bs (by simp)) (by omega) (by omega)).mono ?_; rintro e w1 ⟨rfl, rfl⟩)
            | (go_at_call 27; refine (hTop.out _ _ (8 * k + 5) 3 (by omega) (by omega) _ (E.out.bs (by simp)) (by omega) (by omega)).mono ?_; rintro e w1 ⟨rfl, rfl⟩; rw [HN2.out])
            | ((with_reducible refine kn_bd (g := g4) E.out rfl rfl rfl ?_))
            | (((with_reducible refine kn_bz (i := 3 + k) (g := g4) E.out rfl rfl rfl ?h1 ?h2 ?_); (case h1 => omega); (case h2 => (try simp only [List.length_set]); omega)); rw [hgs.out])
            | ((with_reducible refine kn_bput (i := k) (g := g4) E.out rfl rfl rfl rfl rfl ?h1 ?h2 ?_); (case h1 => omega); (case h2 => (try simp only [List.length_set]); omega); clear E; intro u E0; have E := Lib.hid E0; clear E0)
            | ((with_reducible refine kn_bput (i := 3 + k) (g := g4) E.out rfl rfl rfl rfl rfl ?h1 ?h2 ?_); (case h1 => omega); (case h2 => (try simp only [List.length_set]); omega); clear E; intro u E0; have E := Lib.hid E0; clear E0)
            | ((with_reducible refine kn_load E.out rfl rfl rfl rfl ?_)) | ((with_reducible refine kn_load_if E.out rfl rfl rfl rfl ?_)) | ((with_reducible refine kn_loads E.out rfl rfl rfl ?_ ?_); (focus (first | rfl | (simp only [i64s_length, u8s_length]; first | rfl | assumption | omega)))) | ((with_reducible refine kn_loads_if E.out rfl rfl rfl ?_ ?_); (focus (first | rfl | (simp only [i64s_length, u8s_length]; first | rfl | assumption | omega)))) | ((with_reducible refine kn_stores E.out rfl rfl rfl rfl rfl ?_ ?_ ?_); (focus (first | exact ⟨rfl, rfl⟩ | (simp only [i64s_length, u8s_length]; refine ⟨?_, ?_⟩ <;> first | rfl | assumption | omega))); (focus (first | exact i64s_one _ | exact u8s_one _ | simp [Value.oneCell'])); clear E; intro u E0; have E := Lib.hid E0; clear E0))
          go_roundw
          case rel => exact ⟨k + 1, by omega, by go_num, by rw [← hP.out _ _ hva'.out.symm hvb2.out.symm]; exact E⟩
          case measure => simp [intOf]; try omega
    · have hk3 : ¬ ((k : Int) < 3) := by omega
      have ek : k = 3 := by omega
      rw [ek, hMid.out] at E
      have hl6 := hLn.out (sN 6)
      have hl8 := hLn.out (sN 8)
      have hl24 := Lib.hid (hLn.out (sN 24))
      obtain ⟨a, hae⟩ : ∃ a, G xs 24 3 = a := ⟨_, rfl⟩
      obtain ⟨b, hbe⟩ : ∃ b, G xs 27 3 = b := ⟨_, rfl⟩
      have hT := Lib.hid (show spl (PP (sN 6)) 6 [a, b] = PP (sN 8) from hSome.out 6 2 [a, b] rfl (by omega) (fun j hj => by
        rw [hVt.out j hj]
        obtain rfl | rfl : j = 0 ∨ j = 1 := by omega
        · exact hae.symm
        · exact hbe.symm))
      have hWW := Lib.hid (show spl (PP (sN 8)) 8 WH = PP (sN 24) from hSome.out 8 16 WH hwl.out (by omega) hwg.out)
      have HA := Lib.hid hae
      have HB := Lib.hid hbe
      clear hPair hVa hVb hGb hSome hMid h0 hD hF hlt hl hk ek hz hVt hLn hwg hae hbe
      generalize PP (sN 6) = P6 at *
      go_wp2_with (first
        | (go_at_call 27; refine (hTop.out _ _ 24 3 (by omega) (by omega) _ (E.out.bs (by simp)) (by omega) (by omega)).mono ?_; rintro e w1 ⟨rfl, rfl⟩; rw [HA.out])
        | (go_at_call 27; refine (hTop.out _ _ 27 3 (by omega) (by omega) _ (E.out.bs (by simp)) (by omega) (by omega)).mono ?_; rintro e w1 ⟨rfl, rfl⟩; rw [HB.out])
        | (go_at_call 72; refine (hWh.out _ (E.out.bs (by simp))).mono ?_; clear hWh; rintro e w1 ⟨rfl, hb⟩; have E1 := Lib.hid (E.out.later hb); clear hb E; have E := E1; clear E1)
        | ((with_reducible refine kn_bputp (g := g4) (i := 6) (ys := [a, b]) E.out rfl rfl rfl rfl ?hy ?h1 ?h2 ?h3 ?_); (case hy => rfl); (case h1 => rfl); (case h2 => rfl); (case h3 => omega); clear E; intro u E0; have E := Lib.hid E0; clear E0; rw [hT.out] at E)
        | ((with_reducible refine kn_bputp (g := g4) (i := 8) (ys := WH) E.out rfl rfl rfl rfl rfl ?h1 ?h2 ?h3 ?_); (case h1 => rfl); (case h2 => exact hwl.out); (case h3 => omega); clear E; intro u E0; have E := Lib.hid E0; clear E0; rw [hWW.out] at E)
        | ((with_reducible refine kn_ball (g := g4) E.out rfl rfl rfl ?h1 ?_); (case h1 => exact hl24.out))
        | ((with_reducible refine kn_bputall (g := g2) E.out rfl rfl rfl rfl rfl ?h1 ?h2 ?_); (case h1 => rfl); (case h2 => exact hl24.out); clear E; intro u E0; have E := Lib.hid E0; clear E0)
        | ((with_reducible refine kn_load E.out rfl rfl rfl rfl ?_)) | ((with_reducible refine kn_load_if E.out rfl rfl rfl rfl ?_)) | ((with_reducible refine kn_loads E.out rfl rfl rfl ?_ ?_); (focus (first | rfl | (simp only [i64s_length, u8s_length]; first | rfl | assumption | omega)))) | ((with_reducible refine kn_loads_if E.out rfl rfl rfl ?_ ?_); (focus (first | rfl | (simp only [i64s_length, u8s_length]; first | rfl | assumption | omega)))) | ((with_reducible refine kn_stores E.out rfl rfl rfl rfl rfl ?_ ?_ ?_); (focus (first | exact ⟨rfl, rfl⟩ | (simp only [i64s_length, u8s_length]; refine ⟨?_, ?_⟩ <;> first | rfl | assumption | omega))); (focus (first | exact i64s_one _ | exact u8s_one _ | simp [Value.oneCell'])); clear E; intro u E0; have E := Lib.hid E0; clear E0))
      refine bodyPost_ret (results_kn2i E.out rfl _ rfl hl24.out) rfl ?_
      exact ⟨rfl, E.out.bel⟩
end Go.Proofs.YtgcijioiicmjiaaDoor
