/- The two colours of a block: the document's. -/
import Derived.Test.YtgcijioiicmjiaaDoorE1Base
set_option linter.all false
namespace Go.Proofs.YtgcijioiicmjiaaDoor
open Go.RowKit
open Bi Lv Eo


set_option maxHeartbeats 8000000 in
set_option maxRecDepth 100000 in
theorem rbases_true (f : Bool) (Z : List Int) (w : World) (hZ : Z.length = 24) (h : okP true Z) :
    Calls Tryd.prog 30 #[.agg (blk true f Z).toArray] w fun e w' => e = .returned (.tuple #[arr (baV true Z), .int .i64 ((farP true Z 3 : Nat) : Int)]) ∧ Below w.heap.size w w' := by
  have E := Lib.hid (Kn.start w)
  rw [← far_bad]
  have h0 := Lib.hid (show [0, 0, 0, 255, 0, 0, 0, 255] = bS true Z (sD 0) from (bS_none true Z _ fun j hj => by simp [sD]; omega).symm)
  have hbl := Lib.hid (fun k => bS_length true Z (sD k))
  have hbs := Lib.hid (fun c (hc : c < 3) (a b : Int) (ha : a = wideV (Z.getD c 0) 5) (hb : b = wideV (seV true Z c) 5) => show ((bS true Z (sD (2 - c))).set c a).set (4 + c) b = bS true Z (sD (2 - c + 1)) from
    bS_set true Z hc a b ha hb fun j hj => by simp only [sD]; rw [Bool.eq_iff_iff]; simp only [Bool.or_eq_true, decide_eq_true_eq]; omega)
  have hbe := Lib.hid (show bS true Z (sD 3) = baV true Z from bS_full true Z _ fun j hj => by simp [sD])
  have hba := Lib.hid (baV_length true Z)
  have hse := Lib.hid (fun c => show seV true Z c = Z.getD (3 + c) 0 + Z.getD c 0 from rfl)
  have hoa := Lib.hid (fun c (hc : c < 3) => show 0 ≤ Z.getD c 0 ∧ Z.getD c 0 < 32 from ok_a h hc)
  have hob := Lib.hid (fun c (hc : c < 3) => (ok_b h hc).1 rfl)
  have hoo := Lib.hid (fun c (b : Bool) (hb : decide (0 ≤ seV true Z c ∧ seV true Z c < 32) = b) => show oob true Z c = !b from by unfold oob; rw [hb]; rfl)
  have hfs := Lib.hid (fun c => show badP true Z (c + 1) = if oob true Z (2 - c) = true then 2 - c else badP true Z c from rfl)
  have hf0 := Lib.hid (show badP true Z 0 = 3 from rfl)
  have hcz := Lib.hid (fun i (hi : i < 24) (q : Nat) (hq : q = i + 2) => blk_z true f Z hq (by omega))
  clear h
  generalize badP true Z = FP at *
  generalize oob true Z = OB at *
  generalize seV true Z = SE at *
  generalize bS true Z = BS at *
  generalize baV true Z = BA at *
  go_enter Tryd.func30, Tryd.ntmps30
  go_wp2_with (first
    | ((with_reducible refine kn_stores (g := g4) (vs := i64s [0, 0, 0, 255, 0, 0, 0, 255]) E.out rfl rfl rfl rfl ?hy ?hl ?h1 ?_); (case hy => rfl); (case hl => exact ⟨rfl, rfl⟩); (case h1 => exact i64s_one _); clear E; intro u E0; have E := Lib.hid E0; clear E0)
    | ((with_reducible refine kn_load E.out rfl rfl rfl rfl ?_)) | ((with_reducible refine kn_load_if E.out rfl rfl rfl rfl ?_)) | ((with_reducible refine kn_loads E.out rfl rfl rfl ?_ ?_); (focus (first | rfl | (simp only [i64s_length, u8s_length]; first | rfl | assumption | omega)))) | ((with_reducible refine kn_loads_if E.out rfl rfl rfl ?_ ?_); (focus (first | rfl | (simp only [i64s_length, u8s_length]; first | rfl | assumption | omega)))) | ((with_reducible refine kn_stores E.out rfl rfl rfl rfl rfl ?_ ?_ ?_); (focus (first | exact ⟨rfl, rfl⟩ | (simp only [i64s_length, u8s_length]; refine ⟨?_, ?_⟩ <;> first | rfl | assumption | omega))); (focus (first | exact i64s_one _ | exact u8s_one _ | simp [Value.oneCell'])); clear E; intro u E0; have E := Lib.hid E0; clear E0) | ((with_reducible refine kn_alloc (o := ⟨some 1, _, _, _, _, _⟩) E.out rfl rfl ?_); clear E; intro g1 u E0 hb0; have E := Lib.hid E0; clear E0 hb0) | ((with_reducible refine kn_box (o := ⟨some 1, _, _, _, _, _⟩) E.out rfl rfl rfl ?_); clear E; intro g1 u E0 hb0; have E := Lib.hid E0; clear E0 hb0) | ((with_reducible refine kn_box_int (o := ⟨some 1, _, _, _, _, _⟩) E.out rfl rfl rfl ?_); clear E; intro g1 u E0 hb0; have E := Lib.hid E0; clear E0 hb0) | ((with_reducible refine kn_box_slice (o := ⟨some 1, _, _, _, _, _⟩) E.out rfl rfl rfl ?_); clear E; intro g1 u E0 hb0; have E := Lib.hid E0; clear E0 hb0) | ((with_reducible refine kn_box_bool (o := ⟨some 1, _, _, _, _, _⟩) E.out rfl rfl rfl ?_); clear E; intro g1 u E0 hb0; have E := Lib.hid E0; clear E0 hb0) | ((with_reducible refine kn_box_func (o := ⟨some 1, _, _, _, _, _⟩) E.out rfl rfl rfl ?_); clear E; intro g1 u E0 hb0; have E := Lib.hid E0; clear E0 hb0) | ((with_reducible refine kn_alloc (o := ⟨some 2, _, _, _, _, _⟩) E.out rfl rfl ?_); clear E; intro g2 u E0 hb0; have E := Lib.hid E0; clear E0 hb0) | ((with_reducible refine kn_box (o := ⟨some 2, _, _, _, _, _⟩) E.out rfl rfl rfl ?_); clear E; intro g2 u E0 hb0; have E := Lib.hid E0; clear E0 hb0) | ((with_reducible refine kn_box_int (o := ⟨some 2, _, _, _, _, _⟩) E.out rfl rfl rfl ?_); clear E; intro g2 u E0 hb0; have E := Lib.hid E0; clear E0 hb0) | ((with_reducible refine kn_box_slice (o := ⟨some 2, _, _, _, _, _⟩) E.out rfl rfl rfl ?_); clear E; intro g2 u E0 hb0; have E := Lib.hid E0; clear E0 hb0) | ((with_reducible refine kn_box_bool (o := ⟨some 2, _, _, _, _, _⟩) E.out rfl rfl rfl ?_); clear E; intro g2 u E0 hb0; have E := Lib.hid E0; clear E0 hb0) | ((with_reducible refine kn_box_func (o := ⟨some 2, _, _, _, _, _⟩) E.out rfl rfl rfl ?_); clear E; intro g2 u E0 hb0; have E := Lib.hid E0; clear E0 hb0) | ((with_reducible refine kn_alloc (o := ⟨some 4, _, _, _, _, _⟩) E.out rfl rfl ?_); clear E; intro g4 u E0 hb0; have E := Lib.hid E0; clear E0 hb0) | ((with_reducible refine kn_box (o := ⟨some 4, _, _, _, _, _⟩) E.out rfl rfl rfl ?_); clear E; intro g4 u E0 hb0; have E := Lib.hid E0; clear E0 hb0) | ((with_reducible refine kn_box_int (o := ⟨some 4, _, _, _, _, _⟩) E.out rfl rfl rfl ?_); clear E; intro g4 u E0 hb0; have E := Lib.hid E0; clear E0 hb0) | ((with_reducible refine kn_box_slice (o := ⟨some 4, _, _, _, _, _⟩) E.out rfl rfl rfl ?_); clear E; intro g4 u E0 hb0; have E := Lib.hid E0; clear E0 hb0) | ((with_reducible refine kn_box_bool (o := ⟨some 4, _, _, _, _, _⟩) E.out rfl rfl rfl ?_); clear E; intro g4 u E0 hb0; have E := Lib.hid E0; clear E0 hb0) | ((with_reducible refine kn_box_func (o := ⟨some 4, _, _, _, _, _⟩) E.out rfl rfl rfl ?_); clear E; intro g4 u E0 hb0; have E := Lib.hid E0; clear E0 hb0))
  go_loopw [6, 5] (fun ci bb wr => (∃ j : Nat, j < 3 ∧ ci = .int .i64 j ∧ bb = .int .i64 ((FP (2 - j) : Nat) : Int) ∧ Hid (Kn w [.row g4 51 (i64s (BS (sD (2 - j)))), .row g2 51 (i64s [0, 0, 0, 0, 0, 0, 0, 0]), .row g1 65 (blk true f Z)] [] wr)) ∨ (ci = .int .i64 (-1) ∧ bb = .int .i64 ((FP 3 : Nat) : Int) ∧ Hid (Kn w [.row g4 51 (i64s (BS (sD 3))), .row g2 51 (i64s [0, 0, 0, 0, 0, 0, 0, 0]), .row g1 65 (blk true f Z)] [] wr))) (fun ci _ _ => (intOf ci + 1).toNat)
  case atStart => exact .inl ⟨2, by omega, rfl, by rw [hf0.out]; rfl, by rw [← h0.out]; exact E⟩
  case round =>
    clear E
    rcases hrel with ⟨j, hlt, rfl, rfl, E⟩ | ⟨rfl, rfl, E⟩
    · have hl := hbl.out (2 - j)
      have hk3 : (0 : Int) ≤ (j : Int) := by omega
      have hk4 : (j : Int) < 3 := by omega
      have ha := hoa.out j hlt
      have hb := hob.out j hlt
      have hs := Lib.hid (hbs.out j hlt)
      have hsv := hse.out j
      have HCA := Lib.hid (hcz.out j (by omega) (2 + j) (by omega))
      have HCB := Lib.hid (hcz.out (3 + j) (by omega) (5 + j) (by omega))
      obtain ⟨va, hva⟩ : ∃ v, Z.getD j 0 = v := ⟨_, rfl⟩
      obtain ⟨vb, hvb⟩ : ∃ v, Z.getD (3 + j) 0 = v := ⟨_, rfl⟩
      rw [hva] at ha hs HCA
      rw [hvb] at hb HCB
      rw [hva, hvb] at hsv
      have HVA := Lib.hid hva
      have HVB := Lib.hid hvb
      have hWa := Lib.hid (fun u => rwide_any va 5 u)
      have hmo := Lib.hid (fun u => mod10_any (SE j) 32 u (by omega) (by omega))
      have hWs := Lib.hid (fun u => show Calls Tryd.prog 45 #[.int .i64 (SE j % 32), .int .i64 5] u (fun e w' => e = .returned (.int .i64 (wideV (SE j) 5)) ∧ u = w') from by
        have q := rwide_any (SE j % ((2 ^ 5 : Nat) : Int)) 5 u
        rw [show wideV (SE j % ((2 ^ 5 : Nat) : Int)) 5 = wideV (SE j) 5 from wideV_mod (SE j) 5] at q
        exact q)
      replace hs := Lib.hid (hs.out _ _ rfl rfl)
      obtain ⟨sm, hsm⟩ : ∃ v, SE j % 32 = v := ⟨_, rfl⟩
      rw [hsm] at hmo hWs
      clear hbl hbs hbe hse hoa hob hsm hva hvb hba hcz h0 hf0
      generalize wideV va 5 = x1 at *
      generalize wideV (SE j) 5 = x2 at *
      generalize BS (sD (2 - j)) = B0 at *
      have hfk := Lib.hid (hfs.out (2 - j))
      have hok := hoo.out j
      obtain ⟨sv, hsve⟩ : ∃ v, SE j = v := ⟨_, rfl⟩
      rw [hsve] at hsv hmo hok
      clear hfs hoo hsve
      have hsvb : -4 ≤ sv ∧ sv < 36 := by omega
      have hadd : va + vb = sv := by omega
      replace hadd := Lib.hid (show IntKind.i64.wrap (va + vb) = sv from by rw [hadd, IntKind.wrap_i64]; omega)
      clear hsv
      by_cases hin' : 0 ≤ sv ∧ sv ≤ 31
      · have hin := Lib.hid (fun u => show Calls Tryd.prog 37 #[.int .i64 sv, .int .i64 0, .int .i64 31] u (fun e w' => e = .returned (.bool true) ∧ u = w') from by
          have t := In_any sv 0 31 u
          rw [show decide (0 ≤ sv ∧ sv ≤ 31) = true from decide_eq_true hin'] at t
          exact t)
        have ho := hok true (decide_eq_true (by omega))
        have hfn := Lib.hid (show FP (2 - j + 1) = FP (2 - j) from by rw [hfk.out, show 2 - (2 - j) = j by omega, ho]; rw [if_neg (by simp)])
        clear hok ho hfk hin'
        go_wp2_with (first
          | ((with_reducible refine kn_bd (g := g1) E.out rfl rfl rfl ?_))
          | ((with_reducible refine kn_load E.out rfl rfl rfl rfl ?_)) | ((with_reducible refine kn_load_if E.out rfl rfl rfl rfl ?_)) | ((with_reducible refine kn_loads E.out rfl rfl rfl ?_ ?_); (focus (first | rfl | (simp only [i64s_length, u8s_length]; first | rfl | assumption | omega)))) | ((with_reducible refine kn_loads_if E.out rfl rfl rfl ?_ ?_); (focus (first | rfl | (simp only [i64s_length, u8s_length]; first | rfl | assumption | omega)))) | ((with_reducible refine kn_stores E.out rfl rfl rfl rfl rfl ?_ ?_ ?_); (focus (first | exact ⟨rfl, rfl⟩ | (simp only [i64s_length, u8s_length]; refine ⟨?_, ?_⟩ <;> first | rfl | assumption | omega))); (focus (first | exact i64s_one _ | exact u8s_one _ | simp [Value.oneCell'])); clear E; intro u E0; have E := Lib.hid E0; clear E0))
        refine wp_region_held_drew (S := Kn w [.row g1 65 (blk true f Z)] []) (by kernel_rfl) (E.out.drew.part _ _ (by repeat (first | exact List.Sublist.refl _ | apply List.Sublist.cons_cons | apply List.Sublist.cons)) (by simp)) (fun kS => ?_)
        have E1 := Lib.hid E.out.drew
        generalize World.drew _ = u1 at kS E1 ⊢
        clear E
        have E := E1
        clear E1
        (refine takeL (i := 0) (v := _) rfl (by kernel_rfl) (by kernel_rfl) (by kernel_rfl) (fun _ _ _ h => h) (by first | exact Or.inl ⟨by rfl, (by intro u hSu; clear hSu; go_simp; try with_reducible rfl)⟩ | exact Or.inr ⟨by rfl, rfl⟩) kS ?_; (try simp only [Act.put, List.setIfInBounds_toArray, List.set_cons_zero, List.set_cons_succ])); (refine takeL (i := 1) (v := _) rfl (by kernel_rfl) (by kernel_rfl) (by kernel_rfl) (fun _ _ _ h => h) (by first | exact Or.inl ⟨by rfl, (by intro u hSu; clear hSu; go_simp; try with_reducible rfl)⟩ | exact Or.inr ⟨by rfl, rfl⟩) kS ?_; (try simp only [Act.put, List.setIfInBounds_toArray, List.set_cons_zero, List.set_cons_succ])); (refine takeL (i := 2) (v := _) rfl (by kernel_rfl) (by kernel_rfl) (by kernel_rfl) (fun _ _ _ h => h) (by first | exact Or.inl ⟨by rfl, (by intro u hSu; clear hSu; go_simp; try with_reducible rfl)⟩ | exact Or.inr ⟨by rfl, rfl⟩) kS ?_; (try simp only [Act.put, List.setIfInBounds_toArray, List.set_cons_zero, List.set_cons_succ]))
        (refine takeL (i := 3) (v := _) rfl (by kernel_rfl) (by kernel_rfl) (by kernel_rfl) (fun _ _ _ h => h) (yield_load (g := g1) (i := 2 + j) rfl rfl rfl HCA.out) kS ?_; (try simp only [Act.put, List.setIfInBounds_toArray, List.set_cons_zero, List.set_cons_succ]))
        (refine takeL (i := 4) (v := _) rfl (by kernel_rfl) (by kernel_rfl) (by kernel_rfl) (fun _ _ _ h => h) (by first | exact Or.inl ⟨by rfl, (by intro u hSu; clear hSu; go_simp; try with_reducible rfl)⟩ | exact Or.inr ⟨by rfl, rfl⟩) kS ?_; (try simp only [Act.put, List.setIfInBounds_toArray, List.set_cons_zero, List.set_cons_succ])); (refine takeL (i := 5) (v := _) rfl (by kernel_rfl) (by kernel_rfl) (by kernel_rfl) (fun _ _ _ h => h) (by first | exact Or.inl ⟨by rfl, (by intro u hSu; clear hSu; go_simp; try with_reducible rfl)⟩ | exact Or.inr ⟨by rfl, rfl⟩) kS ?_; (try simp only [Act.put, List.setIfInBounds_toArray, List.set_cons_zero, List.set_cons_succ])); (refine takeL (i := 6) (v := _) rfl (by kernel_rfl) (by kernel_rfl) (by kernel_rfl) (fun _ _ _ h => h) (by first | exact Or.inl ⟨by rfl, (by intro u hSu; clear hSu; go_simp; try with_reducible rfl)⟩ | exact Or.inr ⟨by rfl, rfl⟩) kS ?_; (try simp only [Act.put, List.setIfInBounds_toArray, List.set_cons_zero, List.set_cons_succ]))
        (refine takeL (i := 7) (v := _) rfl (by kernel_rfl) (by kernel_rfl) (by kernel_rfl) (fun _ _ _ h => h) (yield_load (g := g1) (i := 5 + j) rfl rfl rfl HCB.out) kS ?_; (try simp only [Act.put, List.setIfInBounds_toArray, List.set_cons_zero, List.set_cons_succ]))
        (refine takeL (i := 8) (v := _) rfl (by kernel_rfl) (by kernel_rfl) (by kernel_rfl) (fun _ _ _ h => h) (by first | exact Or.inl ⟨by rfl, (by intro u hSu; clear hSu; go_simp; try with_reducible rfl)⟩ | exact Or.inr ⟨by rfl, rfl⟩) kS ?_; (try simp only [Act.put, List.setIfInBounds_toArray, List.set_cons_zero, List.set_cons_succ]))
        rw [hadd.out]
        (refine takeL (i := 9) (v := _) rfl (by kernel_rfl) (by kernel_rfl) (by kernel_rfl) (fun _ _ _ h => h) (by first | exact Or.inl ⟨by rfl, (by intro u hSu; clear hSu; go_simp; try with_reducible rfl)⟩ | exact Or.inr ⟨by rfl, rfl⟩) kS ?_; (try simp only [Act.put, List.setIfInBounds_toArray, List.set_cons_zero, List.set_cons_succ]))
        refine wpAnyH_done (by kernel_rfl) ?_ _
        go_wp2_with (first
          | (go_at_call 37; (with_reducible refine (hin.out _).mono ?_); rintro e w1 ⟨rfl, rfl⟩)
          | (go_at_call 64; (with_reducible refine (hmo.out _).mono ?_); rintro e w1 ⟨rfl, rfl⟩)
          | (go_at_call 45; (with_reducible refine (hWa.out _).mono ?_); rintro e w1 ⟨rfl, rfl⟩)
          | (go_at_call 45; (with_reducible refine (hWs.out _).mono ?_); rintro e w1 ⟨rfl, rfl⟩)
          | ((with_reducible refine kn_bd (g := g1) E.out rfl rfl rfl ?_))
          | (((with_reducible refine kn_bz (i := j) (g := g1) E.out rfl rfl rfl ?h1 ?h2 ?_); (case h1 => omega); (case h2 => omega); rw [HVA.out]))
          | (((with_reducible refine kn_bz (i := 3 + j) (g := g1) E.out rfl rfl rfl ?h1 ?h2 ?_); (case h1 => omega); (case h2 => omega); rw [HVB.out]))
          | ((with_reducible refine kn_storei (g := g4) (i := j) E.out rfl rfl rfl rfl rfl ?hi ?_); (case hi => omega); clear E; intro u E0; have E := Lib.hid E0; clear E0)
          | ((with_reducible refine kn_storei (g := g4) (i := 4 + j) E.out rfl rfl rfl rfl rfl ?hi ?_); (case hi => (try simp only [List.length_set]); omega); clear E; intro u E0; have E := Lib.hid E0; clear E0)
          | ((with_reducible refine kn_load E.out rfl rfl rfl rfl ?_)) | ((with_reducible refine kn_load_if E.out rfl rfl rfl rfl ?_)) | ((with_reducible refine kn_loads E.out rfl rfl rfl ?_ ?_); (focus (first | rfl | (simp only [i64s_length, u8s_length]; first | rfl | assumption | omega)))) | ((with_reducible refine kn_loads_if E.out rfl rfl rfl ?_ ?_); (focus (first | rfl | (simp only [i64s_length, u8s_length]; first | rfl | assumption | omega)))) | ((with_reducible refine kn_stores E.out rfl rfl rfl rfl rfl ?_ ?_ ?_); (focus (first | exact ⟨rfl, rfl⟩ | (simp only [i64s_length, u8s_length]; refine ⟨?_, ?_⟩ <;> first | rfl | assumption | omega))); (focus (first | exact i64s_one _ | exact u8s_one _ | simp [Value.oneCell'])); clear E; intro u E0; have E := Lib.hid E0; clear E0))
        go_roundw
        case rel =>
          by_cases hj0 : j = 0
          · refine .inr ⟨by rw [hj0]; rfl, ?_, ?_⟩
            · rw [show 3 = 2 - j + 1 by omega, hfn.out]
            · rw [show sD 3 = sD (2 - j + 1) from by rw [hj0], ← hs.out]; exact E
          · refine .inl ⟨j - 1, by omega, ?_, ?_, ?_⟩
            · exact congrArg (Value.int .i64) (by omega)
            · rw [show 2 - (j - 1) = 2 - j + 1 by omega, hfn.out]
            · rw [show 2 - (j - 1) = 2 - j + 1 by omega, ← hs.out]; exact E
        case measure => simp [intOf]; try omega
      · have hin := Lib.hid (fun u => show Calls Tryd.prog 37 #[.int .i64 sv, .int .i64 0, .int .i64 31] u (fun e w' => e = .returned (.bool false) ∧ u = w') from by
          have t := In_any sv 0 31 u
          rw [show decide (0 ≤ sv ∧ sv ≤ 31) = false from decide_eq_false hin'] at t
          exact t)
        have ho := hok false (decide_eq_false (by omega))
        have hfn := Lib.hid (show FP (2 - j + 1) = j from by rw [hfk.out, show 2 - (2 - j) = j by omega, ho]; rfl)
        clear hok ho hfk hin'
        go_wp2_with (first
          | ((with_reducible refine kn_bd (g := g1) E.out rfl rfl rfl ?_))
          | ((with_reducible refine kn_load E.out rfl rfl rfl rfl ?_)) | ((with_reducible refine kn_load_if E.out rfl rfl rfl rfl ?_)) | ((with_reducible refine kn_loads E.out rfl rfl rfl ?_ ?_); (focus (first | rfl | (simp only [i64s_length, u8s_length]; first | rfl | assumption | omega)))) | ((with_reducible refine kn_loads_if E.out rfl rfl rfl ?_ ?_); (focus (first | rfl | (simp only [i64s_length, u8s_length]; first | rfl | assumption | omega)))) | ((with_reducible refine kn_stores E.out rfl rfl rfl rfl rfl ?_ ?_ ?_); (focus (first | exact ⟨rfl, rfl⟩ | (simp only [i64s_length, u8s_length]; refine ⟨?_, ?_⟩ <;> first | rfl | assumption | omega))); (focus (first | exact i64s_one _ | exact u8s_one _ | simp [Value.oneCell'])); clear E; intro u E0; have E := Lib.hid E0; clear E0))
        refine wp_region_held_drew (S := Kn w [.row g1 65 (blk true f Z)] []) (by kernel_rfl) (E.out.drew.part _ _ (by repeat (first | exact List.Sublist.refl _ | apply List.Sublist.cons_cons | apply List.Sublist.cons)) (by simp)) (fun kS => ?_)
        have E1 := Lib.hid E.out.drew
        generalize World.drew _ = u1 at kS E1 ⊢
        clear E
        have E := E1
        clear E1
        (refine takeL (i := 0) (v := _) rfl (by kernel_rfl) (by kernel_rfl) (by kernel_rfl) (fun _ _ _ h => h) (by first | exact Or.inl ⟨by rfl, (by intro u hSu; clear hSu; go_simp; try with_reducible rfl)⟩ | exact Or.inr ⟨by rfl, rfl⟩) kS ?_; (try simp only [Act.put, List.setIfInBounds_toArray, List.set_cons_zero, List.set_cons_succ])); (refine takeL (i := 1) (v := _) rfl (by kernel_rfl) (by kernel_rfl) (by kernel_rfl) (fun _ _ _ h => h) (by first | exact Or.inl ⟨by rfl, (by intro u hSu; clear hSu; go_simp; try with_reducible rfl)⟩ | exact Or.inr ⟨by rfl, rfl⟩) kS ?_; (try simp only [Act.put, List.setIfInBounds_toArray, List.set_cons_zero, List.set_cons_succ])); (refine takeL (i := 2) (v := _) rfl (by kernel_rfl) (by kernel_rfl) (by kernel_rfl) (fun _ _ _ h => h) (by first | exact Or.inl ⟨by rfl, (by intro u hSu; clear hSu; go_simp; try with_reducible rfl)⟩ | exact Or.inr ⟨by rfl, rfl⟩) kS ?_; (try simp only [Act.put, List.setIfInBounds_toArray, List.set_cons_zero, List.set_cons_succ]))
        (refine takeL (i := 3) (v := _) rfl (by kernel_rfl) (by kernel_rfl) (by kernel_rfl) (fun _ _ _ h => h) (yield_load (g := g1) (i := 2 + j) rfl rfl rfl HCA.out) kS ?_; (try simp only [Act.put, List.setIfInBounds_toArray, List.set_cons_zero, List.set_cons_succ]))
        (refine takeL (i := 4) (v := _) rfl (by kernel_rfl) (by kernel_rfl) (by kernel_rfl) (fun _ _ _ h => h) (by first | exact Or.inl ⟨by rfl, (by intro u hSu; clear hSu; go_simp; try with_reducible rfl)⟩ | exact Or.inr ⟨by rfl, rfl⟩) kS ?_; (try simp only [Act.put, List.setIfInBounds_toArray, List.set_cons_zero, List.set_cons_succ])); (refine takeL (i := 5) (v := _) rfl (by kernel_rfl) (by kernel_rfl) (by kernel_rfl) (fun _ _ _ h => h) (by first | exact Or.inl ⟨by rfl, (by intro u hSu; clear hSu; go_simp; try with_reducible rfl)⟩ | exact Or.inr ⟨by rfl, rfl⟩) kS ?_; (try simp only [Act.put, List.setIfInBounds_toArray, List.set_cons_zero, List.set_cons_succ])); (refine takeL (i := 6) (v := _) rfl (by kernel_rfl) (by kernel_rfl) (by kernel_rfl) (fun _ _ _ h => h) (by first | exact Or.inl ⟨by rfl, (by intro u hSu; clear hSu; go_simp; try with_reducible rfl)⟩ | exact Or.inr ⟨by rfl, rfl⟩) kS ?_; (try simp only [Act.put, List.setIfInBounds_toArray, List.set_cons_zero, List.set_cons_succ]))
        (refine takeL (i := 7) (v := _) rfl (by kernel_rfl) (by kernel_rfl) (by kernel_rfl) (fun _ _ _ h => h) (yield_load (g := g1) (i := 5 + j) rfl rfl rfl HCB.out) kS ?_; (try simp only [Act.put, List.setIfInBounds_toArray, List.set_cons_zero, List.set_cons_succ]))
        (refine takeL (i := 8) (v := _) rfl (by kernel_rfl) (by kernel_rfl) (by kernel_rfl) (fun _ _ _ h => h) (by first | exact Or.inl ⟨by rfl, (by intro u hSu; clear hSu; go_simp; try with_reducible rfl)⟩ | exact Or.inr ⟨by rfl, rfl⟩) kS ?_; (try simp only [Act.put, List.setIfInBounds_toArray, List.set_cons_zero, List.set_cons_succ]))
        rw [hadd.out]
        (refine takeL (i := 9) (v := _) rfl (by kernel_rfl) (by kernel_rfl) (by kernel_rfl) (fun _ _ _ h => h) (by first | exact Or.inl ⟨by rfl, (by intro u hSu; clear hSu; go_simp; try with_reducible rfl)⟩ | exact Or.inr ⟨by rfl, rfl⟩) kS ?_; (try simp only [Act.put, List.setIfInBounds_toArray, List.set_cons_zero, List.set_cons_succ]))
        refine wpAnyH_done (by kernel_rfl) ?_ _
        go_wp2_with (first
          | (go_at_call 37; (with_reducible refine (hin.out _).mono ?_); rintro e w1 ⟨rfl, rfl⟩)
          | (go_at_call 64; (with_reducible refine (hmo.out _).mono ?_); rintro e w1 ⟨rfl, rfl⟩)
          | (go_at_call 45; (with_reducible refine (hWa.out _).mono ?_); rintro e w1 ⟨rfl, rfl⟩)
          | (go_at_call 45; (with_reducible refine (hWs.out _).mono ?_); rintro e w1 ⟨rfl, rfl⟩)
          | ((with_reducible refine kn_bd (g := g1) E.out rfl rfl rfl ?_))
          | (((with_reducible refine kn_bz (i := j) (g := g1) E.out rfl rfl rfl ?h1 ?h2 ?_); (case h1 => omega); (case h2 => omega); rw [HVA.out]))
          | (((with_reducible refine kn_bz (i := 3 + j) (g := g1) E.out rfl rfl rfl ?h1 ?h2 ?_); (case h1 => omega); (case h2 => omega); rw [HVB.out]))
          | ((with_reducible refine kn_storei (g := g4) (i := j) E.out rfl rfl rfl rfl rfl ?hi ?_); (case hi => omega); clear E; intro u E0; have E := Lib.hid E0; clear E0)
          | ((with_reducible refine kn_storei (g := g4) (i := 4 + j) E.out rfl rfl rfl rfl rfl ?hi ?_); (case hi => (try simp only [List.length_set]); omega); clear E; intro u E0; have E := Lib.hid E0; clear E0)
          | ((with_reducible refine kn_load E.out rfl rfl rfl rfl ?_)) | ((with_reducible refine kn_load_if E.out rfl rfl rfl rfl ?_)) | ((with_reducible refine kn_loads E.out rfl rfl rfl ?_ ?_); (focus (first | rfl | (simp only [i64s_length, u8s_length]; first | rfl | assumption | omega)))) | ((with_reducible refine kn_loads_if E.out rfl rfl rfl ?_ ?_); (focus (first | rfl | (simp only [i64s_length, u8s_length]; first | rfl | assumption | omega)))) | ((with_reducible refine kn_stores E.out rfl rfl rfl rfl rfl ?_ ?_ ?_); (focus (first | exact ⟨rfl, rfl⟩ | (simp only [i64s_length, u8s_length]; refine ⟨?_, ?_⟩ <;> first | rfl | assumption | omega))); (focus (first | exact i64s_one _ | exact u8s_one _ | simp [Value.oneCell'])); clear E; intro u E0; have E := Lib.hid E0; clear E0))
        go_roundw
        case rel =>
          by_cases hj0 : j = 0
          · refine .inr ⟨by rw [hj0]; rfl, ?_, ?_⟩
            · rw [show 3 = 2 - j + 1 by omega, hfn.out]
            · rw [show sD 3 = sD (2 - j + 1) from by rw [hj0], ← hs.out]; exact E
          · refine .inl ⟨j - 1, by omega, ?_, ?_, ?_⟩
            · exact congrArg (Value.int .i64) (by omega)
            · rw [show 2 - (j - 1) = 2 - j + 1 by omega, hfn.out]
            · rw [show 2 - (j - 1) = 2 - j + 1 by omega, ← hs.out]; exact E
        case measure => simp [intOf]; try omega
    · rw [hbe.out] at E
      have hbl' := hba.out
      clear hbl hbs hbe hse hoa hob hba hcz h0 hoo hfs hf0
      go_wp2_with (first
        | ((with_reducible refine kn_loads (g := g4) E.out rfl rfl rfl ?hl ?_); (case hl => rw [i64s_length]; exact hbl'))
        | ((with_reducible refine kn_stores (g := g2) (vs := i64s BA) E.out rfl rfl rfl rfl rfl ?hl ?h1 ?_); (case hl => exact ⟨rfl, by rw [i64s_length]; exact hbl'⟩); (case h1 => exact i64s_one _); clear E; intro u E0; have E := Lib.hid E0; clear E0)
        | ((with_reducible refine kn_load E.out rfl rfl rfl rfl ?_)) | ((with_reducible refine kn_load_if E.out rfl rfl rfl rfl ?_)) | ((with_reducible refine kn_loads E.out rfl rfl rfl ?_ ?_); (focus (first | rfl | (simp only [i64s_length, u8s_length]; first | rfl | assumption | omega)))) | ((with_reducible refine kn_loads_if E.out rfl rfl rfl ?_ ?_); (focus (first | rfl | (simp only [i64s_length, u8s_length]; first | rfl | assumption | omega)))) | ((with_reducible refine kn_stores E.out rfl rfl rfl rfl rfl ?_ ?_ ?_); (focus (first | exact ⟨rfl, rfl⟩ | (simp only [i64s_length, u8s_length]; refine ⟨?_, ?_⟩ <;> first | rfl | assumption | omega))); (focus (first | exact i64s_one _ | exact u8s_one _ | simp [Value.oneCell'])); clear E; intro u E0; have E := Lib.hid E0; clear E0))
      refine bodyPost_ret (results_kn2 E.out rfl _ rfl (by rw [i64s_length]; exact hbl')) rfl ?_
      exact ⟨rfl, E.out.bel⟩

set_option maxHeartbeats 8000000 in
set_option maxRecDepth 100000 in
theorem rbases_false (f : Bool) (Z : List Int) (w : World) (hZ : Z.length = 24) (h : okP false Z) :
    Calls Tryd.prog 30 #[.agg (blk false f Z).toArray] w fun e w' => e = .returned (.tuple #[arr (baV false Z), .int .i64 ((farP false Z 3 : Nat) : Int)]) ∧ Below w.heap.size w w' := by
  have E := Lib.hid (Kn.start w)
  rw [← far_bad]
  have h0 := Lib.hid (show [0, 0, 0, 255, 0, 0, 0, 255] = bS false Z (sD 0) from (bS_none false Z _ fun j hj => by simp [sD]; omega).symm)
  have hbl := Lib.hid (fun k => bS_length false Z (sD k))
  have hbs := Lib.hid (fun c (hc : c < 3) (a b : Int) (ha : a = wideV (Z.getD c 0) 4) (hb : b = wideV (seV false Z c) 4) => show ((bS false Z (sD (2 - c))).set c a).set (4 + c) b = bS false Z (sD (2 - c + 1)) from
    bS_set false Z hc a b ha hb fun j hj => by simp only [sD]; rw [Bool.eq_iff_iff]; simp only [Bool.or_eq_true, decide_eq_true_eq]; omega)
  have hbe := Lib.hid (show bS false Z (sD 3) = baV false Z from bS_full false Z _ fun j hj => by simp [sD])
  have hba := Lib.hid (baV_length false Z)
  have hse := Lib.hid (fun c => show seV false Z c = Z.getD (3 + c) 0 from rfl)
  have hoa := Lib.hid (fun c (hc : c < 3) => show 0 ≤ Z.getD c 0 ∧ Z.getD c 0 < 16 from ok_a h hc)
  have hob := Lib.hid (fun c (hc : c < 3) => (ok_b h hc).2 rfl)
  rw [badP_no Z 3]
  
  
  have hcz := Lib.hid (fun i (hi : i < 24) (q : Nat) (hq : q = i + 2) => blk_z false f Z hq (by omega))
  clear h
  
  
  generalize seV false Z = SE at *
  generalize bS false Z = BS at *
  generalize baV false Z = BA at *
  go_enter Tryd.func30, Tryd.ntmps30
  go_wp2_with (first
    | ((with_reducible refine kn_stores (g := g4) (vs := i64s [0, 0, 0, 255, 0, 0, 0, 255]) E.out rfl rfl rfl rfl ?hy ?hl ?h1 ?_); (case hy => rfl); (case hl => exact ⟨rfl, rfl⟩); (case h1 => exact i64s_one _); clear E; intro u E0; have E := Lib.hid E0; clear E0)
    | ((with_reducible refine kn_load E.out rfl rfl rfl rfl ?_)) | ((with_reducible refine kn_load_if E.out rfl rfl rfl rfl ?_)) | ((with_reducible refine kn_loads E.out rfl rfl rfl ?_ ?_); (focus (first | rfl | (simp only [i64s_length, u8s_length]; first | rfl | assumption | omega)))) | ((with_reducible refine kn_loads_if E.out rfl rfl rfl ?_ ?_); (focus (first | rfl | (simp only [i64s_length, u8s_length]; first | rfl | assumption | omega)))) | ((with_reducible refine kn_stores E.out rfl rfl rfl rfl rfl ?_ ?_ ?_); (focus (first | exact ⟨rfl, rfl⟩ | (simp only [i64s_length, u8s_length]; refine ⟨?_, ?_⟩ <;> first | rfl | assumption | omega))); (focus (first | exact i64s_one _ | exact u8s_one _ | simp [Value.oneCell'])); clear E; intro u E0; have E := Lib.hid E0; clear E0) | ((with_reducible refine kn_alloc (o := ⟨some 1, _, _, _, _, _⟩) E.out rfl rfl ?_); clear E; intro g1 u E0 hb0; have E := Lib.hid E0; clear E0 hb0) | ((with_reducible refine kn_box (o := ⟨some 1, _, _, _, _, _⟩) E.out rfl rfl rfl ?_); clear E; intro g1 u E0 hb0; have E := Lib.hid E0; clear E0 hb0) | ((with_reducible refine kn_box_int (o := ⟨some 1, _, _, _, _, _⟩) E.out rfl rfl rfl ?_); clear E; intro g1 u E0 hb0; have E := Lib.hid E0; clear E0 hb0) | ((with_reducible refine kn_box_slice (o := ⟨some 1, _, _, _, _, _⟩) E.out rfl rfl rfl ?_); clear E; intro g1 u E0 hb0; have E := Lib.hid E0; clear E0 hb0) | ((with_reducible refine kn_box_bool (o := ⟨some 1, _, _, _, _, _⟩) E.out rfl rfl rfl ?_); clear E; intro g1 u E0 hb0; have E := Lib.hid E0; clear E0 hb0) | ((with_reducible refine kn_box_func (o := ⟨some 1, _, _, _, _, _⟩) E.out rfl rfl rfl ?_); clear E; intro g1 u E0 hb0; have E := Lib.hid E0; clear E0 hb0) | ((with_reducible refine kn_alloc (o := ⟨some 2, _, _, _, _, _⟩) E.out rfl rfl ?_); clear E; intro g2 u E0 hb0; have E := Lib.hid E0; clear E0 hb0) | ((with_reducible refine kn_box (o := ⟨some 2, _, _, _, _, _⟩) E.out rfl rfl rfl ?_); clear E; intro g2 u E0 hb0; have E := Lib.hid E0; clear E0 hb0) | ((with_reducible refine kn_box_int (o := ⟨some 2, _, _, _, _, _⟩) E.out rfl rfl rfl ?_); clear E; intro g2 u E0 hb0; have E := Lib.hid E0; clear E0 hb0) | ((with_reducible refine kn_box_slice (o := ⟨some 2, _, _, _, _, _⟩) E.out rfl rfl rfl ?_); clear E; intro g2 u E0 hb0; have E := Lib.hid E0; clear E0 hb0) | ((with_reducible refine kn_box_bool (o := ⟨some 2, _, _, _, _, _⟩) E.out rfl rfl rfl ?_); clear E; intro g2 u E0 hb0; have E := Lib.hid E0; clear E0 hb0) | ((with_reducible refine kn_box_func (o := ⟨some 2, _, _, _, _, _⟩) E.out rfl rfl rfl ?_); clear E; intro g2 u E0 hb0; have E := Lib.hid E0; clear E0 hb0) | ((with_reducible refine kn_alloc (o := ⟨some 4, _, _, _, _, _⟩) E.out rfl rfl ?_); clear E; intro g4 u E0 hb0; have E := Lib.hid E0; clear E0 hb0) | ((with_reducible refine kn_box (o := ⟨some 4, _, _, _, _, _⟩) E.out rfl rfl rfl ?_); clear E; intro g4 u E0 hb0; have E := Lib.hid E0; clear E0 hb0) | ((with_reducible refine kn_box_int (o := ⟨some 4, _, _, _, _, _⟩) E.out rfl rfl rfl ?_); clear E; intro g4 u E0 hb0; have E := Lib.hid E0; clear E0 hb0) | ((with_reducible refine kn_box_slice (o := ⟨some 4, _, _, _, _, _⟩) E.out rfl rfl rfl ?_); clear E; intro g4 u E0 hb0; have E := Lib.hid E0; clear E0 hb0) | ((with_reducible refine kn_box_bool (o := ⟨some 4, _, _, _, _, _⟩) E.out rfl rfl rfl ?_); clear E; intro g4 u E0 hb0; have E := Lib.hid E0; clear E0 hb0) | ((with_reducible refine kn_box_func (o := ⟨some 4, _, _, _, _, _⟩) E.out rfl rfl rfl ?_); clear E; intro g4 u E0 hb0; have E := Lib.hid E0; clear E0 hb0))
  go_loopw [6, 5] (fun ci bb wr => (∃ j : Nat, j < 3 ∧ ci = .int .i64 j ∧ bb = .int .i64 3 ∧ Hid (Kn w [.row g4 51 (i64s (BS (sD (2 - j)))), .row g2 51 (i64s [0, 0, 0, 0, 0, 0, 0, 0]), .row g1 65 (blk false f Z)] [] wr)) ∨ (ci = .int .i64 (-1) ∧ bb = .int .i64 3 ∧ Hid (Kn w [.row g4 51 (i64s (BS (sD 3))), .row g2 51 (i64s [0, 0, 0, 0, 0, 0, 0, 0]), .row g1 65 (blk false f Z)] [] wr))) (fun ci _ _ => (intOf ci + 1).toNat)
  case atStart => exact .inl ⟨2, by omega, rfl, rfl, by rw [← h0.out]; exact E⟩
  case round =>
    clear E
    rcases hrel with ⟨j, hlt, rfl, rfl, E⟩ | ⟨rfl, rfl, E⟩
    · have hl := hbl.out (2 - j)
      have hk3 : (0 : Int) ≤ (j : Int) := by omega
      have hk4 : (j : Int) < 3 := by omega
      have ha := hoa.out j hlt
      have hb := hob.out j hlt
      have hs := Lib.hid (hbs.out j hlt)
      have hsv := hse.out j
      have HCA := Lib.hid (hcz.out j (by omega) (2 + j) (by omega))
      have HCB := Lib.hid (hcz.out (3 + j) (by omega) (5 + j) (by omega))
      obtain ⟨va, hva⟩ : ∃ v, Z.getD j 0 = v := ⟨_, rfl⟩
      obtain ⟨vb, hvb⟩ : ∃ v, Z.getD (3 + j) 0 = v := ⟨_, rfl⟩
      rw [hva] at ha hs HCA
      rw [hvb] at hb HCB
      rw [hvb] at hsv
      have HVA := Lib.hid hva
      have HVB := Lib.hid hvb
      have hWa := Lib.hid (fun u => rwide_any va 4 u)
      
      have hWs := Lib.hid (fun u => show Calls Tryd.prog 45 #[.int .i64 (SE j), .int .i64 4] u (fun e w' => e = .returned (.int .i64 (wideV (SE j) 4)) ∧ u = w') from by
        have q := rwide_any (SE j) 4 u
        
        exact q)
      replace hs := Lib.hid (hs.out _ _ rfl rfl)
      
      
      clear hbl hbs hbe hse hoa hob  hva hvb hba hcz h0 
      generalize wideV va 4 = x1 at *
      generalize wideV (SE j) 4 = x2 at *
      generalize BS (sD (2 - j)) = B0 at *
      rw [hsv] at hWs
      go_wp2_with (first
        | (go_at_call 45; (with_reducible refine (hWa.out _).mono ?_); rintro e w1 ⟨rfl, rfl⟩)
        | (go_at_call 45; (with_reducible refine (hWs.out _).mono ?_); rintro e w1 ⟨rfl, rfl⟩)
        | ((with_reducible refine kn_bd (g := g1) E.out rfl rfl rfl ?_))
        | (((with_reducible refine kn_bz (i := j) (g := g1) E.out rfl rfl rfl ?h1 ?h2 ?_); (case h1 => omega); (case h2 => omega); rw [HVA.out]))
        | (((with_reducible refine kn_bz (i := 3 + j) (g := g1) E.out rfl rfl rfl ?h1 ?h2 ?_); (case h1 => omega); (case h2 => omega); rw [HVB.out]))
        | ((with_reducible refine kn_storei (g := g4) (i := j) E.out rfl rfl rfl rfl rfl ?hi ?_); (case hi => omega); clear E; intro u E0; have E := Lib.hid E0; clear E0)
        | ((with_reducible refine kn_storei (g := g4) (i := 4 + j) E.out rfl rfl rfl rfl rfl ?hi ?_); (case hi => (try simp only [List.length_set]); omega); clear E; intro u E0; have E := Lib.hid E0; clear E0)
        | ((with_reducible refine kn_load E.out rfl rfl rfl rfl ?_)) | ((with_reducible refine kn_load_if E.out rfl rfl rfl rfl ?_)) | ((with_reducible refine kn_loads E.out rfl rfl rfl ?_ ?_); (focus (first | rfl | (simp only [i64s_length, u8s_length]; first | rfl | assumption | omega)))) | ((with_reducible refine kn_loads_if E.out rfl rfl rfl ?_ ?_); (focus (first | rfl | (simp only [i64s_length, u8s_length]; first | rfl | assumption | omega)))) | ((with_reducible refine kn_stores E.out rfl rfl rfl rfl rfl ?_ ?_ ?_); (focus (first | exact ⟨rfl, rfl⟩ | (simp only [i64s_length, u8s_length]; refine ⟨?_, ?_⟩ <;> first | rfl | assumption | omega))); (focus (first | exact i64s_one _ | exact u8s_one _ | simp [Value.oneCell'])); clear E; intro u E0; have E := Lib.hid E0; clear E0))
      go_roundw
      case rel =>
        by_cases hj0 : j = 0
        · refine .inr ⟨by rw [hj0]; rfl, ?_, ?_⟩
          · rfl
          · rw [show sD 3 = sD (2 - j + 1) from by rw [hj0], ← hs.out]; exact E
        · refine .inl ⟨j - 1, by omega, ?_, ?_, ?_⟩
          · exact congrArg (Value.int .i64) (by omega)
          · rfl
          · rw [show 2 - (j - 1) = 2 - j + 1 by omega, ← hs.out]; exact E
      case measure => simp [intOf]; try omega
    · rw [hbe.out] at E
      have hbl' := hba.out
      clear hbl hbs hbe hse hoa hob hba hcz h0 
      go_wp2_with (first
        | ((with_reducible refine kn_loads (g := g4) E.out rfl rfl rfl ?hl ?_); (case hl => rw [i64s_length]; exact hbl'))
        | ((with_reducible refine kn_stores (g := g2) (vs := i64s BA) E.out rfl rfl rfl rfl rfl ?hl ?h1 ?_); (case hl => exact ⟨rfl, by rw [i64s_length]; exact hbl'⟩); (case h1 => exact i64s_one _); clear E; intro u E0; have E := Lib.hid E0; clear E0)
        | ((with_reducible refine kn_load E.out rfl rfl rfl rfl ?_)) | ((with_reducible refine kn_load_if E.out rfl rfl rfl rfl ?_)) | ((with_reducible refine kn_loads E.out rfl rfl rfl ?_ ?_); (focus (first | rfl | (simp only [i64s_length, u8s_length]; first | rfl | assumption | omega)))) | ((with_reducible refine kn_loads_if E.out rfl rfl rfl ?_ ?_); (focus (first | rfl | (simp only [i64s_length, u8s_length]; first | rfl | assumption | omega)))) | ((with_reducible refine kn_stores E.out rfl rfl rfl rfl rfl ?_ ?_ ?_); (focus (first | exact ⟨rfl, rfl⟩ | (simp only [i64s_length, u8s_length]; refine ⟨?_, ?_⟩ <;> first | rfl | assumption | omega))); (focus (first | exact i64s_one _ | exact u8s_one _ | simp [Value.oneCell'])); clear E; intro u E0; have E := Lib.hid E0; clear E0))
      refine bodyPost_ret (results_kn2 E.out rfl _ rfl (by rw [i64s_length]; exact hbl')) rfl ?_
      exact ⟨rfl, E.out.bel⟩
theorem rbases_any (d f : Bool) (Z : List Int) (w : World) (hZ : Z.length = 24) (h : okP d Z) :
    Calls Tryd.prog 30 #[.agg (blk d f Z).toArray] w fun e w' => e = .returned (.tuple #[arr (baV d Z), .int .i64 ((farP d Z 3 : Nat) : Int)]) ∧ Below w.heap.size w w' := by
  cases d
  · exact rbases_false f Z w hZ h
  · exact rbases_true f Z w hZ h
end Go.Proofs.YtgcijioiicmjiaaDoor
