/- The half of an image, by the reference. -/
import Derived.Test.YtbpdaijmclcbdaaMpHalf
import Derived.Test.YtbpdaijmclcbdaaImRef
import Derived.Deep.DeepCutAuto
namespace Go.Proofs.Ytbpdaijmclcbdaa
open Go.RowKit
open Im Mp

namespace Mp
/-- The half's bytes up to texel t, and c channels of it. -/
def hfC (W H : Int) (xs : List Nat) (a t c : Nat) : List Nat := hfK W H xs a t ++ (hfT W H xs ((t % a : Nat) : Int) ((t / a : Nat) : Int)).take c
theorem hfC_zero (W H : Int) (xs : List Nat) (a t : Nat) : hfC W H xs a t 0 = hfK W H xs a t := by simp [hfC]
theorem hfC_four (W H : Int) (xs : List Nat) (a t : Nat) : hfC W H xs a t 4 = hfK W H xs a (t + 1) := by simp [hfC, hfK, hfT]
theorem hfT_take (W H : Int) (xs : List Nat) (x y : Int) (c : Nat) (h : c < 4) : (hfT W H xs x y).take (c + 1) = (hfT W H xs x y).take c ++ [hfB W H xs x y c] := by
  have : c = 0 ∨ c = 1 ∨ c = 2 ∨ c = 3 := by omega
  rcases this with rfl | rfl | rfl | rfl <;> simp [hfT]
theorem hfC_step (W H : Int) (xs : List Nat) (a k q c : Nat) (hq : q < a) (hc : c < 4) : hfC W H xs a (k * a + q) (c + 1) = hfC W H xs a (k * a + q) c ++ [hfB W H xs ((q : Nat) : Int) ((k : Nat) : Int) c] := by
  unfold hfC
  rw [(mod_step hq).1, (mod_step hq).2, hfT_take _ _ _ _ _ _ hc, List.append_assoc]
theorem four_at {W H : Int} (hs : szP W H) {x y : Int} (hi : insP x y (hv W) (hv H)) (j : Nat) (hj : j < 4) :
    (fourP W H x y).getD j 0 = plc W (mn (2 * x + (j : Int) % 2) (W - 1)) (mn (2 * y + (j : Int) / 2) (H - 1)) := by
  obtain ⟨⟨_, hx, _, hy⟩, _⟩ := four_in hs hi
  have e1 : mn (2 * x) (W - 1) = 2 * x := by unfold mn; split <;> omega
  have e2 : mn (2 * y) (H - 1) = 2 * y := by unfold mn; split <;> omega
  have : j = 0 ∨ j = 1 ∨ j = 2 ∨ j = 3 := by omega
  rcases this with rfl | rfl | rfl | rfl <;> simp [fourP, e1, e2]
end Mp

set_option maxHeartbeats 4000000 in
set_option maxRecDepth 100000 in
theorem rhalf_ok (W H : Int) (A : Option Addr) (n c : Nat) (xs : List Nat) (w : World) (hr : rightP W H n) (hB : Bs w w.heap.size A n xs) :
    Calls Try.prog 24 #[img W H A n c] w fun e w' => ∃ v', e = .returned (.tuple #[v', .int .i64 0]) ∧ ImgN w.heap.size w' v' (hv W) (hv H) (hf W H xs) ∧ Below w.heap.size w w' := by
  have hn : n ≤ 67108864 := by have h1 := mul_sz hr.1; have h2 := hr.2; have h3 : 4 * W * H = 4 * (W * H) := by rw [Int.mul_assoc]
                               omega
  have hs := hr.1
  unfold szP at hs
  obtain ⟨s1, s2, s3, s4⟩ := hs
  have E := Lib.hid ((Kn.start w).arg_img (show Img w (img W H A n c) W H xs from ⟨_, n, c, rfl, hn, hB⟩))
  have hR := Lib.hid (fun u => rright_any W H A n c u (by omega))
  rw [decide_eq_true hr] at hR
  have hS1 := Lib.hid (fun u => rside_any W 1 u (by omega) (by omega))
  have hS2 := Lib.hid (fun u => rside_any H 1 u (by omega) (by omega))
  rw [sd_one s1] at hS1
  rw [sd_one s3] at hS2
  have HA := Lib.hid (fun (X Y : Int) (u : World) (hu : Img u (img W H A n c) W H xs) => rat_any (img W H A n c) W H xs X Y u hu)
  have HV := Lib.hid (fun (X Y : Int) (hi : insP X Y W H) => show atV W H xs X Y = tex xs (plc W X Y) from if_pos ⟨by rw [hB.1]; exact hr, hi⟩)
  obtain ⟨a, ha⟩ : ∃ a : Nat, hv W = (a : Int) := ⟨(hv W).toNat, by have := hv_pos W; omega⟩
  obtain ⟨d, hd⟩ : ∃ d : Nat, hv H = (d : Int) := ⟨(hv H).toNat, by have := hv_pos H; omega⟩
  have ha1 : 1 ≤ a := by have := hv_pos W; omega
  have hd1 : 1 ≤ d := by have := hv_pos H; omega
  have ha2 : a ≤ 4096 := by have := hv_le s1; omega
  have hd2 : d ≤ 4096 := by have := hv_le s3; omega
  have hmx : a * d ≤ 16777216 := Nat.mul_le_mul ha2 hd2
  have HIN := Lib.hid (fun (k q : Nat) (hk : k < d) (hq : q < a) => show insP ((q : Nat) : Int) ((k : Nat) : Int) (hv W) (hv H) from by rw [ha, hd]; exact ⟨by omega, by omega, by omega, by omega⟩)
  have HF := Lib.hid (fun (k q : Nat) (hk : k < d) (hq : q < a) (j : Nat) (hj : j < 4) => four_at hr.1 (HIN.out k q hk hq) j hj)
  have HM := Lib.hid (fun (X Y : Int) (hX : 0 ≤ X) (hY : 0 ≤ Y) => mn_ins hr hX hY)
  have HSm := Lib.hid (fun (k q c : Nat) => sm_four W H xs ((q : Nat) : Int) ((k : Nat) : Int) c)
  have HL := Lib.hid (fun (ps : List Nat) c j => sm_le hB.2.1 ps c j)
  have HB4 := Lib.hid (fun (k q c : Nat) => hfB_lt hB.2.1 W H ((q : Nat) : Int) ((k : Nat) : Int) c)
  have HC0 := Lib.hid (hfC_zero W H xs a)
  have HC4 := Lib.hid (hfC_four W H xs a)
  have HCS := Lib.hid (fun k q c hq hc => hfC_step W H xs a k q c hq hc)
  have HK0 := Lib.hid (show hfK W H xs a 0 = [] from rfl)
  have HKL := Lib.hid (hfK_lt hB.2.1 W H a (a * d))
  have hfe : hf W H xs = hfK W H xs a (a * d) := by unfold hf; rw [ha, hd]; rfl
  rw [hfe, ha, hd]
  rw [ha] at hS1
  rw [hd] at hS2
  have HGB := Lib.hid (fun i => getD_byte hB.2.1 i)
  clear hfe hr hB ha hd HIN
  generalize hfK W H xs a = hk at *
  generalize hfC W H xs a = hc at *
  go_enter Try.func24, Try.ntmps24
  go_upto_region 3 with (first
    | (go_at_call 51; refine (hR.out _).mono ?_; rintro e w1 ⟨rfl, hb⟩; have E1 := Lib.hid (E.out.later hb); clear hb E; have E := E1; clear E1)
    | ((with_reducible refine kn_load E.out rfl rfl rfl rfl ?_)) | ((with_reducible refine kn_load_if E.out rfl rfl rfl rfl ?_)) | ((with_reducible refine kn_loads E.out rfl rfl rfl ?_ ?_); (focus (first | rfl | (simp only [i64s_length, u8s_length]; first | rfl | assumption | omega)))) | ((with_reducible refine kn_loads_if E.out rfl rfl rfl ?_ ?_); (focus (first | rfl | (simp only [i64s_length, u8s_length]; first | rfl | assumption | omega)))) | ((with_reducible refine kn_store1_int E.out rfl rfl rfl rfl rfl ?_); clear E; intro u E0; have E := Lib.hid E0; clear E0) | ((with_reducible refine kn_store1_slice E.out rfl rfl rfl rfl rfl ?_); clear E; intro u E0; have E := Lib.hid E0; clear E0) | ((with_reducible refine kn_store1_bool E.out rfl rfl rfl rfl rfl ?_); clear E; intro u E0; have E := Lib.hid E0; clear E0) | ((with_reducible refine kn_stores E.out rfl rfl rfl rfl rfl ?_ ?_ ?_); (focus (first | exact ⟨rfl, rfl⟩ | (simp only [i64s_length, u8s_length]; refine ⟨?_, ?_⟩ <;> first | rfl | assumption | omega))); (focus (first | exact i64s_one _ | exact u8s_one _ | simp [Value.oneCell'])); clear E; intro u E0; have E := Lib.hid E0; clear E0) | ((with_reducible refine kn_alloc (o := ⟨some 1, _, _, _, _, _⟩) E.out rfl rfl ?_); clear E; intro g1 u E0 hb0; have E := Lib.hid E0; clear E0 hb0) | ((with_reducible refine kn_box (o := ⟨some 1, _, _, _, _, _⟩) E.out rfl rfl rfl ?_); clear E; intro g1 u E0 hb0; have E := Lib.hid E0; clear E0 hb0) | ((with_reducible refine kn_box_int (o := ⟨some 1, _, _, _, _, _⟩) E.out rfl rfl rfl ?_); clear E; intro g1 u E0 hb0; have E := Lib.hid E0; clear E0 hb0) | ((with_reducible refine kn_box_slice (o := ⟨some 1, _, _, _, _, _⟩) E.out rfl rfl rfl ?_); clear E; intro g1 u E0 hb0; have E := Lib.hid E0; clear E0 hb0) | ((with_reducible refine kn_box_bool (o := ⟨some 1, _, _, _, _, _⟩) E.out rfl rfl rfl ?_); clear E; intro g1 u E0 hb0; have E := Lib.hid E0; clear E0 hb0) | ((with_reducible refine kn_box_func (o := ⟨some 1, _, _, _, _, _⟩) E.out rfl rfl rfl ?_); clear E; intro g1 u E0 hb0; have E := Lib.hid E0; clear E0 hb0) | ((with_reducible refine kn_alloc (o := ⟨some 2, _, _, _, _, _⟩) E.out rfl rfl ?_); clear E; intro g2 u E0 hb0; have E := Lib.hid E0; clear E0 hb0) | ((with_reducible refine kn_box (o := ⟨some 2, _, _, _, _, _⟩) E.out rfl rfl rfl ?_); clear E; intro g2 u E0 hb0; have E := Lib.hid E0; clear E0 hb0) | ((with_reducible refine kn_box_int (o := ⟨some 2, _, _, _, _, _⟩) E.out rfl rfl rfl ?_); clear E; intro g2 u E0 hb0; have E := Lib.hid E0; clear E0 hb0) | ((with_reducible refine kn_box_slice (o := ⟨some 2, _, _, _, _, _⟩) E.out rfl rfl rfl ?_); clear E; intro g2 u E0 hb0; have E := Lib.hid E0; clear E0 hb0) | ((with_reducible refine kn_box_bool (o := ⟨some 2, _, _, _, _, _⟩) E.out rfl rfl rfl ?_); clear E; intro g2 u E0 hb0; have E := Lib.hid E0; clear E0 hb0) | ((with_reducible refine kn_box_func (o := ⟨some 2, _, _, _, _, _⟩) E.out rfl rfl rfl ?_); clear E; intro g2 u E0 hb0; have E := Lib.hid E0; clear E0 hb0) | ((with_reducible refine kn_alloc E.out rfl rfl ?_); clear E; intro g u E0 hb0; have E := Lib.hid E0; clear E0 hb0) | ((with_reducible refine kn_box E.out rfl rfl rfl ?_); clear E; intro g u E0 hb0; have E := Lib.hid E0; clear E0 hb0) | ((with_reducible refine kn_box_int E.out rfl rfl rfl ?_); clear E; intro g u E0 hb0; have E := Lib.hid E0; clear E0 hb0) | ((with_reducible refine kn_box_slice E.out rfl rfl rfl ?_); clear E; intro g u E0 hb0; have E := Lib.hid E0; clear E0 hb0) | ((with_reducible refine kn_box_bool E.out rfl rfl rfl ?_); clear E; intro g u E0 hb0; have E := Lib.hid E0; clear E0 hb0) | ((with_reducible refine kn_box_func E.out rfl rfl rfl ?_); clear E; intro g u E0 hb0; have E := Lib.hid E0; clear E0 hb0))
  go_cut [4] (fun s4 wx => ∃ g4 : Nat, s4 = .pointer (some ⟨g4, 0, none⟩) ∧ Hid (Kn w [.row g4 24 (imL (a : Int) (d : Int) none 0 0), .row g2 24 (imL 0 0 none 0 0), .row g1 24 (imL W H A n c)] [imgF (img W H A n c) W H xs] wx))
  case first =>
    refine wp_region_held_drew (S := Kn w [.row g2 24 (imL 0 0 none 0 0), .row g1 24 (imL W H A n c)] [imgF (img W H A n c) W H xs]) (by kernel_rfl) E.out.drew (fun kS => ?_)
    generalize World.drew _ = u1 at kS ⊢
    clear E
    have E := Lib.hid kS
    (refine takeL (i := 0) (v := _) rfl (by kernel_rfl) (by kernel_rfl) (by kernel_rfl) (fun _ _ _ h => h) (by first | exact Or.inl ⟨by rfl, (by intro u hSu; clear hSu; go_simp; try with_reducible rfl)⟩ | exact Or.inr ⟨by rfl, rfl⟩) kS ?_; (try simp only [Act.put, List.setIfInBounds_toArray, List.set_cons_zero, List.set_cons_succ]))
    (refine takeL (i := 1) (v := _) rfl (by kernel_rfl) (by kernel_rfl) (by kernel_rfl) (fun _ _ _ h => h) (by first | exact yield_load rfl rfl rfl rfl | exact yield_loads rfl rfl rfl rfl | exact yield_loads rfl rfl rfl (by simp only [i64s_length, u8s_length]; first | assumption | omega) | exact yield_loadi rfl rfl rfl (by first | assumption | omega) | exact yield_loadp rfl rfl rfl (by first | assumption | omega)) kS ?_; (try simp only [Act.put, List.setIfInBounds_toArray, List.set_cons_zero, List.set_cons_succ]))
    (refine takeL (i := 3) (v := _) rfl (by kernel_rfl) (by kernel_rfl) (by kernel_rfl) (fun _ _ _ h => h) (by first | exact Or.inl ⟨by rfl, (by intro u hSu; clear hSu; go_simp; try with_reducible rfl)⟩ | exact Or.inr ⟨by rfl, rfl⟩) kS ?_; (try simp only [Act.put, List.setIfInBounds_toArray, List.set_cons_zero, List.set_cons_succ]))
    (refine takeL (i := 4) (v := _) rfl (by kernel_rfl) (by kernel_rfl) (by kernel_rfl) (fun _ _ _ h => h) (by first | exact yield_load rfl rfl rfl rfl | exact yield_loads rfl rfl rfl rfl | exact yield_loads rfl rfl rfl (by simp only [i64s_length, u8s_length]; first | assumption | omega) | exact yield_loadi rfl rfl rfl (by first | assumption | omega) | exact yield_loadp rfl rfl rfl (by first | assumption | omega)) kS ?_; (try simp only [Act.put, List.setIfInBounds_toArray, List.set_cons_zero, List.set_cons_succ]))
    refine callL2 (i := 2) (j := 7) rfl rfl (by kernel_rfl) (fun K hK => ?_) (fun K hK => ?_)
    · (go_simp; refine (hS1.out _).mono ?_; rintro e w5 ⟨rfl, rfl⟩; go_wp2_with fail; (refine hK.out _ _ (E.out.part _ _ (by repeat (first | exact List.Sublist.refl _ | apply List.Sublist.cons_cons | apply List.Sublist.cons)) (by simp)) (fun kS => ?_); clear hK K; (try simp only [Act.put, List.setIfInBounds_toArray, List.set_cons_zero, List.set_cons_succ])))
      refine callL2 (i := 5) (j := 7) rfl rfl (by kernel_rfl) (fun K hK => ?_) (fun K hK => ?_)
      · (go_simp; refine (hS2.out _).mono ?_; rintro e w6 ⟨rfl, rfl⟩; go_wp2_with fail; (refine hK.out _ _ (E.out.part _ _ (by repeat (first | exact List.Sublist.refl _ | apply List.Sublist.cons_cons | apply List.Sublist.cons)) (by simp)) (fun kS => ?_); clear hK K; (try simp only [Act.put, List.setIfInBounds_toArray, List.set_cons_zero, List.set_cons_succ])))
        (refine takeL (i := 6) (v := _) rfl (by kernel_rfl) (by kernel_rfl) (by kernel_rfl) (fun _ _ _ h => h) (by first | exact Or.inl ⟨by rfl, (by intro u hSu; clear hSu; go_simp; try with_reducible rfl)⟩ | exact Or.inr ⟨by rfl, rfl⟩) kS ?_; (try simp only [Act.put, List.setIfInBounds_toArray, List.set_cons_zero, List.set_cons_succ]))
        refine callL (i := 7) rfl (by kernel_rfl) (fun K hK => ?_)
        (rw [if_pos (by rfl)]; refine wp_kn_alloc E.out rfl ?_; clear E kS; intro g4 u E0; have E := Lib.hid E0; clear E0; (refine hK.out _ _ (E.out.part _ _ (by repeat (first | exact List.Sublist.refl _ | apply List.Sublist.cons_cons | apply List.Sublist.cons)) (by simp)) (fun kS => ?_); clear hK K; (try simp only [Act.put, List.setIfInBounds_toArray, List.set_cons_zero, List.set_cons_succ])))
        refine callL (i := 8) rfl (by kernel_rfl) (fun K hK => ?_)
        (rw [if_pos (by rfl)]; refine wp_kn_stores (vs := imL (a : Int) (d : Int) none 0 0) E.out rfl rfl rfl rfl (by exact ⟨rfl, rfl⟩) (by simp [Value.oneCell']) ?_; clear E kS; intro u E0; have E := Lib.hid E0; clear E0; (refine hK.out _ _ (E.out.part _ _ (by repeat (first | exact List.Sublist.refl _ | apply List.Sublist.cons_cons | apply List.Sublist.cons)) (by simp)) (fun kS => ?_); clear hK K; (try simp only [Act.put, List.setIfInBounds_toArray, List.set_cons_zero, List.set_cons_succ])))
        refine wpAnyH_done (by kernel_rfl) ?_ _
        go_wp2_with fail
        go_meet
        exact ⟨g4, rfl, E⟩
      · (rw [if_pos (by rfl)]; refine wp_kn_alloc E.out rfl ?_; clear E kS; intro g4 u E0; have E := Lib.hid E0; clear E0; (refine hK.out _ _ (E.out.part _ _ (by repeat (first | exact List.Sublist.refl _ | apply List.Sublist.cons_cons | apply List.Sublist.cons)) (by simp)) (fun kS => ?_); clear hK K; (try simp only [Act.put, List.setIfInBounds_toArray, List.set_cons_zero, List.set_cons_succ])))
        refine callL (i := 5) rfl (by kernel_rfl) (fun K hK => ?_)
        (go_simp; refine (hS2.out _).mono ?_; rintro e w6 ⟨rfl, rfl⟩; go_wp2_with fail; (refine hK.out _ _ (E.out.part _ _ (by repeat (first | exact List.Sublist.refl _ | apply List.Sublist.cons_cons | apply List.Sublist.cons)) (by simp)) (fun kS => ?_); clear hK K; (try simp only [Act.put, List.setIfInBounds_toArray, List.set_cons_zero, List.set_cons_succ])))
        (refine takeL (i := 6) (v := _) rfl (by kernel_rfl) (by kernel_rfl) (by kernel_rfl) (fun _ _ _ h => h) (by first | exact Or.inl ⟨by rfl, (by intro u hSu; clear hSu; go_simp; try with_reducible rfl)⟩ | exact Or.inr ⟨by rfl, rfl⟩) kS ?_; (try simp only [Act.put, List.setIfInBounds_toArray, List.set_cons_zero, List.set_cons_succ]))
        refine callL (i := 8) rfl (by kernel_rfl) (fun K hK => ?_)
        (rw [if_pos (by rfl)]; refine wp_kn_stores (vs := imL (a : Int) (d : Int) none 0 0) E.out rfl rfl rfl rfl (by exact ⟨rfl, rfl⟩) (by simp [Value.oneCell']) ?_; clear E kS; intro u E0; have E := Lib.hid E0; clear E0; (refine hK.out _ _ (E.out.part _ _ (by repeat (first | exact List.Sublist.refl _ | apply List.Sublist.cons_cons | apply List.Sublist.cons)) (by simp)) (fun kS => ?_); clear hK K; (try simp only [Act.put, List.setIfInBounds_toArray, List.set_cons_zero, List.set_cons_succ])))
        refine wpAnyH_done (by kernel_rfl) ?_ _
        go_wp2_with fail
        go_meet
        exact ⟨g4, rfl, E⟩
    · (rw [if_pos (by rfl)]; refine wp_kn_alloc E.out rfl ?_; clear E kS; intro g4 u E0; have E := Lib.hid E0; clear E0; (refine hK.out _ _ (E.out.part _ _ (by repeat (first | exact List.Sublist.refl _ | apply List.Sublist.cons_cons | apply List.Sublist.cons)) (by simp)) (fun kS => ?_); clear hK K; (try simp only [Act.put, List.setIfInBounds_toArray, List.set_cons_zero, List.set_cons_succ])))
      refine callL (i := 2) rfl (by kernel_rfl) (fun K hK => ?_)
      (go_simp; refine (hS1.out _).mono ?_; rintro e w5 ⟨rfl, rfl⟩; go_wp2_with fail; (refine hK.out _ _ (E.out.part _ _ (by repeat (first | exact List.Sublist.refl _ | apply List.Sublist.cons_cons | apply List.Sublist.cons)) (by simp)) (fun kS => ?_); clear hK K; (try simp only [Act.put, List.setIfInBounds_toArray, List.set_cons_zero, List.set_cons_succ])))
      refine callL (i := 5) rfl (by kernel_rfl) (fun K hK => ?_)
      (go_simp; refine (hS2.out _).mono ?_; rintro e w6 ⟨rfl, rfl⟩; go_wp2_with fail; (refine hK.out _ _ (E.out.part _ _ (by repeat (first | exact List.Sublist.refl _ | apply List.Sublist.cons_cons | apply List.Sublist.cons)) (by simp)) (fun kS => ?_); clear hK K; (try simp only [Act.put, List.setIfInBounds_toArray, List.set_cons_zero, List.set_cons_succ])))
      (refine takeL (i := 6) (v := _) rfl (by kernel_rfl) (by kernel_rfl) (by kernel_rfl) (fun _ _ _ h => h) (by first | exact Or.inl ⟨by rfl, (by intro u hSu; clear hSu; go_simp; try with_reducible rfl)⟩ | exact Or.inr ⟨by rfl, rfl⟩) kS ?_; (try simp only [Act.put, List.setIfInBounds_toArray, List.set_cons_zero, List.set_cons_succ]))
      refine callL (i := 8) rfl (by kernel_rfl) (fun K hK => ?_)
      (rw [if_pos (by rfl)]; refine wp_kn_stores (vs := imL (a : Int) (d : Int) none 0 0) E.out rfl rfl rfl rfl (by exact ⟨rfl, rfl⟩) (by simp [Value.oneCell']) ?_; clear E kS; intro u E0; have E := Lib.hid E0; clear E0; (refine hK.out _ _ (E.out.part _ _ (by repeat (first | exact List.Sublist.refl _ | apply List.Sublist.cons_cons | apply List.Sublist.cons)) (by simp)) (fun kS => ?_); clear hK K; (try simp only [Act.put, List.setIfInBounds_toArray, List.set_cons_zero, List.set_cons_succ])))
      refine wpAnyH_done (by kernel_rfl) ?_ _
      go_wp2_with fail
      go_meet
      exact ⟨g4, rfl, E⟩
  case rest =>
    obtain ⟨g4, rfl, E0⟩ := hcut
    clear E
    have E := Lib.hid (E0.out.own_nil 5 1)
    clear E0 hR hS1 hS2
    go_wp2_with (first | ((with_reducible refine kn_load E.out rfl rfl rfl rfl ?_)) | ((with_reducible refine kn_load_if E.out rfl rfl rfl rfl ?_)) | ((with_reducible refine kn_loads E.out rfl rfl rfl ?_ ?_); (focus (first | rfl | (simp only [i64s_length, u8s_length]; first | rfl | assumption | omega)))) | ((with_reducible refine kn_loads_if E.out rfl rfl rfl ?_ ?_); (focus (first | rfl | (simp only [i64s_length, u8s_length]; first | rfl | assumption | omega)))) | ((with_reducible refine kn_store1_int E.out rfl rfl rfl rfl rfl ?_); clear E; intro u E0; have E := Lib.hid E0; clear E0) | ((with_reducible refine kn_store1_slice E.out rfl rfl rfl rfl rfl ?_); clear E; intro u E0; have E := Lib.hid E0; clear E0) | ((with_reducible refine kn_store1_bool E.out rfl rfl rfl rfl rfl ?_); clear E; intro u E0; have E := Lib.hid E0; clear E0) | ((with_reducible refine kn_stores E.out rfl rfl rfl rfl rfl ?_ ?_ ?_); (focus (first | exact ⟨rfl, rfl⟩ | (simp only [i64s_length, u8s_length]; refine ⟨?_, ?_⟩ <;> first | rfl | assumption | omega))); (focus (first | exact i64s_one _ | exact u8s_one _ | simp [Value.oneCell'])); clear E; intro u E0; have E := Lib.hid E0; clear E0) | ((with_reducible refine kn_alloc E.out rfl rfl ?_); clear E; intro g u E0 hb0; have E := Lib.hid E0; clear E0 hb0) | ((with_reducible refine kn_box E.out rfl rfl rfl ?_); clear E; intro g u E0 hb0; have E := Lib.hid E0; clear E0 hb0) | ((with_reducible refine kn_box_int E.out rfl rfl rfl ?_); clear E; intro g u E0 hb0; have E := Lib.hid E0; clear E0 hb0) | ((with_reducible refine kn_box_slice E.out rfl rfl rfl ?_); clear E; intro g u E0 hb0; have E := Lib.hid E0; clear E0 hb0) | ((with_reducible refine kn_box_bool E.out rfl rfl rfl ?_); clear E; intro g u E0 hb0; have E := Lib.hid E0; clear E0 hb0) | ((with_reducible refine kn_box_func E.out rfl rfl rfl ?_); clear E; intro g u E0 hb0; have E := Lib.hid E0; clear E0 hb0))
    go_loopw [5] (fun i wr => ∃ (k : Nat) (B4 : Option Addr) (c4 : Nat), k ≤ d ∧ i = .int .i64 k ∧ Hid (Kn w [.own 5 1 (.slice B4 (4 * (k * a)) c4) (4 * (k * a)) (u8s (hk (k * a))), .row g4 24 (imL (a : Int) (d : Int) B4 (4 * (k * a)) c4), .row g2 24 (imL 0 0 none 0 0), .row g1 24 (imL W H A n c)] [imgF (img W H A n c) W H xs] wr)) (fun i _ => d - (intOf i).toNat)
    case atStart => exact ⟨0, none, 0, by omega, rfl, by rw [Nat.zero_mul, HK0.out]; exact E⟩
    case round =>
      clear E
      obtain ⟨k, B4, c4, hk1, rfl, E⟩ := hrel
      by_cases hlt : k < d
      · go_wp2_with (first | ((with_reducible refine kn_load E.out rfl rfl rfl rfl ?_)) | ((with_reducible refine kn_load_if E.out rfl rfl rfl rfl ?_)) | ((with_reducible refine kn_loads E.out rfl rfl rfl ?_ ?_); (focus (first | rfl | (simp only [i64s_length, u8s_length]; first | rfl | assumption | omega)))) | ((with_reducible refine kn_loads_if E.out rfl rfl rfl ?_ ?_); (focus (first | rfl | (simp only [i64s_length, u8s_length]; first | rfl | assumption | omega)))) | ((with_reducible refine kn_store1_int E.out rfl rfl rfl rfl rfl ?_); clear E; intro u E0; have E := Lib.hid E0; clear E0) | ((with_reducible refine kn_store1_slice E.out rfl rfl rfl rfl rfl ?_); clear E; intro u E0; have E := Lib.hid E0; clear E0) | ((with_reducible refine kn_store1_bool E.out rfl rfl rfl rfl rfl ?_); clear E; intro u E0; have E := Lib.hid E0; clear E0) | ((with_reducible refine kn_stores E.out rfl rfl rfl rfl rfl ?_ ?_ ?_); (focus (first | exact ⟨rfl, rfl⟩ | (simp only [i64s_length, u8s_length]; refine ⟨?_, ?_⟩ <;> first | rfl | assumption | omega))); (focus (first | exact i64s_one _ | exact u8s_one _ | simp [Value.oneCell'])); clear E; intro u E0; have E := Lib.hid E0; clear E0) | ((with_reducible refine kn_alloc E.out rfl rfl ?_); clear E; intro g u E0 hb0; have E := Lib.hid E0; clear E0 hb0) | ((with_reducible refine kn_box E.out rfl rfl rfl ?_); clear E; intro g u E0 hb0; have E := Lib.hid E0; clear E0 hb0) | ((with_reducible refine kn_box_int E.out rfl rfl rfl ?_); clear E; intro g u E0 hb0; have E := Lib.hid E0; clear E0 hb0) | ((with_reducible refine kn_box_slice E.out rfl rfl rfl ?_); clear E; intro g u E0 hb0; have E := Lib.hid E0; clear E0 hb0) | ((with_reducible refine kn_box_bool E.out rfl rfl rfl ?_); clear E; intro g u E0 hb0; have E := Lib.hid E0; clear E0 hb0) | ((with_reducible refine kn_box_func E.out rfl rfl rfl ?_); clear E; intro g u E0 hb0; have E := Lib.hid E0; clear E0 hb0))
        try rw [show decide (k < d) = true from by simp; omega]
        go_loopw [6] (fun i wr => ∃ (q : Nat) (B4 : Option Addr) (c4 : Nat), q ≤ a ∧ i = .int .i64 q ∧ Hid (Kn w [.own 5 1 (.slice B4 (4 * (k * a + q)) c4) (4 * (k * a + q)) (u8s (hk (k * a + q))), .row g4 24 (imL (a : Int) (d : Int) B4 (4 * (k * a + q)) c4), .row g2 24 (imL 0 0 none 0 0), .row g1 24 (imL W H A n c)] [imgF (img W H A n c) W H xs] wr)) (fun i _ => a - (intOf i).toNat)
        case atStart => exact ⟨0, B4, c4, by omega, rfl, E⟩
        case round =>
          clear E B4 c4
          obtain ⟨q, B4, c4, hq1, rfl, E⟩ := hrel
          by_cases hlt2 : q < a
          · have hqm : k * a + q + 1 ≤ 16777216 := Nat.le_trans (by have : (k + 1) * a ≤ d * a := Nat.mul_le_mul_right a hlt; rw [Nat.add_mul, Nat.one_mul, Nat.mul_comm d a] at this; omega) hmx
            have HQM := Lib.hid hqm
            have hc0 := Lib.hid (HC0.out (k * a + q))
            have hc4 := Lib.hid (HC4.out (k * a + q))
            have hcs := Lib.hid (fun c hc => HCS.out k q c hlt2 hc)
            have hf4 := Lib.hid (HF.out k q hlt hlt2)
            have hsm := Lib.hid (HSm.out k q)
            have hb4 := Lib.hid (HB4.out k q)
            clear hqm HC0 HC4 HCS HF HSm HB4
            generalize hfB W H xs ((q : Nat) : Int) ((k : Nat) : Int) = tb at *
            generalize fourP W H ((q : Nat) : Int) ((k : Nat) : Int) = ps at *
            go_wp2_with (first | ((with_reducible refine kn_load E.out rfl rfl rfl rfl ?_)) | ((with_reducible refine kn_load_if E.out rfl rfl rfl rfl ?_)) | ((with_reducible refine kn_loads E.out rfl rfl rfl ?_ ?_); (focus (first | rfl | (simp only [i64s_length, u8s_length]; first | rfl | assumption | omega)))) | ((with_reducible refine kn_loads_if E.out rfl rfl rfl ?_ ?_); (focus (first | rfl | (simp only [i64s_length, u8s_length]; first | rfl | assumption | omega)))) | ((with_reducible refine kn_store1_int E.out rfl rfl rfl rfl rfl ?_); clear E; intro u E0; have E := Lib.hid E0; clear E0) | ((with_reducible refine kn_store1_slice E.out rfl rfl rfl rfl rfl ?_); clear E; intro u E0; have E := Lib.hid E0; clear E0) | ((with_reducible refine kn_store1_bool E.out rfl rfl rfl rfl rfl ?_); clear E; intro u E0; have E := Lib.hid E0; clear E0) | ((with_reducible refine kn_stores E.out rfl rfl rfl rfl rfl ?_ ?_ ?_); (focus (first | exact ⟨rfl, rfl⟩ | (simp only [i64s_length, u8s_length]; refine ⟨?_, ?_⟩ <;> first | rfl | assumption | omega))); (focus (first | exact i64s_one _ | exact u8s_one _ | simp [Value.oneCell'])); clear E; intro u E0; have E := Lib.hid E0; clear E0) | ((with_reducible refine kn_alloc E.out rfl rfl ?_); clear E; intro g u E0 hb0; have E := Lib.hid E0; clear E0 hb0) | ((with_reducible refine kn_box E.out rfl rfl rfl ?_); clear E; intro g u E0 hb0; have E := Lib.hid E0; clear E0 hb0) | ((with_reducible refine kn_box_int E.out rfl rfl rfl ?_); clear E; intro g u E0 hb0; have E := Lib.hid E0; clear E0 hb0) | ((with_reducible refine kn_box_slice E.out rfl rfl rfl ?_); clear E; intro g u E0 hb0; have E := Lib.hid E0; clear E0 hb0) | ((with_reducible refine kn_box_bool E.out rfl rfl rfl ?_); clear E; intro g u E0 hb0; have E := Lib.hid E0; clear E0 hb0) | ((with_reducible refine kn_box_func E.out rfl rfl rfl ?_); clear E; intro g u E0 hb0; have E := Lib.hid E0; clear E0 hb0))
            try rw [show decide (q < a) = true from by simp; omega]
            go_loopw [7] (fun i wr => ∃ (ch : Nat) (B4 : Option Addr) (c4 : Nat), ch ≤ 4 ∧ i = .int .i64 ch ∧ Hid (Kn w [.own 5 1 (.slice B4 (4 * (k * a + q) + ch) c4) (4 * (k * a + q) + ch) (u8s (hc (k * a + q) ch)), .row g4 24 (imL (a : Int) (d : Int) B4 (4 * (k * a + q) + ch) c4), .row g2 24 (imL 0 0 none 0 0), .row g1 24 (imL W H A n c)] [imgF (img W H A n c) W H xs] wr)) (fun i _ => 4 - (intOf i).toNat)
            case atStart => exact ⟨0, B4, c4, by omega, rfl, by rw [hc0.out]; exact E⟩
            case round =>
              clear E B4 c4
              obtain ⟨ch, B4, c4, hch, rfl, E⟩ := hrel
              by_cases hlt3 : ch < 4
              · have hchi : (ch : Int) < 4 := by omega
                have hcc := Lib.hid (hcs.out ch hlt3)
                have hsc := Lib.hid (hsm.out ch)
                have hbc := hb4.out ch
                clear hcs hsm hb4
                generalize tb ch = qv at *
                go_wp2_with (first | ((with_reducible refine kn_load E.out rfl rfl rfl rfl ?_)) | ((with_reducible refine kn_load_if E.out rfl rfl rfl rfl ?_)) | ((with_reducible refine kn_loads E.out rfl rfl rfl ?_ ?_); (focus (first | rfl | (simp only [i64s_length, u8s_length]; first | rfl | assumption | omega)))) | ((with_reducible refine kn_loads_if E.out rfl rfl rfl ?_ ?_); (focus (first | rfl | (simp only [i64s_length, u8s_length]; first | rfl | assumption | omega)))) | ((with_reducible refine kn_store1_int E.out rfl rfl rfl rfl rfl ?_); clear E; intro u E0; have E := Lib.hid E0; clear E0) | ((with_reducible refine kn_store1_slice E.out rfl rfl rfl rfl rfl ?_); clear E; intro u E0; have E := Lib.hid E0; clear E0) | ((with_reducible refine kn_store1_bool E.out rfl rfl rfl rfl rfl ?_); clear E; intro u E0; have E := Lib.hid E0; clear E0) | ((with_reducible refine kn_stores E.out rfl rfl rfl rfl rfl ?_ ?_ ?_); (focus (first | exact ⟨rfl, rfl⟩ | (simp only [i64s_length, u8s_length]; refine ⟨?_, ?_⟩ <;> first | rfl | assumption | omega))); (focus (first | exact i64s_one _ | exact u8s_one _ | simp [Value.oneCell'])); clear E; intro u E0; have E := Lib.hid E0; clear E0) | ((with_reducible refine kn_alloc E.out rfl rfl ?_); clear E; intro g u E0 hb0; have E := Lib.hid E0; clear E0 hb0) | ((with_reducible refine kn_box E.out rfl rfl rfl ?_); clear E; intro g u E0 hb0; have E := Lib.hid E0; clear E0 hb0) | ((with_reducible refine kn_box_int E.out rfl rfl rfl ?_); clear E; intro g u E0 hb0; have E := Lib.hid E0; clear E0 hb0) | ((with_reducible refine kn_box_slice E.out rfl rfl rfl ?_); clear E; intro g u E0 hb0; have E := Lib.hid E0; clear E0 hb0) | ((with_reducible refine kn_box_bool E.out rfl rfl rfl ?_); clear E; intro g u E0 hb0; have E := Lib.hid E0; clear E0 hb0) | ((with_reducible refine kn_box_func E.out rfl rfl rfl ?_); clear E; intro g u E0 hb0; have E := Lib.hid E0; clear E0 hb0))
                try rw [show decide (ch < 4) = true from by simp; omega]
                go_loopw [9, 8] (fun i s wr => ∃ j : Nat, j ≤ 4 ∧ i = .int .i64 j ∧ s = .int .i64 (2 + ((sm xs ps ch j : Nat) : Int)) ∧ Hid (Kn w [.own 5 1 (.slice B4 (4 * (k * a + q) + ch) c4) (4 * (k * a + q) + ch) (u8s (hc (k * a + q) ch)), .row g4 24 (imL (a : Int) (d : Int) B4 (4 * (k * a + q) + ch) c4), .row g2 24 (imL 0 0 none 0 0), .row g1 24 (imL W H A n c)] [imgF (img W H A n c) W H xs] wr)) (fun i _ _ => 4 - (intOf i).toNat)
                case atStart => exact ⟨0, by omega, rfl, rfl, E⟩
                case round =>
                  clear E
                  obtain ⟨j, hj, rfl, rfl, E⟩ := hrel
                  by_cases hlt4 : j < 4
                  · have hfj := hf4.out j hlt4
                    have hins := HM.out (2 * ((q : Nat) : Int) + (j : Int) % 2) (2 * ((k : Nat) : Int) + (j : Int) / 2) (by omega) (by omega)
                    have hAt := Lib.hid (HA.out (mn (2 * ((q : Nat) : Int) + (j : Int) % 2) (W - 1)) (mn (2 * ((k : Nat) : Int) + (j : Int) / 2) (H - 1)))
                    rw [HV.out _ _ hins, ← hfj] at hAt
                    have hmx2 := mn_cases (2 * ((q : Nat) : Int) + (j : Int) % 2) (W - 1)
                    have hmy2 := mn_cases (2 * ((k : Nat) : Int) + (j : Int) / 2) (H - 1)
                    have hTL := tex_length xs (ps.getD j 0)
                    have hTV := Lib.hid (show (i64s (tex xs (ps.getD j 0)))[ch]? = some (.int .i64 ((xs.getD (ps.getD j 0 + ch) 0 : Nat) : Int)) from by rw [i64s_get _ _ (by rw [hTL]; exact hlt3), tex_getD _ _ _ hlt3])
                    have hS2 := Lib.hid (show sm xs ps ch (j + 1) = sm xs ps ch j + xs.getD (ps.getD j 0 + ch) 0 from rfl)
                    have hVb := HGB.out (ps.getD j 0 + ch)
                    have hle := HL.out ps ch j
                    clear hfj hins
                    generalize xs.getD (ps.getD j 0 + ch) 0 = V at *
                    generalize tex xs (ps.getD j 0) = T at *
                    generalize sm xs ps ch j = sj at *
                    generalize noE (atP W H xs (mn (2 * ((q : Nat) : Int) + (j : Int) % 2) (W - 1)) (mn (2 * ((k : Nat) : Int) + (j : Int) / 2) (H - 1))) = er at *
                    generalize mn (2 * ((q : Nat) : Int) + (j : Int) % 2) (W - 1) = mx at *
                    generalize mn (2 * ((k : Nat) : Int) + (j : Int) / 2) (H - 1) = my at *
                    rcases hmx2 with ⟨hx1, rfl⟩ | ⟨hx1, rfl⟩ <;> rcases hmy2 with ⟨hy1, rfl⟩ | ⟨hy1, rfl⟩ <;>
                    · go_wp2_with (first
                        | (go_at_call 41; (with_reducible refine (hAt.out _ E.out.img).mono ?_); rintro e w2 ⟨rfl, hb⟩; have E1 := Lib.hid (E.out.later hb); clear hb E; have E := E1; clear E1)
                        | ((with_reducible refine kn_load (g := g10) (i := ch) (v := .int .i64 (V : Int)) E.out rfl rfl rfl hTV.out ?_))
                        | ((with_reducible refine kn_load E.out rfl rfl rfl rfl ?_)) | ((with_reducible refine kn_load_if E.out rfl rfl rfl rfl ?_)) | ((with_reducible refine kn_loads E.out rfl rfl rfl ?_ ?_); (focus (first | rfl | (simp only [i64s_length, u8s_length]; first | rfl | assumption | omega)))) | ((with_reducible refine kn_loads_if E.out rfl rfl rfl ?_ ?_); (focus (first | rfl | (simp only [i64s_length, u8s_length]; first | rfl | assumption | omega)))) | ((with_reducible refine kn_store1_int E.out rfl rfl rfl rfl rfl ?_); clear E; intro u E0; have E := Lib.hid E0; clear E0) | ((with_reducible refine kn_store1_slice E.out rfl rfl rfl rfl rfl ?_); clear E; intro u E0; have E := Lib.hid E0; clear E0) | ((with_reducible refine kn_store1_bool E.out rfl rfl rfl rfl rfl ?_); clear E; intro u E0; have E := Lib.hid E0; clear E0) | ((with_reducible refine kn_stores E.out rfl rfl rfl rfl rfl ?_ ?_ ?_); (focus (first | exact ⟨rfl, rfl⟩ | (simp only [i64s_length, u8s_length]; refine ⟨?_, ?_⟩ <;> first | rfl | assumption | omega))); (focus (first | exact i64s_one _ | exact u8s_one _ | simp [Value.oneCell'])); clear E; intro u E0; have E := Lib.hid E0; clear E0) | ((with_reducible refine kn_alloc (o := ⟨some 10, _, _, _, _, _⟩) E.out rfl rfl ?_); clear E; intro g10 u E0 hb0; have E := Lib.hid E0; clear E0 hb0) | ((with_reducible refine kn_box (o := ⟨some 10, _, _, _, _, _⟩) E.out rfl rfl rfl ?_); clear E; intro g10 u E0 hb0; have E := Lib.hid E0; clear E0 hb0) | ((with_reducible refine kn_box_int (o := ⟨some 10, _, _, _, _, _⟩) E.out rfl rfl rfl ?_); clear E; intro g10 u E0 hb0; have E := Lib.hid E0; clear E0 hb0) | ((with_reducible refine kn_box_slice (o := ⟨some 10, _, _, _, _, _⟩) E.out rfl rfl rfl ?_); clear E; intro g10 u E0 hb0; have E := Lib.hid E0; clear E0 hb0) | ((with_reducible refine kn_box_bool (o := ⟨some 10, _, _, _, _, _⟩) E.out rfl rfl rfl ?_); clear E; intro g10 u E0 hb0; have E := Lib.hid E0; clear E0 hb0) | ((with_reducible refine kn_box_func (o := ⟨some 10, _, _, _, _, _⟩) E.out rfl rfl rfl ?_); clear E; intro g10 u E0 hb0; have E := Lib.hid E0; clear E0 hb0) | ((with_reducible refine kn_alloc E.out rfl rfl ?_); clear E; intro g u E0 hb0; have E := Lib.hid E0; clear E0 hb0) | ((with_reducible refine kn_box E.out rfl rfl rfl ?_); clear E; intro g u E0 hb0; have E := Lib.hid E0; clear E0 hb0) | ((with_reducible refine kn_box_int E.out rfl rfl rfl ?_); clear E; intro g u E0 hb0; have E := Lib.hid E0; clear E0 hb0) | ((with_reducible refine kn_box_slice E.out rfl rfl rfl ?_); clear E; intro g u E0 hb0; have E := Lib.hid E0; clear E0 hb0) | ((with_reducible refine kn_box_bool E.out rfl rfl rfl ?_); clear E; intro g u E0 hb0; have E := Lib.hid E0; clear E0 hb0) | ((with_reducible refine kn_box_func E.out rfl rfl rfl ?_); clear E; intro g u E0 hb0; have E := Lib.hid E0; clear E0 hb0))
                      go_roundw
                      case rel => exact ⟨j + 1, by omega, by go_num, by rw [hS2.out]; go_num, E.out.part _ _ (by repeat (first | exact List.Sublist.refl _ | apply List.Sublist.cons_cons | apply List.Sublist.cons)) (by simp)⟩
                      case measure => simp [intOf]; omega
                  · obtain rfl : j = 4 := by omega
                    have hle := HL.out ps ch 4
                    have hq4 : (2 + ((sm xs ps ch 4 : Nat) : Int)) / 4 = (qv : Int) := by have := hsc.out; omega
                    generalize sm xs ps ch 4 = s4 at *
                    go_wp2_with (first
                      | ((with_reducible refine kn_build1 (vs := u8s [qv]) E.out rfl rfl rfl ?_ Try.underlying22 info_u8 ?_ ?_ ?_ ?_); (focus (rfl)); (focus (rfl)); (focus (omega)); (focus (omega)); clear E; intro g u E0 hb0; have E := Lib.hid E0; clear E0 hb0)
                      | ((with_reducible refine kn_append_row E.out rfl rfl ?_ Try.underlying22 info_u8 ?_ ?_ rfl ?_ ?_ ?_ ?_ ?_); (focus (rfl)); (focus (rfl)); (focus (omega)); (focus (rfl)); (focus (exact u8s_one _)); (focus (have := HQM.out; unfold maxLen; omega)); (focus (have := HQM.out; omega)); clear E; intro v' u' E0; obtain ⟨gn, cn, rfl⟩ := own_shape (E0.own (v := v')) (by omega); have E := Lib.hid E0; clear E0)
                      | ((with_reducible refine kn_store (i := 2) (v := .slice (some ⟨gn, 0, none⟩) (4 * (k * a + q) + ch + 1) cn) E.out rfl rfl rfl rfl rfl rfl ?_ ?_); (focus (simp)); clear E; intro u E0; have E := Lib.hid E0; clear E0)
                      | ((with_reducible refine kn_load E.out rfl rfl rfl rfl ?_)) | ((with_reducible refine kn_load_if E.out rfl rfl rfl rfl ?_)) | ((with_reducible refine kn_loads E.out rfl rfl rfl ?_ ?_); (focus (first | rfl | (simp only [i64s_length, u8s_length]; first | rfl | assumption | omega)))) | ((with_reducible refine kn_loads_if E.out rfl rfl rfl ?_ ?_); (focus (first | rfl | (simp only [i64s_length, u8s_length]; first | rfl | assumption | omega)))) | ((with_reducible refine kn_store1_int E.out rfl rfl rfl rfl rfl ?_); clear E; intro u E0; have E := Lib.hid E0; clear E0) | ((with_reducible refine kn_store1_slice E.out rfl rfl rfl rfl rfl ?_); clear E; intro u E0; have E := Lib.hid E0; clear E0) | ((with_reducible refine kn_store1_bool E.out rfl rfl rfl rfl rfl ?_); clear E; intro u E0; have E := Lib.hid E0; clear E0) | ((with_reducible refine kn_stores E.out rfl rfl rfl rfl rfl ?_ ?_ ?_); (focus (first | exact ⟨rfl, rfl⟩ | (simp only [i64s_length, u8s_length]; refine ⟨?_, ?_⟩ <;> first | rfl | assumption | omega))); (focus (first | exact i64s_one _ | exact u8s_one _ | simp [Value.oneCell'])); clear E; intro u E0; have E := Lib.hid E0; clear E0) | ((with_reducible refine kn_alloc E.out rfl rfl ?_); clear E; intro g u E0 hb0; have E := Lib.hid E0; clear E0 hb0) | ((with_reducible refine kn_box E.out rfl rfl rfl ?_); clear E; intro g u E0 hb0; have E := Lib.hid E0; clear E0 hb0) | ((with_reducible refine kn_box_int E.out rfl rfl rfl ?_); clear E; intro g u E0 hb0; have E := Lib.hid E0; clear E0 hb0) | ((with_reducible refine kn_box_slice E.out rfl rfl rfl ?_); clear E; intro g u E0 hb0; have E := Lib.hid E0; clear E0 hb0) | ((with_reducible refine kn_box_bool E.out rfl rfl rfl ?_); clear E; intro g u E0 hb0; have E := Lib.hid E0; clear E0 hb0) | ((with_reducible refine kn_box_func E.out rfl rfl rfl ?_); clear E; intro g u E0 hb0; have E := Lib.hid E0; clear E0 hb0))
                    go_roundw
                    case rel => exact ⟨ch + 1, some ⟨gn, 0, none⟩, cn, by omega, by go_num, by rw [hcc.out, u8s_append]; exact E.out.part _ _ (by repeat (first | exact List.Sublist.refl _ | apply List.Sublist.cons_cons | apply List.Sublist.cons)) (by simp)⟩
                    case measure => simp [intOf]; omega
              · obtain rfl : ch = 4 := by omega
                go_wp2_with (first | ((with_reducible refine kn_load E.out rfl rfl rfl rfl ?_)) | ((with_reducible refine kn_load_if E.out rfl rfl rfl rfl ?_)) | ((with_reducible refine kn_loads E.out rfl rfl rfl ?_ ?_); (focus (first | rfl | (simp only [i64s_length, u8s_length]; first | rfl | assumption | omega)))) | ((with_reducible refine kn_loads_if E.out rfl rfl rfl ?_ ?_); (focus (first | rfl | (simp only [i64s_length, u8s_length]; first | rfl | assumption | omega)))) | ((with_reducible refine kn_store1_int E.out rfl rfl rfl rfl rfl ?_); clear E; intro u E0; have E := Lib.hid E0; clear E0) | ((with_reducible refine kn_store1_slice E.out rfl rfl rfl rfl rfl ?_); clear E; intro u E0; have E := Lib.hid E0; clear E0) | ((with_reducible refine kn_store1_bool E.out rfl rfl rfl rfl rfl ?_); clear E; intro u E0; have E := Lib.hid E0; clear E0) | ((with_reducible refine kn_stores E.out rfl rfl rfl rfl rfl ?_ ?_ ?_); (focus (first | exact ⟨rfl, rfl⟩ | (simp only [i64s_length, u8s_length]; refine ⟨?_, ?_⟩ <;> first | rfl | assumption | omega))); (focus (first | exact i64s_one _ | exact u8s_one _ | simp [Value.oneCell'])); clear E; intro u E0; have E := Lib.hid E0; clear E0) | ((with_reducible refine kn_alloc E.out rfl rfl ?_); clear E; intro g u E0 hb0; have E := Lib.hid E0; clear E0 hb0) | ((with_reducible refine kn_box E.out rfl rfl rfl ?_); clear E; intro g u E0 hb0; have E := Lib.hid E0; clear E0 hb0) | ((with_reducible refine kn_box_int E.out rfl rfl rfl ?_); clear E; intro g u E0 hb0; have E := Lib.hid E0; clear E0 hb0) | ((with_reducible refine kn_box_slice E.out rfl rfl rfl ?_); clear E; intro g u E0 hb0; have E := Lib.hid E0; clear E0 hb0) | ((with_reducible refine kn_box_bool E.out rfl rfl rfl ?_); clear E; intro g u E0 hb0; have E := Lib.hid E0; clear E0 hb0) | ((with_reducible refine kn_box_func E.out rfl rfl rfl ?_); clear E; intro g u E0 hb0; have E := Lib.hid E0; clear E0 hb0))
                go_roundw
                case rel => exact ⟨q + 1, B4, c4, by omega, by go_num, by rw [show k * a + (q + 1) = k * a + q + 1 from by omega, ← hc4.out, show 4 * (k * a + q + 1) = 4 * (k * a + q) + 4 from by omega]; exact E⟩
                case measure => simp [intOf]; omega
          · obtain rfl : q = a := by omega
            go_wp2_with (first | ((with_reducible refine kn_load E.out rfl rfl rfl rfl ?_)) | ((with_reducible refine kn_load_if E.out rfl rfl rfl rfl ?_)) | ((with_reducible refine kn_loads E.out rfl rfl rfl ?_ ?_); (focus (first | rfl | (simp only [i64s_length, u8s_length]; first | rfl | assumption | omega)))) | ((with_reducible refine kn_loads_if E.out rfl rfl rfl ?_ ?_); (focus (first | rfl | (simp only [i64s_length, u8s_length]; first | rfl | assumption | omega)))) | ((with_reducible refine kn_store1_int E.out rfl rfl rfl rfl rfl ?_); clear E; intro u E0; have E := Lib.hid E0; clear E0) | ((with_reducible refine kn_store1_slice E.out rfl rfl rfl rfl rfl ?_); clear E; intro u E0; have E := Lib.hid E0; clear E0) | ((with_reducible refine kn_store1_bool E.out rfl rfl rfl rfl rfl ?_); clear E; intro u E0; have E := Lib.hid E0; clear E0) | ((with_reducible refine kn_stores E.out rfl rfl rfl rfl rfl ?_ ?_ ?_); (focus (first | exact ⟨rfl, rfl⟩ | (simp only [i64s_length, u8s_length]; refine ⟨?_, ?_⟩ <;> first | rfl | assumption | omega))); (focus (first | exact i64s_one _ | exact u8s_one _ | simp [Value.oneCell'])); clear E; intro u E0; have E := Lib.hid E0; clear E0) | ((with_reducible refine kn_alloc E.out rfl rfl ?_); clear E; intro g u E0 hb0; have E := Lib.hid E0; clear E0 hb0) | ((with_reducible refine kn_box E.out rfl rfl rfl ?_); clear E; intro g u E0 hb0; have E := Lib.hid E0; clear E0 hb0) | ((with_reducible refine kn_box_int E.out rfl rfl rfl ?_); clear E; intro g u E0 hb0; have E := Lib.hid E0; clear E0 hb0) | ((with_reducible refine kn_box_slice E.out rfl rfl rfl ?_); clear E; intro g u E0 hb0; have E := Lib.hid E0; clear E0 hb0) | ((with_reducible refine kn_box_bool E.out rfl rfl rfl ?_); clear E; intro g u E0 hb0; have E := Lib.hid E0; clear E0 hb0) | ((with_reducible refine kn_box_func E.out rfl rfl rfl ?_); clear E; intro g u E0 hb0; have E := Lib.hid E0; clear E0 hb0))
            go_roundw
            case rel => exact ⟨k + 1, B4, c4, by omega, by go_num, by rw [Nat.add_mul, Nat.one_mul]; exact E⟩
            case measure => simp [intOf]; omega
      · obtain rfl : k = d := by omega
        have hpos : 0 < 4 * (k * a) := by have := Nat.mul_pos hd1 ha1; omega
        have hsh := own_shape (E.out.own (v := .slice B4 (4 * (k * a)) c4)) hpos
        obtain ⟨g, cap, hgc⟩ := hsh
        obtain rfl : B4 = some ⟨g, 0, none⟩ := by injection hgc
        have hka := Lib.hid (Nat.mul_comm k a)
        clear hgc hpos
        go_wp2_with (first | ((with_reducible refine kn_load E.out rfl rfl rfl rfl ?_)) | ((with_reducible refine kn_load_if E.out rfl rfl rfl rfl ?_)) | ((with_reducible refine kn_loads E.out rfl rfl rfl ?_ ?_); (focus (first | rfl | (simp only [i64s_length, u8s_length]; first | rfl | assumption | omega)))) | ((with_reducible refine kn_loads_if E.out rfl rfl rfl ?_ ?_); (focus (first | rfl | (simp only [i64s_length, u8s_length]; first | rfl | assumption | omega)))) | ((with_reducible refine kn_store1_int E.out rfl rfl rfl rfl rfl ?_); clear E; intro u E0; have E := Lib.hid E0; clear E0) | ((with_reducible refine kn_store1_slice E.out rfl rfl rfl rfl rfl ?_); clear E; intro u E0; have E := Lib.hid E0; clear E0) | ((with_reducible refine kn_store1_bool E.out rfl rfl rfl rfl rfl ?_); clear E; intro u E0; have E := Lib.hid E0; clear E0) | ((with_reducible refine kn_stores E.out rfl rfl rfl rfl rfl ?_ ?_ ?_); (focus (first | exact ⟨rfl, rfl⟩ | (simp only [i64s_length, u8s_length]; refine ⟨?_, ?_⟩ <;> first | rfl | assumption | omega))); (focus (first | exact i64s_one _ | exact u8s_one _ | simp [Value.oneCell'])); clear E; intro u E0; have E := Lib.hid E0; clear E0) | ((with_reducible refine kn_alloc E.out rfl rfl ?_); clear E; intro g u E0 hb0; have E := Lib.hid E0; clear E0 hb0) | ((with_reducible refine kn_box E.out rfl rfl rfl ?_); clear E; intro g u E0 hb0; have E := Lib.hid E0; clear E0 hb0) | ((with_reducible refine kn_box_int E.out rfl rfl rfl ?_); clear E; intro g u E0 hb0; have E := Lib.hid E0; clear E0 hb0) | ((with_reducible refine kn_box_slice E.out rfl rfl rfl ?_); clear E; intro g u E0 hb0; have E := Lib.hid E0; clear E0 hb0) | ((with_reducible refine kn_box_bool E.out rfl rfl rfl ?_); clear E; intro g u E0 hb0; have E := Lib.hid E0; clear E0 hb0) | ((with_reducible refine kn_box_func E.out rfl rfl rfl ?_); clear E; intro g u E0 hb0; have E := Lib.hid E0; clear E0 hb0))
        refine bodyPost_ret (results_kn2 E.out rfl _ rfl rfl) rfl ?_
        rw [← hka.out] at HKL ⊢
        exact ⟨_, rfl, E.out.own_imgN HKL.out (by have := hmx; rw [← hka.out] at this; omega) _ _, E.out.bel⟩

set_option maxHeartbeats 1000000 in
theorem rhalf_no (W H : Int) (A : Option Addr) (n c : Nat) (w : World) (hn : n ≤ 67108864) (hp : ¬ rightP W H n) :
    Calls Try.prog 24 #[img W H A n c] w fun e w' => ∃ v', e = .returned (.tuple #[v', .int .i64 1]) ∧ ImgN w.heap.size w' v' 0 0 [] ∧ Below w.heap.size w w' := by
  have E := Lib.hid (Kn.start w)
  have hR := Lib.hid (fun u => rright_any W H A n c u (by omega))
  rw [decide_eq_false hp] at hR
  have hbi := built_image
  clear hp
  go_enter Try.func24, Try.ntmps24
  go_wp2_with (first
    | (go_at_call 51; refine (hR.out _).mono ?_; rintro e w1 ⟨rfl, hb⟩; have E1 := Lib.hid (E.out.later hb); clear hb E; have E := E1; clear E1)
    | ((with_reducible refine kn_load E.out rfl rfl rfl rfl ?_)) | ((with_reducible refine kn_load_if E.out rfl rfl rfl rfl ?_)) | ((with_reducible refine kn_loads E.out rfl rfl rfl ?_ ?_); (focus (first | rfl | (simp only [i64s_length, u8s_length]; first | rfl | assumption | omega)))) | ((with_reducible refine kn_loads_if E.out rfl rfl rfl ?_ ?_); (focus (first | rfl | (simp only [i64s_length, u8s_length]; first | rfl | assumption | omega)))) | ((with_reducible refine kn_store1_int E.out rfl rfl rfl rfl rfl ?_); clear E; intro u E0; have E := Lib.hid E0; clear E0) | ((with_reducible refine kn_store1_slice E.out rfl rfl rfl rfl rfl ?_); clear E; intro u E0; have E := Lib.hid E0; clear E0) | ((with_reducible refine kn_store1_bool E.out rfl rfl rfl rfl rfl ?_); clear E; intro u E0; have E := Lib.hid E0; clear E0) | ((with_reducible refine kn_stores E.out rfl rfl rfl rfl rfl ?_ ?_ ?_); (focus (first | exact ⟨rfl, rfl⟩ | (simp only [i64s_length, u8s_length]; refine ⟨?_, ?_⟩ <;> first | rfl | assumption | omega))); (focus (first | exact i64s_one _ | exact u8s_one _ | simp [Value.oneCell'])); clear E; intro u E0; have E := Lib.hid E0; clear E0) | ((with_reducible refine kn_alloc E.out rfl rfl ?_); clear E; intro g u E0 hb0; have E := Lib.hid E0; clear E0 hb0) | ((with_reducible refine kn_box E.out rfl rfl rfl ?_); clear E; intro g u E0 hb0; have E := Lib.hid E0; clear E0 hb0) | ((with_reducible refine kn_box_int E.out rfl rfl rfl ?_); clear E; intro g u E0 hb0; have E := Lib.hid E0; clear E0 hb0) | ((with_reducible refine kn_box_slice E.out rfl rfl rfl ?_); clear E; intro g u E0 hb0; have E := Lib.hid E0; clear E0 hb0) | ((with_reducible refine kn_box_bool E.out rfl rfl rfl ?_); clear E; intro g u E0 hb0; have E := Lib.hid E0; clear E0 hb0) | ((with_reducible refine kn_box_func E.out rfl rfl rfl ?_); clear E; intro g u E0 hb0; have E := Lib.hid E0; clear E0 hb0))
  refine bodyPost_ret (results_kn2 E.out rfl _ rfl rfl) rfl ?_
  exact ⟨_, rfl, ImgN.nil _ _, E.out.bel⟩
theorem rhalf_any (v : Value) (W H : Int) (xs : List Nat) (w : World) (h : Img w v W H xs) :
    Calls Try.prog 24 #[v] w fun e w' => ∃ v', e = .returned (.tuple #[v', .int .i64 (noE (rightP W H xs.length))]) ∧ ImgN w.heap.size w' v' (putW (rightP W H xs.length) (hv W)) (putW (rightP W H xs.length) (hv H)) (putX (rightP W H xs.length) (hf W H xs)) ∧ Below w.heap.size w w' := by
  obtain ⟨A, n, c, rfl, hn, hB⟩ := h
  rw [hB.1]
  by_cases hp : rightP W H n
  · simp only [show ∀ z, putW (rightP W H n) z = z from fun z => if_pos hp, show ∀ z, putX (rightP W H n) z = z from fun z => if_pos hp, show noE (rightP W H n) = 0 from if_pos hp]
    exact rhalf_ok W H A n c xs w hp hB
  · simp only [show ∀ z, putW (rightP W H n) z = 0 from fun z => if_neg hp, show ∀ z, putX (rightP W H n) z = [] from fun z => if_neg hp, show noE (rightP W H n) = 1 from if_neg hp]
    exact rhalf_no W H A n c w hn hp
end Go.Proofs.Ytbpdaijmclcbdaa
