/- The half of an image: package mip. -/
import Derived.Test.YtbpdaijmclcbdaaMpLevel
import Derived.Test.YtbpdaijmclcbdaaMpMean
import Derived.Test.YtbpdaijmclcbdaaImRlay
namespace Go.Proofs.Ytbpdaijmclcbdaa
open Go.RowKit
open Im Mp

theorem kn_make0 {w u : World} {R : List Res} {F : List (World → Prop)} {ops : Array Oper} {rest : List Oper} {o : Oper} {a : Act} {Q : Exit → Act → World → Prop} (E : Kn w R F u) (hgd : o.guard = none) {t e : TypeId} {l c : Operand} (ho : o.op = .makeSlice t l c) {kl kc : IntKind} (hl : a.eval l = .int kl 0) {C : Nat} (hc : a.eval c = .int kc (C : Int)) (ht : Try.prog.underlying t = some (.slice e))
    {z : Value} {bytes size : Nat} (hinfo : (Try.prog.info? e).map (fun i => (i.zero, i.size, i.bytes)) = some (some z, size, bytes)) (hb : bytes * C ≤ 281474976710656) (hC : C ≤ maxLen)
    (h : ∀ g u', Kn w (.own e size (.slice (some ⟨g, 0, none⟩) 0 C) 0 [] :: R) F u' → wpList Try.prog ops Q rest (a.put o.dst (.slice (some ⟨g, 0, none⟩) 0 C)) u') : wpList Try.prog ops Q (o :: rest) a u := by
  obtain ⟨i, hi, hz0, hz1, hz2⟩ := info_parts hinfo
  obtain ⟨u', hrun, hown, hgr⟩ := run_make_own (P := Try.prog) u w.heap.size t e i z size ht hi hz0 hz1 kl kc C (by rw [hz2]; exact hb) hC E.bel.size
  refine wpList_plain hgd fun _ hK => ?_
  unfold Oper.wp execOp
  simp only [ho, hl, hc, Sem.run_bind, hrun, Result.andThen_ok, Sem.run_pure]
  exact hK _ _ (h _ _ (E.add (r := .own e size (.slice (some ⟨u.heap.size, 0, none⟩) 0 C) 0 []) ⟨hgr.os, hgr.tape, hgr.output, hgr.size, fun k hk => hgr.block k hk (by simp)⟩ hown fun b e => by cases e; exact Nat.le_refl _))

theorem mod_step {a k q : Nat} (h : q < a) : (k * a + q) % a = q ∧ (k * a + q) / a = k := by
  have h0 : 0 < a := by omega
  rw [Nat.mul_comm]
  exact ⟨by rw [Nat.mul_add_mod, Nat.mod_eq_of_lt h], by rw [Nat.mul_add_div h0, Nat.div_eq_of_lt h, Nat.add_zero]⟩

set_option maxHeartbeats 4000000 in
theorem half_ok (W H : Int) (b off n c : Nat) (xs : List Nat) (w : World) (hr : rightP W H n) (hB : Bs w w.heap.size (some ⟨b, off, none⟩) n xs) :
    Calls Try.prog 50 #[img W H (some ⟨b, off, none⟩) n c] w fun e w' => ∃ v', e = .returned v' ∧ ImgN w.heap.size w' v' (hv W) (hv H) (hf W H xs) ∧ Below w.heap.size w w' := by
  have hn : n ≤ 67108864 := by have h1 := mul_sz hr.1; have h2 := hr.2; have h3 : 4 * W * H = 4 * (W * H) := by rw [Int.mul_assoc]
                               omega
  have hs := hr.1
  unfold szP at hs
  obtain ⟨s1, s2, s3, s4⟩ := hs
  have E := Lib.hid ((Kn.start w).arg_img (show Img w (img W H (some ⟨b, off, none⟩) n c) W H xs from ⟨_, n, c, rfl, hn, hB⟩))
  have hS1 := Lib.hid (fun u => side_any W 1 u (by omega) (by omega))
  have hS2 := Lib.hid (fun u => side_any H 1 u (by omega) (by omega))
  rw [sd_one s1] at hS1
  rw [sd_one s3] at hS2
  obtain ⟨a, ha⟩ : ∃ a : Nat, hv W = (a : Int) := ⟨(hv W).toNat, by have := hv_pos W; omega⟩
  obtain ⟨d, hd⟩ : ∃ d : Nat, hv H = (d : Int) := ⟨(hv H).toNat, by have := hv_pos H; omega⟩
  have ha1 : 1 ≤ a := by have := hv_pos W; omega
  have hd1 : 1 ≤ d := by have := hv_pos H; omega
  have ha2 : a ≤ 4096 := by have := hv_le s1; omega
  have hd2 : d ≤ 4096 := by have := hv_le s3; omega
  have hmx : a * d ≤ 16777216 := Nat.mul_le_mul ha2 hd2
  have hM := Lib.hid (fun (k q : Nat) (hk : k < d) (hq : q < a) (u : World) (hu : Bs u u.heap.size (some ⟨b, off, none⟩) n xs) => mean_any W H b off n c xs ((q : Nat) : Int) ((k : Nat) : Int) u hr (show insP _ _ _ _ from by rw [ha, hd]; exact ⟨by omega, by omega, by omega, by omega⟩) hu)
  have hK0 := Lib.hid (show hfK W H xs a 0 = [] from rfl)
  have hKS := Lib.hid (fun (k q : Nat) (hq : q < a) => show hfK W H xs a (k * a + q + 1) = hfK W H xs a (k * a + q) ++ hfT W H xs ((q : Nat) : Int) ((k : Nat) : Int) from by rw [hfK, (mod_step hq).1, (mod_step hq).2])
  have hKL := Lib.hid (hfK_lt hB.2.1 W H a (a * d))
  have hfe : hf W H xs = hfK W H xs a (a * d) := by unfold hf; rw [ha, hd]; rfl
  rw [hfe, ha, hd]
  rw [ha] at hS1
  rw [hd] at hS2
  have hmul : wrap64 (4 * (a : Int) * (d : Int)) = ((4 * (a * d) : Nat) : Int) := by
    rw [show 4 * (a : Int) * (d : Int) = ((4 * (a * d) : Nat) : Int) from by push_cast; rw [Int.mul_assoc]]
    exact wrap64_small _ (by omega) (by omega)
  have hTl : ∀ k q : Nat, (hfT W H xs ((q : Nat) : Int) ((k : Nat) : Int)).length = 4 := fun _ _ => rfl
  have HTl := Lib.hid hTl
  have HMul := Lib.hid hmul
  clear hfe hr hB ha hd hTl hmul
  generalize hfK W H xs a = hk at *
  go_enter Try.func50, Try.ntmps50
  go_wp2_with (first | ((with_reducible refine kn_load E.out rfl rfl rfl rfl ?_)) | ((with_reducible refine kn_load_if E.out rfl rfl rfl rfl ?_)) | ((with_reducible refine kn_loads E.out rfl rfl rfl ?_ ?_); (focus (first | rfl | (simp only [i64s_length, u8s_length]; first | rfl | assumption | omega)))) | ((with_reducible refine kn_loads_if E.out rfl rfl rfl ?_ ?_); (focus (first | rfl | (simp only [i64s_length, u8s_length]; first | rfl | assumption | omega)))) | ((with_reducible refine kn_store1_int E.out rfl rfl rfl rfl rfl ?_); clear E; intro u E0; have E := Lib.hid E0; clear E0) | ((with_reducible refine kn_store1_slice E.out rfl rfl rfl rfl rfl ?_); clear E; intro u E0; have E := Lib.hid E0; clear E0) | ((with_reducible refine kn_store1_bool E.out rfl rfl rfl rfl rfl ?_); clear E; intro u E0; have E := Lib.hid E0; clear E0) | ((with_reducible refine kn_stores E.out rfl rfl rfl rfl rfl ?_ ?_ ?_); (focus (first | exact ⟨rfl, rfl⟩ | (simp only [i64s_length, u8s_length]; refine ⟨?_, ?_⟩ <;> first | rfl | assumption | omega))); (focus (first | exact i64s_one _ | exact u8s_one _ | simp [Value.oneCell'])); clear E; intro u E0; have E := Lib.hid E0; clear E0) | ((with_reducible refine kn_alloc (o := ⟨some 1, _, _, _, _, _⟩) E.out rfl rfl ?_); clear E; intro g1 u E0 hb0; have E := Lib.hid E0; clear E0 hb0) | ((with_reducible refine kn_box (o := ⟨some 1, _, _, _, _, _⟩) E.out rfl rfl rfl ?_); clear E; intro g1 u E0 hb0; have E := Lib.hid E0; clear E0 hb0) | ((with_reducible refine kn_box_int (o := ⟨some 1, _, _, _, _, _⟩) E.out rfl rfl rfl ?_); clear E; intro g1 u E0 hb0; have E := Lib.hid E0; clear E0 hb0) | ((with_reducible refine kn_box_slice (o := ⟨some 1, _, _, _, _, _⟩) E.out rfl rfl rfl ?_); clear E; intro g1 u E0 hb0; have E := Lib.hid E0; clear E0 hb0) | ((with_reducible refine kn_box_bool (o := ⟨some 1, _, _, _, _, _⟩) E.out rfl rfl rfl ?_); clear E; intro g1 u E0 hb0; have E := Lib.hid E0; clear E0 hb0) | ((with_reducible refine kn_box_func (o := ⟨some 1, _, _, _, _, _⟩) E.out rfl rfl rfl ?_); clear E; intro g1 u E0 hb0; have E := Lib.hid E0; clear E0 hb0) | ((with_reducible refine kn_alloc (o := ⟨some 2, _, _, _, _, _⟩) E.out rfl rfl ?_); clear E; intro g2 u E0 hb0; have E := Lib.hid E0; clear E0 hb0) | ((with_reducible refine kn_box (o := ⟨some 2, _, _, _, _, _⟩) E.out rfl rfl rfl ?_); clear E; intro g2 u E0 hb0; have E := Lib.hid E0; clear E0 hb0) | ((with_reducible refine kn_box_int (o := ⟨some 2, _, _, _, _, _⟩) E.out rfl rfl rfl ?_); clear E; intro g2 u E0 hb0; have E := Lib.hid E0; clear E0 hb0) | ((with_reducible refine kn_box_slice (o := ⟨some 2, _, _, _, _, _⟩) E.out rfl rfl rfl ?_); clear E; intro g2 u E0 hb0; have E := Lib.hid E0; clear E0 hb0) | ((with_reducible refine kn_box_bool (o := ⟨some 2, _, _, _, _, _⟩) E.out rfl rfl rfl ?_); clear E; intro g2 u E0 hb0; have E := Lib.hid E0; clear E0 hb0) | ((with_reducible refine kn_box_func (o := ⟨some 2, _, _, _, _, _⟩) E.out rfl rfl rfl ?_); clear E; intro g2 u E0 hb0; have E := Lib.hid E0; clear E0 hb0) | ((with_reducible refine kn_alloc E.out rfl rfl ?_); clear E; intro g u E0 hb0; have E := Lib.hid E0; clear E0 hb0) | ((with_reducible refine kn_box E.out rfl rfl rfl ?_); clear E; intro g u E0 hb0; have E := Lib.hid E0; clear E0 hb0) | ((with_reducible refine kn_box_int E.out rfl rfl rfl ?_); clear E; intro g u E0 hb0; have E := Lib.hid E0; clear E0 hb0) | ((with_reducible refine kn_box_slice E.out rfl rfl rfl ?_); clear E; intro g u E0 hb0; have E := Lib.hid E0; clear E0 hb0) | ((with_reducible refine kn_box_bool E.out rfl rfl rfl ?_); clear E; intro g u E0 hb0; have E := Lib.hid E0; clear E0 hb0) | ((with_reducible refine kn_box_func E.out rfl rfl rfl ?_); clear E; intro g u E0 hb0; have E := Lib.hid E0; clear E0 hb0))
  refine wp_region_held_drew (S := Kn w [.row g2 24 (imL 0 0 none 0 0), .row g1 24 (imL W H (some ⟨b, off, none⟩) n c)] [imgF (img W H (some ⟨b, off, none⟩) n c) W H xs]) (by kernel_rfl) E.out.drew (fun kS => ?_)
  generalize World.drew _ = u1 at kS ⊢
  clear E
  have E := Lib.hid kS
  (refine takeL (i := 0) (v := _) rfl (by kernel_rfl) (by kernel_rfl) (by kernel_rfl) (fun _ _ _ h => h) (by first | exact Or.inl ⟨by rfl, (by intro u hSu; clear hSu; go_simp; try with_reducible rfl)⟩ | exact Or.inr ⟨by rfl, rfl⟩) kS ?_; (try simp only [Act.put, List.setIfInBounds_toArray, List.set_cons_zero, List.set_cons_succ]))
  (refine takeL (i := 1) (v := _) rfl (by kernel_rfl) (by kernel_rfl) (by kernel_rfl) (fun _ _ _ h => h) (by first | exact yield_load rfl rfl rfl rfl | exact yield_loads rfl rfl rfl rfl | exact yield_loads rfl rfl rfl (by simp only [i64s_length, u8s_length]; first | assumption | omega) | exact yield_loadi rfl rfl rfl (by first | assumption | omega) | exact yield_loadp rfl rfl rfl (by first | assumption | omega)) kS ?_; (try simp only [Act.put, List.setIfInBounds_toArray, List.set_cons_zero, List.set_cons_succ]))
  (refine takeL (i := 3) (v := _) rfl (by kernel_rfl) (by kernel_rfl) (by kernel_rfl) (fun _ _ _ h => h) (by first | exact Or.inl ⟨by rfl, (by intro u hSu; clear hSu; go_simp; try with_reducible rfl)⟩ | exact Or.inr ⟨by rfl, rfl⟩) kS ?_; (try simp only [Act.put, List.setIfInBounds_toArray, List.set_cons_zero, List.set_cons_succ]))
  (refine takeL (i := 4) (v := _) rfl (by kernel_rfl) (by kernel_rfl) (by kernel_rfl) (fun _ _ _ h => h) (by first | exact yield_load rfl rfl rfl rfl | exact yield_loads rfl rfl rfl rfl | exact yield_loads rfl rfl rfl (by simp only [i64s_length, u8s_length]; first | assumption | omega) | exact yield_loadi rfl rfl rfl (by first | assumption | omega) | exact yield_loadp rfl rfl rfl (by first | assumption | omega)) kS ?_; (try simp only [Act.put, List.setIfInBounds_toArray, List.set_cons_zero, List.set_cons_succ]))
  refine callL (i := 2) rfl (by kernel_rfl) (fun K hK => ?_)
  go_simp
  refine (hS1.out _).mono ?_
  rintro e w5 ⟨rfl, hb⟩
  have E1 := Lib.hid (E.out.later hb); clear hb E; have E := E1; clear E1
  go_wp2_with fail
  (refine hK.out _ _ (E.out.part _ _ (by repeat (first | exact List.Sublist.refl _ | apply List.Sublist.cons_cons | apply List.Sublist.cons)) (by simp)) (fun kS => ?_); clear hK K; (try simp only [Act.put, List.setIfInBounds_toArray, List.set_cons_zero, List.set_cons_succ]))
  refine callL (i := 5) rfl (by kernel_rfl) (fun K hK => ?_)
  go_simp
  refine (hS2.out _).mono ?_
  rintro e w6 ⟨rfl, hb⟩
  have E1 := Lib.hid (E.out.later hb); clear hb E; have E := E1; clear E1
  go_wp2_with fail
  (refine hK.out _ _ (E.out.part _ _ (by repeat (first | exact List.Sublist.refl _ | apply List.Sublist.cons_cons | apply List.Sublist.cons)) (by simp)) (fun kS => ?_); clear hK K; (try simp only [Act.put, List.setIfInBounds_toArray, List.set_cons_zero, List.set_cons_succ]))
  (refine takeL (i := 6) (v := _) rfl (by kernel_rfl) (by kernel_rfl) (by kernel_rfl) (fun _ _ _ h => h) (by first | exact Or.inl ⟨by rfl, (by intro u hSu; clear hSu; go_simp; try with_reducible rfl)⟩ | exact Or.inr ⟨by rfl, rfl⟩) kS ?_; (try simp only [Act.put, List.setIfInBounds_toArray, List.set_cons_zero, List.set_cons_succ])); (refine takeL (i := 7) (v := _) rfl (by kernel_rfl) (by kernel_rfl) (by kernel_rfl) (fun _ _ _ h => h) (by first | exact Or.inl ⟨by rfl, (by intro u hSu; clear hSu; go_simp; try with_reducible rfl)⟩ | exact Or.inr ⟨by rfl, rfl⟩) kS ?_; (try simp only [Act.put, List.setIfInBounds_toArray, List.set_cons_zero, List.set_cons_succ]))
  refine wpAnyH_done (by kernel_rfl) ?_ _
  clear kS
  go_wp2_with (first
    | ((with_reducible refine kn_make0 (C := 4 * (a * d)) (kc := .i64) E.out rfl rfl rfl ?_ Try.underlying22 info_u8 ?_ ?_ ?_); (focus (exact congrArg (Value.int .i64) HMul.out)); (focus (omega)); (focus (unfold maxLen; omega)); clear E; intro g5 u E0; have E := Lib.hid E0; clear E0)
    | ((with_reducible refine kn_load E.out rfl rfl rfl rfl ?_)) | ((with_reducible refine kn_load_if E.out rfl rfl rfl rfl ?_)) | ((with_reducible refine kn_loads E.out rfl rfl rfl ?_ ?_); (focus (first | rfl | (simp only [i64s_length, u8s_length]; first | rfl | assumption | omega)))) | ((with_reducible refine kn_loads_if E.out rfl rfl rfl ?_ ?_); (focus (first | rfl | (simp only [i64s_length, u8s_length]; first | rfl | assumption | omega)))) | ((with_reducible refine kn_store1_int E.out rfl rfl rfl rfl rfl ?_); clear E; intro u E0; have E := Lib.hid E0; clear E0) | ((with_reducible refine kn_store1_slice E.out rfl rfl rfl rfl rfl ?_); clear E; intro u E0; have E := Lib.hid E0; clear E0) | ((with_reducible refine kn_store1_bool E.out rfl rfl rfl rfl rfl ?_); clear E; intro u E0; have E := Lib.hid E0; clear E0) | ((with_reducible refine kn_stores E.out rfl rfl rfl rfl rfl ?_ ?_ ?_); (focus (first | exact ⟨rfl, rfl⟩ | (simp only [i64s_length, u8s_length]; refine ⟨?_, ?_⟩ <;> first | rfl | assumption | omega))); (focus (first | exact i64s_one _ | exact u8s_one _ | simp [Value.oneCell'])); clear E; intro u E0; have E := Lib.hid E0; clear E0) | ((with_reducible refine kn_alloc E.out rfl rfl ?_); clear E; intro g u E0 hb0; have E := Lib.hid E0; clear E0 hb0) | ((with_reducible refine kn_box E.out rfl rfl rfl ?_); clear E; intro g u E0 hb0; have E := Lib.hid E0; clear E0 hb0) | ((with_reducible refine kn_box_int E.out rfl rfl rfl ?_); clear E; intro g u E0 hb0; have E := Lib.hid E0; clear E0 hb0) | ((with_reducible refine kn_box_slice E.out rfl rfl rfl ?_); clear E; intro g u E0 hb0; have E := Lib.hid E0; clear E0 hb0) | ((with_reducible refine kn_box_bool E.out rfl rfl rfl ?_); clear E; intro g u E0 hb0; have E := Lib.hid E0; clear E0 hb0) | ((with_reducible refine kn_box_func E.out rfl rfl rfl ?_); clear E; intro g u E0 hb0; have E := Lib.hid E0; clear E0 hb0))
  go_loopw [21, 5] (fun i v wr => ∃ k : Nat, k ≤ d ∧ i = .int .i64 k ∧ Hid (Kn w [.own 5 1 v (4 * (k * a)) (u8s (hk (k * a))), .row g2 24 (imL 0 0 none 0 0), .row g1 24 (imL W H (some ⟨b, off, none⟩) n c)] [imgF (img W H (some ⟨b, off, none⟩) n c) W H xs] wr)) (fun i _ _ => d - (intOf i).toNat)
  case atStart => exact ⟨0, by omega, rfl, by rw [Nat.zero_mul, hK0.out]; exact E⟩
  case round =>
    clear E
    obtain ⟨k, hk1, rfl, E⟩ := hrel
    by_cases hlt : k < d
    · go_wp2_with (first | ((with_reducible refine kn_load E.out rfl rfl rfl rfl ?_)) | ((with_reducible refine kn_load_if E.out rfl rfl rfl rfl ?_)) | ((with_reducible refine kn_loads E.out rfl rfl rfl ?_ ?_); (focus (first | rfl | (simp only [i64s_length, u8s_length]; first | rfl | assumption | omega)))) | ((with_reducible refine kn_loads_if E.out rfl rfl rfl ?_ ?_); (focus (first | rfl | (simp only [i64s_length, u8s_length]; first | rfl | assumption | omega)))) | ((with_reducible refine kn_store1_int E.out rfl rfl rfl rfl rfl ?_); clear E; intro u E0; have E := Lib.hid E0; clear E0) | ((with_reducible refine kn_store1_slice E.out rfl rfl rfl rfl rfl ?_); clear E; intro u E0; have E := Lib.hid E0; clear E0) | ((with_reducible refine kn_store1_bool E.out rfl rfl rfl rfl rfl ?_); clear E; intro u E0; have E := Lib.hid E0; clear E0) | ((with_reducible refine kn_stores E.out rfl rfl rfl rfl rfl ?_ ?_ ?_); (focus (first | exact ⟨rfl, rfl⟩ | (simp only [i64s_length, u8s_length]; refine ⟨?_, ?_⟩ <;> first | rfl | assumption | omega))); (focus (first | exact i64s_one _ | exact u8s_one _ | simp [Value.oneCell'])); clear E; intro u E0; have E := Lib.hid E0; clear E0) | ((with_reducible refine kn_alloc E.out rfl rfl ?_); clear E; intro g u E0 hb0; have E := Lib.hid E0; clear E0 hb0) | ((with_reducible refine kn_box E.out rfl rfl rfl ?_); clear E; intro g u E0 hb0; have E := Lib.hid E0; clear E0 hb0) | ((with_reducible refine kn_box_int E.out rfl rfl rfl ?_); clear E; intro g u E0 hb0; have E := Lib.hid E0; clear E0 hb0) | ((with_reducible refine kn_box_slice E.out rfl rfl rfl ?_); clear E; intro g u E0 hb0; have E := Lib.hid E0; clear E0 hb0) | ((with_reducible refine kn_box_bool E.out rfl rfl rfl ?_); clear E; intro g u E0 hb0; have E := Lib.hid E0; clear E0 hb0) | ((with_reducible refine kn_box_func E.out rfl rfl rfl ?_); clear E; intro g u E0 hb0; have E := Lib.hid E0; clear E0 hb0))
      try rw [show decide (k < d) = true from by simp; omega]
      go_loopw [25, 5] (fun i v wr => ∃ q : Nat, q ≤ a ∧ i = .int .i64 q ∧ Hid (Kn w [.own 5 1 v (4 * (k * a + q)) (u8s (hk (k * a + q))), .row g2 24 (imL 0 0 none 0 0), .row g1 24 (imL W H (some ⟨b, off, none⟩) n c)] [imgF (img W H (some ⟨b, off, none⟩) n c) W H xs] wr)) (fun i _ _ => a - (intOf i).toNat)
      case atStart => exact ⟨0, by omega, rfl, E⟩
      case round =>
        clear E
        obtain ⟨q, hq1, rfl, E⟩ := hrel
        by_cases hlt2 : q < a
        · have hm := Lib.hid (hM.out k q hlt hlt2)
          have hs := Lib.hid (hKS.out k q hlt2)
          have hl4 := HTl.out k q
          have hqm : k * a + q + 1 ≤ 16777216 := Nat.le_trans (by have : (k + 1) * a ≤ d * a := Nat.mul_le_mul_right a hlt; rw [Nat.add_mul, Nat.one_mul, Nat.mul_comm d a] at this; omega) hmx
          have HQM := Lib.hid hqm
          clear hM hKS HTl hqm
          generalize hfT W H xs ((q : Nat) : Int) ((k : Nat) : Int) = T at *
          go_wp2_with (first
            | (go_at_call 60; refine (hm.out _ (Img.bs (E.out.img (v := img W H (some ⟨b, off, none⟩) n c)))).mono ?_; rintro e w7 ⟨rfl, hb⟩; have E1 := Lib.hid (E.out.later hb); clear hb E; have E := E1; clear E1)
            | ((with_reducible refine kn_append_row E.out rfl rfl ?_ Try.underlying22 info_u8 ?_ ?_ rfl ?_ ?_ ?_ ?_ ?_); (focus (rfl)); (focus (rfl)); (focus (omega)); (focus (rw [u8s_length, hl4])); (focus (exact u8s_one _)); (focus (have := HQM.out; unfold maxLen; omega)); (focus (have := HQM.out; omega)); clear E; intro v' u' E0; have E := Lib.hid E0; clear E0)
            | ((with_reducible refine kn_load E.out rfl rfl rfl rfl ?_)) | ((with_reducible refine kn_load_if E.out rfl rfl rfl rfl ?_)) | ((with_reducible refine kn_loads E.out rfl rfl rfl ?_ ?_); (focus (first | rfl | (simp only [i64s_length, u8s_length]; first | rfl | assumption | omega)))) | ((with_reducible refine kn_loads_if E.out rfl rfl rfl ?_ ?_); (focus (first | rfl | (simp only [i64s_length, u8s_length]; first | rfl | assumption | omega)))) | ((with_reducible refine kn_store1_int E.out rfl rfl rfl rfl rfl ?_); clear E; intro u E0; have E := Lib.hid E0; clear E0) | ((with_reducible refine kn_store1_slice E.out rfl rfl rfl rfl rfl ?_); clear E; intro u E0; have E := Lib.hid E0; clear E0) | ((with_reducible refine kn_store1_bool E.out rfl rfl rfl rfl rfl ?_); clear E; intro u E0; have E := Lib.hid E0; clear E0) | ((with_reducible refine kn_stores E.out rfl rfl rfl rfl rfl ?_ ?_ ?_); (focus (first | exact ⟨rfl, rfl⟩ | (simp only [i64s_length, u8s_length]; refine ⟨?_, ?_⟩ <;> first | rfl | assumption | omega))); (focus (first | exact i64s_one _ | exact u8s_one _ | simp [Value.oneCell'])); clear E; intro u E0; have E := Lib.hid E0; clear E0) | ((with_reducible refine kn_alloc E.out rfl rfl ?_); clear E; intro g u E0 hb0; have E := Lib.hid E0; clear E0 hb0) | ((with_reducible refine kn_box E.out rfl rfl rfl ?_); clear E; intro g u E0 hb0; have E := Lib.hid E0; clear E0 hb0) | ((with_reducible refine kn_box_int E.out rfl rfl rfl ?_); clear E; intro g u E0 hb0; have E := Lib.hid E0; clear E0 hb0) | ((with_reducible refine kn_box_slice E.out rfl rfl rfl ?_); clear E; intro g u E0 hb0; have E := Lib.hid E0; clear E0 hb0) | ((with_reducible refine kn_box_bool E.out rfl rfl rfl ?_); clear E; intro g u E0 hb0; have E := Lib.hid E0; clear E0 hb0) | ((with_reducible refine kn_box_func E.out rfl rfl rfl ?_); clear E; intro g u E0 hb0; have E := Lib.hid E0; clear E0 hb0))
          go_roundw
          case rel => exact ⟨q + 1, by omega, by go_num, by rw [show k * a + (q + 1) = k * a + q + 1 from by omega, hs.out, u8s_append, show 4 * (k * a + q + 1) = 4 * (k * a + q) + 4 from by omega]; exact E.out.part _ _ (by repeat (first | exact List.Sublist.refl _ | apply List.Sublist.cons_cons | apply List.Sublist.cons)) (by simp)⟩
          case measure => simp [intOf]; omega
        · obtain rfl : q = a := by omega
          go_wp2_with (first | ((with_reducible refine kn_load E.out rfl rfl rfl rfl ?_)) | ((with_reducible refine kn_load_if E.out rfl rfl rfl rfl ?_)) | ((with_reducible refine kn_loads E.out rfl rfl rfl ?_ ?_); (focus (first | rfl | (simp only [i64s_length, u8s_length]; first | rfl | assumption | omega)))) | ((with_reducible refine kn_loads_if E.out rfl rfl rfl ?_ ?_); (focus (first | rfl | (simp only [i64s_length, u8s_length]; first | rfl | assumption | omega)))) | ((with_reducible refine kn_store1_int E.out rfl rfl rfl rfl rfl ?_); clear E; intro u E0; have E := Lib.hid E0; clear E0) | ((with_reducible refine kn_store1_slice E.out rfl rfl rfl rfl rfl ?_); clear E; intro u E0; have E := Lib.hid E0; clear E0) | ((with_reducible refine kn_store1_bool E.out rfl rfl rfl rfl rfl ?_); clear E; intro u E0; have E := Lib.hid E0; clear E0) | ((with_reducible refine kn_stores E.out rfl rfl rfl rfl rfl ?_ ?_ ?_); (focus (first | exact ⟨rfl, rfl⟩ | (simp only [i64s_length, u8s_length]; refine ⟨?_, ?_⟩ <;> first | rfl | assumption | omega))); (focus (first | exact i64s_one _ | exact u8s_one _ | simp [Value.oneCell'])); clear E; intro u E0; have E := Lib.hid E0; clear E0) | ((with_reducible refine kn_alloc E.out rfl rfl ?_); clear E; intro g u E0 hb0; have E := Lib.hid E0; clear E0 hb0) | ((with_reducible refine kn_box E.out rfl rfl rfl ?_); clear E; intro g u E0 hb0; have E := Lib.hid E0; clear E0 hb0) | ((with_reducible refine kn_box_int E.out rfl rfl rfl ?_); clear E; intro g u E0 hb0; have E := Lib.hid E0; clear E0 hb0) | ((with_reducible refine kn_box_slice E.out rfl rfl rfl ?_); clear E; intro g u E0 hb0; have E := Lib.hid E0; clear E0 hb0) | ((with_reducible refine kn_box_bool E.out rfl rfl rfl ?_); clear E; intro g u E0 hb0; have E := Lib.hid E0; clear E0 hb0) | ((with_reducible refine kn_box_func E.out rfl rfl rfl ?_); clear E; intro g u E0 hb0; have E := Lib.hid E0; clear E0 hb0))
          go_roundw
          case rel => exact ⟨k + 1, by omega, by go_num, by rw [Nat.add_mul, Nat.one_mul]; exact E⟩
          case measure => simp [intOf]; omega
    · obtain rfl : k = d := by omega
      have hpos : 0 < 4 * (k * a) := by have := Nat.mul_pos hd1 ha1; omega
      obtain ⟨g, cap, rfl⟩ := own_shape (E.out.own (v := u5)) hpos
      have hka := Lib.hid (Nat.mul_comm k a)
      clear hM hKS HTl hK0 hpos
      go_wp2_with (first | ((with_reducible refine kn_load E.out rfl rfl rfl rfl ?_)) | ((with_reducible refine kn_load_if E.out rfl rfl rfl rfl ?_)) | ((with_reducible refine kn_loads E.out rfl rfl rfl ?_ ?_); (focus (first | rfl | (simp only [i64s_length, u8s_length]; first | rfl | assumption | omega)))) | ((with_reducible refine kn_loads_if E.out rfl rfl rfl ?_ ?_); (focus (first | rfl | (simp only [i64s_length, u8s_length]; first | rfl | assumption | omega)))) | ((with_reducible refine kn_store1_int E.out rfl rfl rfl rfl rfl ?_); clear E; intro u E0; have E := Lib.hid E0; clear E0) | ((with_reducible refine kn_store1_slice E.out rfl rfl rfl rfl rfl ?_); clear E; intro u E0; have E := Lib.hid E0; clear E0) | ((with_reducible refine kn_store1_bool E.out rfl rfl rfl rfl rfl ?_); clear E; intro u E0; have E := Lib.hid E0; clear E0) | ((with_reducible refine kn_stores E.out rfl rfl rfl rfl rfl ?_ ?_ ?_); (focus (first | exact ⟨rfl, rfl⟩ | (simp only [i64s_length, u8s_length]; refine ⟨?_, ?_⟩ <;> first | rfl | assumption | omega))); (focus (first | exact i64s_one _ | exact u8s_one _ | simp [Value.oneCell'])); clear E; intro u E0; have E := Lib.hid E0; clear E0) | ((with_reducible refine kn_alloc E.out rfl rfl ?_); clear E; intro g u E0 hb0; have E := Lib.hid E0; clear E0 hb0) | ((with_reducible refine kn_box E.out rfl rfl rfl ?_); clear E; intro g u E0 hb0; have E := Lib.hid E0; clear E0 hb0) | ((with_reducible refine kn_box_int E.out rfl rfl rfl ?_); clear E; intro g u E0 hb0; have E := Lib.hid E0; clear E0 hb0) | ((with_reducible refine kn_box_slice E.out rfl rfl rfl ?_); clear E; intro g u E0 hb0; have E := Lib.hid E0; clear E0 hb0) | ((with_reducible refine kn_box_bool E.out rfl rfl rfl ?_); clear E; intro g u E0 hb0; have E := Lib.hid E0; clear E0 hb0) | ((with_reducible refine kn_box_func E.out rfl rfl rfl ?_); clear E; intro g u E0 hb0; have E := Lib.hid E0; clear E0 hb0))
      refine bodyPost_ret (results_kn E.out rfl _ rfl rfl) rfl ?_
      rw [← hka.out] at hKL ⊢
      exact ⟨_, rfl, E.out.own_imgN hKL.out (by have := hmx; rw [← hka.out] at this; omega) _ _, E.out.bel⟩

set_option maxHeartbeats 1000000 in
theorem mhalf_any (v : Value) (W H : Int) (xs : List Nat) (w : World) (h : Img w v W H xs) :
    Calls Try.prog 23 #[v] w fun e w' => ∃ v', e = .returned (.tuple #[v', .int .i64 (noE (rightP W H xs.length))]) ∧ ImgN w.heap.size w' v' (putW (rightP W H xs.length) (hv W)) (putW (rightP W H xs.length) (hv H)) (putX (rightP W H xs.length) (hf W H xs)) ∧ Below w.heap.size w w' := by
  have E := Lib.hid ((Kn.start w).arg_img h)
  obtain ⟨A, n, c, rfl, hn, hB⟩ := h
  have hl := hB.1
  rw [hl]
  have hR := Lib.hid (fun u => right_any W H A n c u (by omega))
  have hbi := built_image
  by_cases hp : rightP W H n
  · simp only [show ∀ z, putW (rightP W H n) z = z from fun z => if_pos hp, show ∀ z, putX (rightP W H n) z = z from fun z => if_pos hp, show noE (rightP W H n) = 0 from if_pos hp]
    rw [decide_eq_true hp] at hR
    obtain ⟨b, off, rfl, _⟩ := hB.2.2 (right_pos hp)
    have hH := Lib.hid (fun (u : World) (hu : Bs u u.heap.size (some ⟨b, off, none⟩) n xs) => half_ok W H b off n c xs u hp hu)
    clear hp hB hl
    generalize hf W H xs = hx at *
    generalize hv W = hW at *
    generalize hv H = hH' at *
    go_enter Try.func23, Try.ntmps23
    go_wp2_with (first
      | (go_at_call 20; refine (hR.out _).mono ?_; rintro e w1 ⟨rfl, hb⟩; have E1 := Lib.hid (E.out.later hb); clear hb E; have E := E1; clear E1)
      | (go_at_call 50; refine (hH.out _ (Img.bs (E.out.img (v := img W H (some ⟨b, off, none⟩) n c)))).mono ?_; rintro e w2 ⟨v2, rfl, hI, hb⟩; have hbz := Lib.hid E.out.bel.size; have E1 := Lib.hid (E.out.fresh_img hb hI); clear hb E; have E := E1; clear E1; obtain ⟨A2, n2, c2, rfl, hn2, hB2, hf2⟩ := hI; have HF2 := Lib.hid (fun b off e => Nat.le_trans hbz.out (hf2 b off e)); clear hf2 hB2)
      | ((with_reducible refine kn_load E.out rfl rfl rfl rfl ?_)) | ((with_reducible refine kn_load_if E.out rfl rfl rfl rfl ?_)) | ((with_reducible refine kn_loads E.out rfl rfl rfl ?_ ?_); (focus (first | rfl | (simp only [i64s_length, u8s_length]; first | rfl | assumption | omega)))) | ((with_reducible refine kn_loads_if E.out rfl rfl rfl ?_ ?_); (focus (first | rfl | (simp only [i64s_length, u8s_length]; first | rfl | assumption | omega)))) | ((with_reducible refine kn_store1_int E.out rfl rfl rfl rfl rfl ?_); clear E; intro u E0; have E := Lib.hid E0; clear E0) | ((with_reducible refine kn_store1_slice E.out rfl rfl rfl rfl rfl ?_); clear E; intro u E0; have E := Lib.hid E0; clear E0) | ((with_reducible refine kn_store1_bool E.out rfl rfl rfl rfl rfl ?_); clear E; intro u E0; have E := Lib.hid E0; clear E0) | ((with_reducible refine kn_stores E.out rfl rfl rfl rfl rfl ?_ ?_ ?_); (focus (first | exact ⟨rfl, rfl⟩ | (simp only [i64s_length, u8s_length]; refine ⟨?_, ?_⟩ <;> first | rfl | assumption | omega))); (focus (first | exact i64s_one _ | exact u8s_one _ | simp [Value.oneCell'])); clear E; intro u E0; have E := Lib.hid E0; clear E0) | ((with_reducible refine kn_alloc E.out rfl rfl ?_); clear E; intro g u E0 hb0; have E := Lib.hid E0; clear E0 hb0) | ((with_reducible refine kn_box E.out rfl rfl rfl ?_); clear E; intro g u E0 hb0; have E := Lib.hid E0; clear E0 hb0) | ((with_reducible refine kn_box_int E.out rfl rfl rfl ?_); clear E; intro g u E0 hb0; have E := Lib.hid E0; clear E0 hb0) | ((with_reducible refine kn_box_slice E.out rfl rfl rfl ?_); clear E; intro g u E0 hb0; have E := Lib.hid E0; clear E0 hb0) | ((with_reducible refine kn_box_bool E.out rfl rfl rfl ?_); clear E; intro g u E0 hb0; have E := Lib.hid E0; clear E0 hb0) | ((with_reducible refine kn_box_func E.out rfl rfl rfl ?_); clear E; intro g u E0 hb0; have E := Lib.hid E0; clear E0 hb0))
    refine bodyPost_ret (results_kn2 E.out rfl _ rfl rfl) rfl ?_
    exact ⟨_, rfl, ⟨A2, n2, c2, rfl, hn2, Img.bs (E.out.img (v := img hW hH' A2 n2 c2)), HF2.out⟩, E.out.bel⟩
  · simp only [show ∀ z, putW (rightP W H n) z = 0 from fun z => if_neg hp, show ∀ z, putX (rightP W H n) z = [] from fun z => if_neg hp, show noE (rightP W H n) = 1 from if_neg hp]
    rw [decide_eq_false hp] at hR
    clear hp hB hl
    go_enter Try.func23, Try.ntmps23
    go_wp2_with (first
      | (go_at_call 20; refine (hR.out _).mono ?_; rintro e w1 ⟨rfl, hb⟩; have E1 := Lib.hid (E.out.later hb); clear hb E; have E := E1; clear E1)
      | ((with_reducible refine kn_load E.out rfl rfl rfl rfl ?_)) | ((with_reducible refine kn_load_if E.out rfl rfl rfl rfl ?_)) | ((with_reducible refine kn_loads E.out rfl rfl rfl ?_ ?_); (focus (first | rfl | (simp only [i64s_length, u8s_length]; first | rfl | assumption | omega)))) | ((with_reducible refine kn_loads_if E.out rfl rfl rfl ?_ ?_); (focus (first | rfl | (simp only [i64s_length, u8s_length]; first | rfl | assumption | omega)))) | ((with_reducible refine kn_store1_int E.out rfl rfl rfl rfl rfl ?_); clear E; intro u E0; have E := Lib.hid E0; clear E0) | ((with_reducible refine kn_store1_slice E.out rfl rfl rfl rfl rfl ?_); clear E; intro u E0; have E := Lib.hid E0; clear E0) | ((with_reducible refine kn_store1_bool E.out rfl rfl rfl rfl rfl ?_); clear E; intro u E0; have E := Lib.hid E0; clear E0) | ((with_reducible refine kn_stores E.out rfl rfl rfl rfl rfl ?_ ?_ ?_); (focus (first | exact ⟨rfl, rfl⟩ | (simp only [i64s_length, u8s_length]; refine ⟨?_, ?_⟩ <;> first | rfl | assumption | omega))); (focus (first | exact i64s_one _ | exact u8s_one _ | simp [Value.oneCell'])); clear E; intro u E0; have E := Lib.hid E0; clear E0) | ((with_reducible refine kn_alloc E.out rfl rfl ?_); clear E; intro g u E0 hb0; have E := Lib.hid E0; clear E0 hb0) | ((with_reducible refine kn_box E.out rfl rfl rfl ?_); clear E; intro g u E0 hb0; have E := Lib.hid E0; clear E0 hb0) | ((with_reducible refine kn_box_int E.out rfl rfl rfl ?_); clear E; intro g u E0 hb0; have E := Lib.hid E0; clear E0 hb0) | ((with_reducible refine kn_box_slice E.out rfl rfl rfl ?_); clear E; intro g u E0 hb0; have E := Lib.hid E0; clear E0 hb0) | ((with_reducible refine kn_box_bool E.out rfl rfl rfl ?_); clear E; intro g u E0 hb0; have E := Lib.hid E0; clear E0 hb0) | ((with_reducible refine kn_box_func E.out rfl rfl rfl ?_); clear E; intro g u E0 hb0; have E := Lib.hid E0; clear E0 hb0))
    refine bodyPost_ret (results_kn2 E.out rfl _ rfl rfl) rfl ?_
    exact ⟨_, rfl, ImgN.nil _ _, E.out.bel⟩
end Go.Proofs.Ytbpdaijmclcbdaa
